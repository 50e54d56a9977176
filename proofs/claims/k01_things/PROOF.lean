import PyProof.Rows.All
import Wide.All
import OpenK.AllK
import Wide.FinOn
import Lean
import PyProof.EqAt
import PyProof.EqKinds
import PyProof.TupleCall
import PyProof.P3Statements
import PySem.Challenge.RW_twonamed_k01_things
set_option Elab.async false
set_option linter.all false
set_option maxRecDepth 100000
namespace L2
open PySem PySem.Spec PyProof.Rows
noncomputable abbrev Key := Sum Int Str
noncomputable def keyIs : Key → Value → Bool
  | .inl k, v => Value.isInt k v
  | .inr x, v => Value.isStrOf x v
noncomputable def keyH (w : World) : Key → Int
  | .inl k => hashInt k
  | .inr x => hashStr w x
theorem keyIs_shape : ∀ {k : Key} {v : Value}, keyIs k v = true → (∃ i t, k = Sum.inl i ∧ v = Value.int i t) ∨ (∃ x t, k = Sum.inr x ∧ v = Value.str x t)
  | .inl i, v, h => by
    obtain ⟨t, e⟩ := Value.isInt_shape (k := i) (v := v) h
    exact .inl ⟨i, t, rfl, e⟩
  | .inr x, v, h => by
    obtain ⟨t, e⟩ := Value.isStrOf_shape (x := x) (v := v) h
    exact .inr ⟨x, t, rfl, e⟩
theorem keyIs_int (i : Int) (t : Tok) : keyIs (.inl i) (.int i t) = true := by simp [keyIs, Value.isInt]
theorem keyIs_str (x : Str) (t : Tok) : keyIs (.inr x) (.str x t) = true := by simp [keyIs, Value.isStrOf]
theorem key_ll (a b : Int) : decide ((Sum.inl a : Key) = Sum.inl b) = (a == b) := by
  by_cases e : a = b
  · subst e; simp
  · have h : ¬ (Sum.inl a : Key) = Sum.inl b := fun q => e (Sum.inl.inj q)
    rw [decide_eq_false h]
    exact (beq_eq_false_iff_ne.mpr e).symm
theorem key_rr (a b : Str) : decide ((Sum.inr a : Key) = Sum.inr b) = decide (a = b) := by
  by_cases e : a = b
  · subst e; simp
  · have h : ¬ (Sum.inr a : Key) = Sum.inr b := fun q => e (Sum.inr.inj q)
    rw [decide_eq_false h, decide_eq_false e]
theorem key_lr (a : Int) (b : Str) : decide ((Sum.inl a : Key) = Sum.inr b) = false := decide_eq_false (fun q => nomatch q)
theorem key_rl (a : Str) (b : Int) : decide ((Sum.inr a : Key) = Sum.inl b) = false := decide_eq_false (fun q => nomatch q)
noncomputable def mixKind (prog : Program) (w : World) : PySem.KeyKind prog w Key where
  is := keyIs
  hash := keyH w
  inj := fun v a b ha hb => by
    rcases keyIs_shape ha with ⟨i, t, rfl, rfl⟩ | ⟨x, t, rfl, rfl⟩
    · rcases keyIs_shape hb with ⟨j, u, rfl, e⟩ | ⟨y, u, rfl, e⟩
      · injection e with e1 _; rw [e1]
      · exact nomatch e
    · rcases keyIs_shape hb with ⟨j, u, rfl, e⟩ | ⟨y, u, rfl, e⟩
      · exact nomatch e
      · injection e with e1 _; rw [e1]
  byValue := fun k v h => by
    rcases keyIs_shape h with ⟨i, t, rfl, rfl⟩ | ⟨x, t, rfl, rfl⟩ <;> rfl
  pyHash := fun hv h => by
    rcases keyIs_shape hv with ⟨i, t, rfl, rfl⟩ | ⟨x, t, rfl, rfl⟩
    · exact wpAny_pyHash_int h
    · exact wpAny_pyHash_str h
  eqBool := fun hu hv h => by
    rcases keyIs_shape hu with ⟨i, t, rfl, rfl⟩ | ⟨x, t, rfl, rfl⟩
    · rcases keyIs_shape hv with ⟨j, u, rfl, rfl⟩ | ⟨y, u, rfl, rfl⟩
      · rw [key_ll] at h; exact wpAny_eqBool_int h
      · rw [key_lr] at h; exact SeqAt.EqAt.int_str i t y u _ _ _ _ h
    · rcases keyIs_shape hv with ⟨j, u, rfl, rfl⟩ | ⟨y, u, rfl, rfl⟩
      · rw [key_rl] at h; exact SeqAt.EqAt.str_int x t j u _ _ _ _ h
      · rw [key_rr] at h; exact wpAny_eqBool_str h
  «strs» := fun k x t v h => by
    rcases keyIs_shape h with ⟨i, u, rfl, e⟩ | ⟨y, u, rfl, e⟩
    · exact nomatch e
    · injection e with e1 _
      subst e1
      cases v <;> rfl
theorem mixKind_int (prog : Program) (w : World) (i : Int) (t : Tok) : (mixKind prog w).is (.inl i) (.int i t) = true := keyIs_int i t
theorem mixKind_str (prog : Program) (w : World) (x : Str) (t : Tok) : (mixKind prog w).is (.inr x) (.str x t) = true := keyIs_str x t
end L2
namespace L2
open PySem PySem.Spec PyProof.Rows
inductive V where
  | non | bl (b : Bool) | int (i : Int) | str (x : Str) | byt (b : Array UInt8) | flt (b : UInt64) | ref (a : Addr) | ty (n : String)
  deriving DecidableEq
noncomputable def RelV : V → Value → Prop
  | .non, u => u = Value.none
  | .bl b, u => u = Value.bool b
  | .int i, u => ∃ t, u = Value.int i t
  | .str x, u => ∃ t, u = Value.str x t
  | .byt b, u => ∃ t, u = Value.bytes b t
  | .flt b, u => ∃ t, u = Value.float b t
  | .ref a, u => u = Value.ref a
  | .ty n, u => u = Value.type n
noncomputable abbrev Vals : List V → List Value → Prop := Paired RelV
theorem Vals.length {xs : List V} {us : List Value} (r : Vals xs us) : xs.length = us.length := Paired.length r
theorem Vals.get : ∀ {xs : List V} {us : List Value} {i : Nat} {x : V}, Vals xs us → xs[i]? = some x → ∃ u, us[i]? = some u ∧ RelV x u
  | _, _, _, _, .nil, e => by simp at e
  | _, _, 0, _, .cons r _, e => by simp at e; subst e; exact ⟨_, rfl, r⟩
  | _, _, i + 1, x, .cons _ t, e => by
    obtain ⟨u, h1, h2⟩ := Vals.get (i := i) (x := x) t (by simpa using e)
    exact ⟨u, by simpa using h1, h2⟩
theorem Vals.set {x : V} {u : Value} (r : RelV x u) : ∀ {xs : List V} {us : List Value} (i : Nat), Vals xs us → Vals (xs.set i x) (us.set i u)
  | _, _, _, .nil => .nil
  | _, _, 0, .cons _ t => .cons r t
  | _, _, i + 1, .cons q t => .cons q (Vals.set r i t)
theorem Vals.append : ∀ {xs ys : List V} {us ws : List Value}, Vals xs us → Vals ys ws → Vals (xs ++ ys) (us ++ ws)
  | _, _, _, _, .nil, s => s
  | _, _, _, _, .cons r t, s => .cons r (Vals.append t s)
theorem Vals.take : ∀ {xs : List V} {us : List Value} (n : Nat), Vals xs us → Vals (xs.take n) (us.take n)
  | _, _, 0, _ => .nil
  | _, _, _ + 1, .nil => .nil
  | _, _, n + 1, .cons r t => .cons r (Vals.take n t)
theorem Vals.drop : ∀ {xs : List V} {us : List Value} (n : Nat), Vals xs us → Vals (xs.drop n) (us.drop n)
  | _, _, 0, r => r
  | _, _, _ + 1, .nil => .nil
  | _, _, n + 1, .cons _ t => Vals.drop n t
noncomputable def RelO : Option V → Option Value → Prop
  | some v, some u => RelV v u
  | none, none => True
  | _, _ => False
noncomputable def KV {κ : Type} : List (κ × V) → List (κ × Value) → Prop := Paired fun (p : κ × V) (q : κ × Value) => p.1 = q.1 ∧ RelV p.2 q.2
noncomputable def kV : Key → V
  | .inl i => .int i
  | .inr x => .str x
inductive HO where
  /-- a list -/
  | lst (xs : List V)
  /-- a tuple (never changes) -/
  | tup (xs : List V)
  /-- a dict whose keys are ints and texts; one whose keys are tuples of ints and texts (the empty one is both) -/
  | dK (kvs : List (Key × V)) | dT (kvs : List (List Key × V))
  /-- a set of ints: its members, its size -/
  | set (S : Int → Bool) (n : Nat)
  /-- an instance of the class at C, its dict at dx, its attributes -/
  | ins (C dx : Addr) (fs : List (Str × V))
  /-- the dict of the instance at x -/
  | own (x : Addr)
  /-- the dict of an exception -/
  | xd (fs : List (Str × V))
  /-- a bound method, f of x -/
  | met (f x : Addr)
  /-- a range object lo, lo + 1, .. below hi -/
  | rng (lo hi : Int)
  /-- a thing that is known to the object (the script; a dict while a loop walks it): read, never written while it is so -/
  | frz (o : Obj) (u : HO)
  /-- a code object's table -/
  | tbl (ps : Array Value)
  /-- any other thing, by what is true of its one object (a def of one's own: SetO a S n := HO.ext fun h => ..) -/
  | ext (φ : Heap → Prop)
noncomputable abbrev Hp := Addr → Option HO
noncomputable def upd (H : Hp) (a : Addr) (o : HO) : Hp := fun b => if b = a then some o else H b
theorem upd_same {H : Hp} {a : Addr} {o : HO} : upd H a o a = some o := by unfold upd; rw [if_pos rfl]
theorem upd_ne {H : Hp} {a b : Addr} {o : HO} (h : b ≠ a) : upd H a o b = H b := by unfold upd; rw [if_neg h]
theorem ne_of_none {H : Hp} {a b : Addr} {o : HO} (h : H a = some o) (h' : H b = none) : a ≠ b := by
  intro e; subst e; rw [h] at h'; cases h'
section
variable (P : Program) (w : World)
noncomputable def ObjOk (H : Hp) (h : Heap) (a : Addr) : HO → Prop
  | .lst xs => xs.length ≤ sizeLine ∧ ∃ (its : List Value) (n : Nat), Vals xs its ∧ h.get? a = some { cls := .type "list", data := .seq its.toArray n }
  | .tup xs => xs.length ≤ sizeLine ∧ ∃ its : List Value, Vals xs its ∧ IsTup h a its.toArray
  | .dK kvs => kvs.length ≤ sizeLine ∧ (a == sysModules) = false ∧ ∃ vs, KV kvs vs ∧ h.DictOf (mixKind P w) a vs
  | .dT kvs => kvs.length ≤ sizeLine ∧ (a == sysModules) = false ∧ ∃ xs : List (List Key × Addr × Value),
      Paired (fun (p : List Key × V) (q : List Key × Addr × Value) => p.1 = q.1 ∧ H q.2.1 = some (.tup (p.1.map kV)) ∧ RelV p.2 q.2.2) kvs xs ∧
      ∃ o es ep, h.get? a = some o ∧ o.ExactDict ∧ o.data = .dict es ep ∧ es.toList = xs.map (entryOfKey (tupleKind (mixKind P w))) ∧ (xs.map (·.1)).Nodup
  | .set S n => h.SetOf (intKind P w) a S n
  | .ins C dx fs => H dx = some (.own a) ∧ fs.length ≤ 1000 ∧ dx ≠ a ∧ h.get? a = some (PySem.W.instObj C dx) ∧
      ∃ mA, h.Ns1 dx mA ∧ (∀ f, RelO (fs.lookup f) (mA f)) ∧ PySem.Within mA (fs.map (·.1))
  | .own _ => ∃ o, h.get? a = some o
  | .xd fs => ∃ mA, h.Ns1 a mA ∧ ∀ f, RelO (fs.lookup f) (mA f)
  | .rng lo hi => ∃ t u v, h.get? a = some { cls := .type "range", data := .fields #[.int lo t, .int hi u, .int 1 v] }
  | .frz o u => h.get? a = some o ∧ ObjOk H h a u
  | .tbl ps => h.get? a = some { cls := .none, data := .fields ps }
  | .met f x => h.get? a = some (PySem.W.methodObj (.ref f) (.ref x))
  | .ext φ => φ h ∧ (∃ o, h.get? a = some o) ∧ ∀ h1 h2 : Heap, φ h1 → (∀ o, h1.get? a = some o → h2.get? a = some o) → φ h2
noncomputable def HOk (H : Hp) (h : Heap) : Prop := ∀ a o, H a = some o → ObjOk P w H h a o
end
section
variable {P : Program} {w : World} {H H' : Hp} {h h' : Heap} {a : Addr} {o : HO}
theorem ObjOk.lt (x : ObjOk P w H h a o) : a < h.objs.size := by
  cases o with
  | lst xs => obtain ⟨_, _, _, _, e⟩ := x; exact Heap.lt_size e
  | tup xs => obtain ⟨_, _, _, p⟩ := x; exact p.lt
  | dK kvs => obtain ⟨_, _, _, _, o, _, _, e, _⟩ := x; exact Heap.lt_size e
  | dT kvs => obtain ⟨_, _, _, _, o, _, _, e, _⟩ := x; exact Heap.lt_size e
  | set S n => obtain ⟨o, _, _, _, e, _⟩ := x; exact Heap.lt_size e
  | ins C dx fs => obtain ⟨_, _, _, e, _⟩ := x; exact Heap.lt_size e
  | own y => obtain ⟨_, e⟩ := x; exact Heap.lt_size e
  | xd fs => obtain ⟨_, ⟨_, _, _, e, _⟩, _⟩ := x; exact Heap.lt_size e
  | rng lo hi => obtain ⟨_, _, _, e⟩ := x; exact Heap.lt_size e
  | frz ob u => obtain ⟨e, _⟩ := x; exact Heap.lt_size e
  | tbl ps => exact Heap.lt_size (show h.get? a = some _ from x)
  | met f y => exact Heap.lt_size (show h.get? a = some _ from x)
  | ext φ => obtain ⟨_, ⟨_, e⟩, _⟩ := x; exact Heap.lt_size e
theorem Paired.mapP {α β : Type} {F G : α → β → Prop} : ∀ {l₁ : List α} {l₂ : List β}, Paired F l₁ l₂ → (∀ a b, F a b → G a b) → Paired G l₁ l₂
  | _, _, .nil, _ => .nil
  | _, _, .cons r t, f => .cons (f _ _ r) (Paired.mapP t f)
theorem ObjOk.stay (x : ObjOk P w H h a o) (k : ∀ b u, (b = a ∨ H b = some (.own a)) → h.get? b = some u → h'.get? b = some u)
    (ho : ∀ b, H b = some (.own a) → H' b = some (.own a)) (ht : ∀ b xs, H b = some (.tup xs) → H' b = some (.tup xs)) : ObjOk P w H' h' a o := by
  induction o with
  | lst xs => obtain ⟨z, its, n, r, e⟩ := x; exact ⟨z, its, n, r, k _ _ (.inl rfl) e⟩
  | tup xs => obtain ⟨z, its, r, ob, e, c⟩ := x; exact ⟨z, its, r, ob, k _ _ (.inl rfl) e, c⟩
  | dK kvs => obtain ⟨z, y, vs, r, ob, es, ep, e, c⟩ := x; exact ⟨z, y, vs, r, ob, es, ep, k _ _ (.inl rfl) e, c⟩
  | dT kvs =>
    obtain ⟨z, y, xs, r, ob, es, ep, e, c⟩ := x
    exact ⟨z, y, xs, Paired.mapP r fun p q z => ⟨z.1, ht _ _ z.2.1, z.2.2⟩, ob, es, ep, k _ _ (.inl rfl) e, c⟩
  | set S n => obtain ⟨ob, es, ep, t, e, c⟩ := x; exact ⟨ob, es, ep, t, k _ _ (.inl rfl) e, c⟩
  | ins C dx fs =>
    obtain ⟨d, z, ne, e, mA, ⟨od, es, ep, e2, c⟩, r⟩ := x
    exact ⟨ho _ d, z, ne, k _ _ (.inl rfl) e, mA, ⟨od, es, ep, k _ _ (.inr d) e2, c⟩, r⟩
  | own y => obtain ⟨ob, e⟩ := x; exact ⟨ob, k _ _ (.inl rfl) e⟩
  | xd fs => obtain ⟨mA, ⟨od, es, ep, e, c⟩, r⟩ := x; exact ⟨mA, ⟨od, es, ep, k _ _ (.inl rfl) e, c⟩, r⟩
  | rng lo hi => obtain ⟨t, u, v, e⟩ := x; exact ⟨t, u, v, k _ _ (.inl rfl) e⟩
  | frz ob u ih => obtain ⟨e, q⟩ := x; exact ⟨k _ _ (.inl rfl) e, ih q⟩
  | tbl ps =>
    have e : h.get? a = some { cls := .none, data := .fields ps } := x
    show h'.get? a = some { cls := .none, data := .fields ps }
    exact k a _ (.inl rfl) e
  | met f y =>
    have e : h.get? a = some (PySem.W.methodObj (.ref f) (.ref y)) := x
    show h'.get? a = some (PySem.W.methodObj (.ref f) (.ref y))
    exact k a _ (.inl rfl) e
  | ext φ => obtain ⟨p, ⟨o, e⟩, st⟩ := x; exact ⟨st _ _ p fun o q => k _ _ (.inl rfl) q, ⟨o, k _ _ (.inl rfl) e⟩, st⟩
theorem HOk.lt (x : HOk P w H h) (e : H a = some o) : a < h.objs.size := (x a o e).lt
theorem HOk.fresh (x : HOk P w H h) (e : h.objs.size ≤ a) : H a = none := by
  cases q : H a with
  | none => rfl
  | some u => exact absurd (Nat.lt_of_lt_of_le (x.lt q) e) (Nat.lt_irrefl _)
theorem HOk.kept (x : HOk P w H h) (k : ∀ b u, h.get? b = some u → h'.get? b = some u) : HOk P w H h' := fun a o e =>
  (x a o e).stay (fun b u _ q => k b u q) (fun _ q => q) fun _ _ q => q
theorem HOk.laid (x : HOk P w H h) (k : ∀ b u, h.get? b = some u → h'.get? b = some u) (hp : h.objs.size ≤ a) (new : ObjOk P w (upd H a o) h' a o) : HOk P w (upd H a o) h' := fun b u e => by
  have hn := x.fresh hp
  by_cases hb : b = a
  · subst hb; rw [upd_same] at e; cases e; exact new
  · rw [upd_ne hb] at e
    exact (x b u e).stay (fun c v _ q => k c v q) (fun c q => by rw [upd_ne (ne_of_none q hn)]; exact q) fun c xs q => by rw [upd_ne (ne_of_none q hn)]; exact q
end
noncomputable def Rd (H : Hp) (a : Addr) (u : HO) : Prop := H a = some u ∨ ∃ o, H a = some (.frz o u)
theorem Rd.ok {P : Program} {w : World} {H : Hp} {h : Heap} {a : Addr} {u : HO} (r : Rd H a u) (x : HOk P w H h) : ObjOk P w H h a u := by
  rcases r with r | ⟨o, r⟩
  · exact x a u r
  · obtain ⟨_, q⟩ := x a _ r
    exact q
noncomputable def Mut : Option HO → Prop
  | some (.lst _) => True
  | some (.dK _) => True
  | some (.dT _) => True
  | some (.set _ _) => True
  | some (.ins _ _ _) => True
  | some (.ext _) => True
  | _ => False
section
variable {P : Program} {w : World} {H : Hp} {h h' : Heap} {x e : Addr} {o' : HO}
theorem HOk.write (ok : HOk P w H h) (mu : Mut (H x)) (he : e = x ∨ H e = some (.own x)) (k : ∀ b u, b ≠ e → h.get? b = some u → h'.get? b = some u) (heo : ∃ u, h'.get? e = some u)
    (new : ObjOk P w (upd H x o') h' x o') : HOk P w (upd H x o') h' := fun b u q => by
  have nown : ∀ c y, H c = some (.own y) → c ≠ x := fun c y r z => by subst z; rw [r] at mu; exact mu
  have ntup : ∀ c xs, H c = some (.tup xs) → c ≠ x := fun c xs r z => by subst z; rw [r] at mu; exact mu
  by_cases hb : b = x
  · subst hb; rw [upd_same] at q; cases q; exact new
  · rw [upd_ne hb] at q
    by_cases hbe : b = e
    · have q' : H b = some (.own x) := by
        rcases he with z | z
        · exact absurd (hbe.trans z) hb
        · rw [hbe]; exact z
      rw [q] at q'; cases q'
      obtain ⟨v, hv⟩ := heo
      exact ⟨v, by rw [hbe]; exact hv⟩
    · refine (ok b u q).stay (fun c v hc r => k c v ?_ r) (fun c r => by rw [upd_ne (nown c b r)]; exact r) fun c xs r => by rw [upd_ne (ntup c xs r)]; exact r
      rcases hc with rfl | hc
      · exact hbe
      · rintro rfl
        rcases he with z | z
        · exact nown c b hc z
        · rw [hc] at z; cases z; exact hb rfl
end
structure Un (fs ex : List Addr) (H H' : Hp) (h h' : Heap) : Prop where
  keep : ∀ b o, h.get? b = some o → H b = none → b ∉ fs → b ∉ ex → h'.get? b = some o
  slot : ∀ b o, h.get? b = some o → H b = none → b ∈ fs → b ∉ ex → ∃ sl, h'.get? b = some { o with slots := sl }
  free : ∀ b o, h.get? b = some o → H b = none → b ∉ ex → H' b = none
  there : ∀ b o, h.get? b = some o → b ∉ ex → ∃ o', h'.get? b = some o'
  tups : ∀ b xs, H b = some (.tup xs) → H' b = some (.tup xs)
  frzs : ∀ b o u, H b = some (.frz o u) → H' b = some (.frz o u)
  tbls : ∀ b ps, H b = some (.tbl ps) → ∃ more, H' b = some (.tbl (ps ++ more))
section
variable {fs fs' ex ex' : List Addr} {H H1 H2 : Hp} {h h1 h2 h' : Heap} {a x e : Addr} {o : HO}
theorem Un.any (u : Un fs ex H H1 h h1) {b : Addr} {ob : Obj} (q : h.get? b = some ob) (n : H b = none) (hx : b ∉ ex) : ∃ sl, h1.get? b = some { ob with slots := sl } := by
  by_cases hb : b ∈ fs
  · exact u.slot b ob q n hb hx
  · exact ⟨ob.slots, u.keep b ob q n hb hx⟩
theorem Un.kept (k : ∀ b u, h.get? b = some u → h'.get? b = some u) : Un fs ex H H h h' :=
  ⟨fun b ob q _ _ _ => k b ob q, fun b ob q _ _ _ => ⟨ob.slots, k b ob q⟩, fun _ _ _ n _ => n, fun b ob q _ => ⟨ob, k b ob q⟩, fun _ _ q => q, fun _ _ _ q => q, fun _ ps q => ⟨#[], by rw [q]; simp⟩⟩
theorem Un.refl : Un fs ex H H h h := Un.kept fun _ _ q => q
theorem Un.laid (k : ∀ b u, h.get? b = some u → h'.get? b = some u) (hp : h.objs.size ≤ a) (hn : H a = none) : Un fs ex H (upd H a o) h h' where
  keep := fun b u q _ _ _ => k b u q
  slot := fun b u q _ _ _ => ⟨u.slots, k b u q⟩
  free := fun b u q n _ => by rw [upd_ne (Nat.ne_of_lt (Nat.lt_of_lt_of_le (Heap.lt_size q) hp))]; exact n
  there := fun b u q _ => ⟨u, k b u q⟩
  tups := fun b xs q => by rw [upd_ne (ne_of_none q hn)]; exact q
  frzs := fun b u xs q => by rw [upd_ne (ne_of_none q hn)]; exact q
  tbls := fun b ps q => ⟨#[], by rw [upd_ne (ne_of_none q hn), q]; simp⟩
theorem Un.write (mu : Mut (H x)) (he : e = x ∨ H e = some (.own x)) (k : ∀ b u, b ≠ e → h.get? b = some u → h'.get? b = some u) (heo : ∃ u, h'.get? e = some u) : Un fs ex H (upd H x o) h h' := by
  have hx : ∀ b, H b = none → b ≠ x := fun b n z => by subst z; rw [n] at mu; exact mu
  have hb : ∀ b, H b = none → b ≠ e := fun b n z => by
    subst z
    rcases he with r | r
    · exact hx b n r
    · rw [n] at r; cases r
  have hm : ∀ b u, H b = some u → ¬ Mut (some u) → b ≠ x := fun b u q nm z => by subst z; rw [q] at mu; exact nm mu
  refine ⟨fun b u q n _ _ => k b u (hb b n) q, fun b u q n _ _ => ⟨u.slots, k b u (hb b n) q⟩, fun b u q n _ => by rw [upd_ne (hx b n)]; exact n, fun b u q _ => ?_,
    fun b xs q => by rw [upd_ne (hm b _ q fun z => z)]; exact q, fun b u xs q => by rw [upd_ne (hm b _ q fun z => z)]; exact q, fun b ps q => ⟨#[], by rw [upd_ne (hm b _ q fun z => z), q]; simp⟩⟩
  by_cases hbe : b = e
  · subst hbe; exact heo
  · exact ⟨u, k b u hbe q⟩
end
noncomputable def trk (h : Heap) (H : Hp) : List Addr := (List.range h.objs.size).filter fun a => (H a).isSome
noncomputable def hidT (h : Heap) (H : Hp) : Heap := PySem.W.hideAll h (trk h H)
theorem hidT_size (h : Heap) (H : Hp) : (hidT h H).objs.size = h.objs.size := PySem.W.hideAll_size _ _
theorem hidT_get {h : Heap} {H : Hp} {b : Addr} {o : Obj} (e : h.get? b = some o) (n : H b = none) : (hidT h H).get? b = some o :=
  PySem.W.hideAll_get _ e fun hm => by
    have q : (H b).isSome = true := (List.mem_filter.mp hm).2
    rw [n] at q; simp at q
theorem of_hidT {h : Heap} {H : Hp} {b : Addr} {o : Obj} (e : (hidT h H).get? b = some o) : h.get? b = some o ∧ H b = none := by
  have e' : h.get? b = some o := PySem.W.of_hideAll (trk h H) e
  refine ⟨e', ?_⟩
  cases q : H b with
  | none => rfl
  | some x =>
    have hm : b ∈ trk h H := List.mem_filter.mpr ⟨List.mem_range.mpr (Heap.lt_size e'), by simp [q]⟩
    have z : (hidT h H).get? b = none := PySem.W.hideAll_none (trk h H) hm
    rw [z] at e; cases e
end L2
namespace L2
open PySem PySem.Spec PyProof.Rows
structure Mod (K : PySem.W.Frag) (mg : Str → Option Value) (base : Heap) : Prop where
  kin : K.In base
  glob : base.Ns mainGlobals mg
  blt : ∃ mb, base.Ns builtinsNs mb ∧ ∀ x : Str, x ≠ "__name__" → mb x = bootBuiltins x
  nolimit : base.NoLimit
structure Cx where
  prog : Program
  w : World
  K : PySem.W.Frag
  mg : Str → Option Value
  base : Heap
  A : Around
  N : List Str
  s₀ : Shared
  H₀ : Hp
  env : Env
  outer : List Env
  stack : List Env
  ex : List Addr
  fn : Str → Bool
  calm : Bool
  pn : List (Addr × Obj)
  xe : Value → Shared → Prop
noncomputable def frs (l : List Env) : List Addr := l.filterMap (·.frame)
noncomputable abbrev Cx.fs (X : Cx) : List Addr := frs X.outer
noncomputable def Vis (sc : Scope) (x : Str) : Prop := sc.names.lookup x = some .local ∨ sc.names.lookup x = some .cell ∨ sc.names.lookup x = some .free
noncomputable def Loc (sc : Scope) (x : Str) : Prop := sc.names.lookup x = some .local ∨ sc.names.lookup x = some .cell
noncomputable def Look (env : Env) (h : Heap) (m : Str → Option Value) (x : Str) (u : Value) : Prop :=
  (env.kindOf x = some .local ∧ m x = some u) ∨ ((env.kindOf x = some .cell ∨ env.kindOf x = some .free) ∧ ∃ c, env.cells.lookup x = some c ∧ h.IsCell c (some u))
structure Cx.Ok (X : Cx) : Prop where
  mod : Mod X.K X.mg X.base
  kind : X.env.scope.kind = .function
  glob : X.env.globals = mainGlobals
  blt : X.env.builtins = builtinsNs
  above : X.s₀.heap.objs.size ≤ X.env.locals
  inj : ∀ x y c, X.env.cells.lookup x = some c → X.env.cells.lookup y = some c → x = y
  has : ∀ x, (X.env.kindOf x = some .cell ∨ X.env.kindOf x = some .free) → ∃ c, X.env.cells.lookup x = some c
  cab : ∀ x c, X.fn x = true → X.env.cells.lookup x = some c → X.s₀.heap.objs.size ≤ c
  hd : X.calm = true → X.A.handled = none
  frames : X.A.frames = some X.stack
  stk : X.stack = X.outer ∨ (X.stack = X.env :: X.outer ∧ X.env.frame = some X.env.locals)
  exf : ∀ b ∈ X.ex, b ≠ X.env.locals ∧ ∀ x c, X.env.cells.lookup x = some c → c ≠ b
  bs : ∀ b o, X.base.get? b = some o → X.s₀.heap.get? b = some o ∧ X.H₀ b = none
  bsz : X.base.objs.size ≤ X.s₀.heap.objs.size
  noex : ∀ b o, X.base.get? b = some o → b ∉ X.ex
  exfs : ∀ b ∈ X.ex, b ∉ X.fs
  funs : X.s₀.heap.FunFrames X.base X.outer
  frf : ∀ b ∈ X.fs, X.H₀ b = none
structure Inv (X : Cx) (pins : List (Addr × Obj)) (σ : List (Option V)) (H : Hp) (s : Shared) : Prop where
  ok : X.Ok
  os : s.os = X.s₀.os
  bare : AllBare s.gens
  base : Un X.fs X.ex X.H₀ H X.s₀.heap s.heap
  loc : ∃ m, s.heap.Ns X.env.locals m ∧ ∀ (i : Nat) (x : Str) (v : V), X.N[i]? = some x → σ[i]? = some (some v) → Vis X.env.scope x → ∃ u, RelV v u ∧ Look X.env s.heap m x u
  cell : ∀ x c, X.env.cells.lookup x = some c → ∃ v, s.heap.IsCell c v
  free : H X.env.locals = none
  freeC : ∀ x c, X.env.cells.lookup x = some c → H c = none
  pin : ∀ p ∈ X.pn ++ pins, s.heap.get? p.1 = some p.2 ∧ H p.1 = none ∧ p.1 ≠ X.env.locals ∧ p.1 ∉ X.fs ∧ ∀ v, p.2.data ≠ .cell v
  hok : HOk X.prog X.w H s.heap
  len : σ.length = X.N.length
section
variable {X : Cx} {pins : List (Addr × Obj)} {σ : List (Option V)} {H H' : Hp} {s : Shared} {h' : Heap}
theorem Cx.Ok.nofr (ok : X.Ok) {b : Addr} {o : Obj} (e : X.base.get? b = some o) : b ∉ X.fs := fun hb => by
  have := (ok.funs.mem hb).1
  rw [e] at this; cases this
theorem Inv.bs (I : Inv X pins σ H s) : ∀ b o, X.base.get? b = some o → s.heap.get? b = some o ∧ H b = none := fun b o e =>
  ⟨I.base.keep b o (I.ok.bs b o e).1 (I.ok.bs b o e).2 (I.ok.nofr e) (I.ok.noex b o e), I.base.free b o (I.ok.bs b o e).1 (I.ok.bs b o e).2 (I.ok.noex b o e)⟩
theorem Inv.bk (I : Inv X pins σ H s) : ∀ b o, X.base.get? b = some o → s.heap.get? b = some o := fun b o e => (I.bs b o e).1
theorem Inv.mod (I : Inv X pins σ H s) : Mod X.K X.mg X.base := I.ok.mod
theorem Inv.kIn (I : Inv X pins σ H s) : X.K.In s.heap := I.ok.mod.kin.keeps I.bk
theorem Inv.lt (I : Inv X pins σ H s) : X.env.locals < s.heap.objs.size := let ⟨_, hn, _⟩ := I.loc; hn.lt
theorem Inv.sz (I : Inv X pins σ H s) : X.s₀.heap.objs.size ≤ s.heap.objs.size := Nat.le_trans I.ok.above (Nat.le_of_lt I.lt)
theorem Inv.nofs (I : Inv X pins σ H s) {a : Addr} (h : s.heap.objs.size ≤ a) : a ∉ X.fs := fun hb => by
  obtain ⟨_, o, ho, _⟩ := I.ok.funs.mem hb
  exact absurd (Nat.lt_of_lt_of_le (Heap.lt_size ho) (Nat.le_trans I.sz h)) (Nat.lt_irrefl _)
theorem Inv.cne (I : Inv X pins σ H s) : ∀ x c, X.env.cells.lookup x = some c → c ≠ X.env.locals := fun x c e z => by
  obtain ⟨v, o, ho, hd⟩ := I.cell x c e
  obtain ⟨m, ⟨o', es, ep, ho', hd', _⟩, _⟩ := I.loc
  rw [z, ho'] at ho; cases ho; rw [hd'] at hd; cases hd
theorem Inv.funs (I : Inv X pins σ H s) : s.heap.FunFrames X.base X.outer := by
  have all : ∀ (l : List Env), (∀ b ∈ frs l, b ∈ X.fs) → X.s₀.heap.FunFrames X.base l → s.heap.FunFrames X.base l := by
    intro l
    induction l with
    | nil => intro _ _; trivial
    | cons env r ih =>
      intro hs hl
      obtain ⟨hk, ⟨L, o, hf, hn, ho, hd⟩, hr⟩ := hl
      have hL : L ∈ X.fs := hs L (by unfold frs; rw [List.filterMap_cons, hf]; exact List.mem_cons_self)
      obtain ⟨sl, e⟩ := I.base.slot L o ho (I.ok.frf L hL) hL fun z => I.ok.exfs L z hL
      exact ⟨hk, ⟨L, _, hf, hn, e, hd⟩, ih (fun b hb => hs b (by unfold frs; rw [List.filterMap_cons, hf]; exact List.mem_cons_of_mem _ hb)) hr⟩
  exact all X.outer (fun _ hb => hb) I.ok.funs
theorem Inv.stack (I : Inv X pins σ H s) : s.heap.FunFrames X.base X.stack := by
  rcases I.ok.stk with e | ⟨e, hf⟩
  · rw [e]; exact I.funs
  · rw [e]
    obtain ⟨m, hn, _⟩ := I.loc
    refine .cons (by rw [I.ok.kind]; decide) hf hn ?_ I.funs
    exact Heap.get?_none_of_le (Nat.le_trans I.ok.bsz I.ok.above)
theorem Inv.stkSub (I : Inv X pins σ H s) : ∀ b ∈ frs X.stack, b ∈ X.env.locals :: X.fs := fun b hb => by
  rcases I.ok.stk with e | ⟨e, hf⟩
  · rw [e] at hb; exact List.mem_cons_of_mem _ hb
  · rw [e] at hb
    unfold frs at hb
    rw [List.filterMap_cons, hf] at hb
    exact hb
theorem Inv.stkFree (I : Inv X pins σ H s) : ∀ b ∈ frs X.stack, H b = none := fun b hb => by
  rcases List.mem_cons.mp (I.stkSub b hb) with e | hb
  · rw [e]; exact I.free
  · obtain ⟨_, o, ho, _⟩ := I.ok.funs.mem hb
    exact I.base.free b o ho (I.ok.frf b hb) fun z => I.ok.exfs b z hb
theorem Inv.step {g' : Array GenState} {t' : Nat} {d' : Drawn} {ch : List Addr} (I : Inv X pins σ H s)
    (hch : ∀ b ∈ ch, (b ∈ X.ex ∨ X.s₀.heap.objs.size ≤ b) ∧ b ≠ X.env.locals ∧ (∀ x c, X.env.cells.lookup x = some c → c ≠ b) ∧ ∀ p ∈ X.pn ++ pins, p.1 ≠ b)
    (keep : ∀ b o, b ≠ X.env.locals → b ∉ X.fs → b ∉ ch → s.heap.get? b = some o → H b = none → h'.get? b = some o)
    (slot : ∀ b o, b ≠ X.env.locals → b ∈ X.fs → b ∉ ch → s.heap.get? b = some o → H b = none → ∃ sl, h'.get? b = some { o with slots := sl }) (free : ∀ b o, b ∉ ch → s.heap.get? b = some o → H b = none → H' b = none)
    (there : ∀ b o, b ∉ ch → s.heap.get? b = some o → ∃ o', h'.get? b = some o')
    (tups : ∀ b xs, H b = some (.tup xs) → H' b = some (.tup xs)) (frzs : ∀ b o u, H b = some (.frz o u) → H' b = some (.frz o u)) (tbls : ∀ b ps, H b = some (.tbl ps) → ∃ more, H' b = some (.tbl (ps ++ more)))
    (ns : ∀ m, s.heap.Ns X.env.locals m → h'.Ns X.env.locals m) (hok : HOk X.prog X.w H' h') (hg : AllBare g') :
    Inv X pins σ H' { s with heap := h', gens := g', drawn := d', toks := t' } := by
  have neL : ∀ b o, X.s₀.heap.get? b = some o → b ≠ X.env.locals := fun b o e => Nat.ne_of_lt (Nat.lt_of_lt_of_le (Heap.lt_size e) I.ok.above)
  have neC : ∀ b o, X.s₀.heap.get? b = some o → b ∉ X.ex → b ∉ ch := fun b o e hx hb => by
    rcases (hch b hb).1 with z | z
    · exact hx z
    · exact absurd (Nat.lt_of_lt_of_le (Heap.lt_size e) z) (Nat.lt_irrefl _)
  have cellK : ∀ x c, X.env.cells.lookup x = some c → ∀ v, s.heap.IsCell c v → h'.IsCell c v := fun x c e v ⟨o, ho, hd⟩ => by
    have nch : c ∉ ch := fun z => (hch c z).2.2.1 x c e rfl
    by_cases hc : c ∈ X.fs
    · obtain ⟨sl, q⟩ := slot c o (I.cne x c e) hc nch ho (I.freeC x c e)
      exact ⟨_, q, hd⟩
    · exact ⟨o, keep c o (I.cne x c e) hc nch ho (I.freeC x c e), hd⟩
  refine ⟨I.ok, I.os, hg, ⟨fun b o e n hb hx => ?_, fun b o e n hb hx => ?_, fun b o e n hx => ?_, fun b o e hx => ?_, fun b xs e => tups b xs (I.base.tups b xs e), fun b o xs e => frzs b o xs (I.base.frzs b o xs e), fun b ps e => ?_⟩, ?_, fun x c e => ?_, ?_, fun x c e => ?_, fun p hp => ?_, hok, I.len⟩
  · exact keep b o (neL b o e) hb (neC b o e hx) (I.base.keep b o e n hb hx) (I.base.free b o e n hx)
  · obtain ⟨sl, e1⟩ := I.base.slot b o e n hb hx
    obtain ⟨sl', e2⟩ := slot b _ (neL b o e) hb (neC b o e hx) e1 (I.base.free b o e n hx)
    exact ⟨sl', e2⟩
  · obtain ⟨o', e1⟩ := I.base.there b o e hx
    exact free b o' (neC b o e hx) e1 (I.base.free b o e n hx)
  · obtain ⟨o', e1⟩ := I.base.there b o e hx
    exact there b o' (neC b o e hx) e1
  · obtain ⟨m1, e1⟩ := I.base.tbls b ps e
    obtain ⟨m2, e2⟩ := tbls b _ e1
    exact ⟨m1 ++ m2, by rw [e2, Array.append_assoc]⟩
  · obtain ⟨m, hn, hl⟩ := I.loc
    refine ⟨m, ns m hn, fun i x v e1 e2 e3 => ?_⟩
    obtain ⟨u, r, l⟩ := hl i x v e1 e2 e3
    refine ⟨u, r, ?_⟩
    rcases l with l | ⟨k, c, e, z⟩
    · exact .inl l
    · exact .inr ⟨k, c, e, cellK x c e _ z⟩
  · obtain ⟨v, z⟩ := I.cell x c e
    exact ⟨v, cellK x c e v z⟩
  · obtain ⟨m, ⟨o, _, _, ho, _⟩, _⟩ := I.loc
    exact free _ o (fun z => (hch _ z).2.1 rfl) ho I.free
  · obtain ⟨v, o, ho, hd⟩ := I.cell x c e
    exact free c o (fun z => (hch c z).2.2.1 x c e rfl) ho (I.freeC x c e)
  · obtain ⟨e, n, ne, nf, d⟩ := I.pin p hp
    have nch : p.1 ∉ ch := fun z => (hch p.1 z).2.2.2 p hp rfl
    exact ⟨keep p.1 p.2 ne nf nch e n, free p.1 p.2 nch e n, ne, nf, d⟩
theorem Inv.un {t' : Nat} (I : Inv X pins σ H s) (u : Un X.fs [] H H' s.heap h') (hok : HOk X.prog X.w H' h') : Inv X pins σ H' { s with heap := h', toks := t' } := by
  obtain ⟨m, ⟨o, es, ep, ho, r⟩, _⟩ := id I.loc
  obtain ⟨sl, hL⟩ := u.any ho I.free (by simp)
  exact I.step (g' := s.gens) (d' := s.drawn) (ch := []) (fun _ z => nomatch z) (fun b o _ hb _ e n => u.keep b o e n hb (by simp)) (fun b o _ hb _ e n => u.slot b o e n hb (by simp)) (fun b o _ e n => u.free b o e n (by simp)) (fun b o _ e => u.there b o e (by simp)) u.tups u.frzs u.tbls (fun m' hm => by
    obtain ⟨o', es', ep', ho', r'⟩ := hm
    rw [ho] at ho'; cases ho'
    exact ⟨_, es', ep', hL, r'⟩) hok I.bare
theorem Inv.call {g' : Array GenState} {t' : Nat} {d' : Drawn} {ch : List Addr} (I : Inv X pins σ H s) (u : Un (frs X.stack) ch H H' s.heap h') (hok : HOk X.prog X.w H' h') (hg : AllBare g')
    (hch : ∀ b ∈ ch, (b ∈ X.ex ∨ X.s₀.heap.objs.size ≤ b) ∧ b ≠ X.env.locals ∧ (∀ x c, X.env.cells.lookup x = some c → c ≠ b) ∧ ∀ p ∈ X.pn ++ pins, p.1 ≠ b) :
    Inv X pins σ H' { s with heap := h', gens := g', drawn := d', toks := t' } := by
  obtain ⟨m, ⟨o, es, ep, ho, r⟩, _⟩ := id I.loc
  obtain ⟨sl, hL⟩ := u.any ho I.free fun z => (hch _ z).2.1 rfl
  exact I.step (ch := ch) hch (fun b o hL hb hc e n => u.keep b o e n (fun z => (List.mem_cons.mp (I.stkSub b z)).elim hL hb) hc) (fun b o _ _ hc e n => u.any e n hc) (fun b o hc e n => u.free b o e n hc) (fun b o hc e => u.there b o e hc) u.tups u.frzs u.tbls (fun m' hm => by
    obtain ⟨o', es', ep', ho', r'⟩ := hm
    rw [ho] at ho'; cases ho'
    exact ⟨_, es', ep', hL, r'⟩) hok hg
theorem Inv.turned {t' : Nat} {it : Addr} (I : Inv X pins σ H s) (k : ∀ b o, b ≠ it → s.heap.get? b = some o → h'.get? b = some o) (hn : H it = none) (hL : it ≠ X.env.locals)
    (h1 : it ∈ X.ex ∨ X.s₀.heap.objs.size ≤ it) (h2 : ∀ x c, X.env.cells.lookup x = some c → c ≠ it) (h3 : ∀ p ∈ X.pn ++ pins, p.1 ≠ it) : Inv X pins σ H { s with heap := h', toks := t' } := by
  have nit : ∀ b u, H b = some u → b ≠ it := fun b u e z => by rw [z, hn] at e; cases e
  refine I.step (g' := s.gens) (d' := s.drawn) (ch := [it]) (fun b hb => ?_) (fun b o _ _ hc e _ => k b o (fun z => hc (by simp [z])) e) (fun b o _ _ hc e _ => ⟨o.slots, k b o (fun z => hc (by simp [z])) e⟩) (fun _ _ _ _ n => n)
    (fun b o hc e => ⟨o, k b o (fun z => hc (by simp [z])) e⟩) (fun _ _ e => e) (fun _ _ _ e => e) (fun b ps e => ⟨#[], by rw [e]; simp⟩) (fun m hm => ?_) (fun b u e => ?_) I.bare
  · have e : b = it := by simpa using hb
    subst e
    exact ⟨h1, hL, h2, h3⟩
  · obtain ⟨o, es, ep, ho, r⟩ := hm
    exact ⟨o, es, ep, k _ o (Ne.symm hL) ho, r⟩
  · refine (I.hok b u e).stay (fun c v hc q => k c v ?_ q) (fun _ q => q) fun _ _ q => q
    rcases hc with z | z
    · rw [z]; exact nit b u e
    · exact nit c _ z
theorem Inv.tok (I : Inv X pins σ H s) (t : Nat) : Inv X pins σ H { s with toks := t } := I.un (h' := s.heap) (t' := t) Un.refl I.hok
theorem Inv.kept {t' : Nat} (I : Inv X pins σ H s) (k : ∀ b u, s.heap.get? b = some u → h'.get? b = some u) : Inv X pins σ H { s with heap := h', toks := t' } := I.un (Un.kept k) (I.hok.kept k)
theorem Inv.laid {a : Addr} {o : HO} {t' : Nat} (I : Inv X pins σ H s) (k : ∀ b u, s.heap.get? b = some u → h'.get? b = some u) (hp : s.heap.objs.size ≤ a) (new : ObjOk X.prog X.w (upd H a o) h' a o) :
    Inv X pins σ (upd H a o) { s with heap := h', toks := t' } := I.un (Un.laid k hp (I.hok.fresh hp)) (I.hok.laid k hp new)
theorem Inv.write {x e : Addr} {o : HO} {t' : Nat} (I : Inv X pins σ H s) (mu : Mut (H x)) (he : e = x ∨ H e = some (.own x)) (k : ∀ b u, b ≠ e → s.heap.get? b = some u → h'.get? b = some u) (heo : ∃ u, h'.get? e = some u)
    (new : ObjOk X.prog X.w (upd H x o) h' x o) : Inv X pins σ (upd H x o) { s with heap := h', toks := t' } := I.un (Un.write mu he k heo) (I.hok.write mu he k heo new)
theorem Inv.pins_of {pins' : List (Addr × Obj)} (I : Inv X pins σ H s) (h : ∀ p ∈ pins', s.heap.get? p.1 = some p.2 ∧ H p.1 = none ∧ p.1 ≠ X.env.locals ∧ p.1 ∉ X.fs ∧ ∀ v, p.2.data ≠ .cell v) : Inv X pins' σ H s :=
  ⟨I.ok, I.os, I.bare, I.base, I.loc, I.cell, I.free, I.freeC, fun p hp => (List.mem_append.mp hp).elim (fun z => I.pin p (List.mem_append_left _ z)) (h p), I.hok, I.len⟩
theorem nodup_ix {N : List Str} (hN : N.Nodup) {i j : Nat} {x : Str} (a : N[i]? = some x) (b : N[j]? = some x) : i = j := by
  obtain ⟨h1, e1⟩ := List.getElem?_eq_some_iff.mp a
  obtain ⟨h2, e2⟩ := List.getElem?_eq_some_iff.mp b
  exact (List.getElem_inj hN).mp (e1.trans e2.symm)
theorem store_ok2 {M : Model} {A : Around} {E : Value → Shared → Prop} {i : Nat} {x : Str} {v : V} {u : Value} {Q : Unit → Shared → Prop} (I : Inv X pins σ H s) (hN : X.N.Nodup) (hi : X.N[i]? = some x) (hx : Loc X.env.scope x) (r : RelV v u)
    (h : ∀ s', Inv X pins (σ.set i (some v)) H s' → (∃ a, Heap.SameBut a s.heap s'.heap ∧ (a = X.env.locals ∨ X.env.cells.lookup x = some a)) → Q () s') (hf : X.fn x = true ∨ X.env.scope.names.lookup x = some .local := by first | exact .inl rfl | exact .inr rfl | assumption) : wpAny M A (storeName X.env x u) Q E s := by
  obtain ⟨m, hn, hl⟩ := id I.loc
  have hcls : (X.env.scope.kind == .class || (X.env.scope.kind == .module && X.env.locals != X.env.globals)) = false := by rw [I.ok.kind]; rfl
  have hiσ : i < σ.length := by rw [I.len]; exact (List.getElem?_eq_some_iff.mp hi).1
  have cne := I.cne
  have tracked : ∀ {a : Addr} {h' : Heap}, (∃ o, s.heap.get? a = some o ∧ H a = none) → Heap.SameBut a s.heap h' → HOk X.prog X.w H h' := fun {a h'} ha hs b ob e => by
    obtain ⟨_, _, hfree⟩ := ha
    refine (I.hok b ob e).stay (fun c w' hc q => (hs.2 c ?_).trans q) (fun _ q => q) fun _ _ q => q
    rintro rfl
    rcases hc with rfl | hc
    · rw [hfree] at e; cases e
    · rw [hfree] at hc; cases hc
  rcases hx with hk | hk
  · refine wpAny_storeName_local hk hn (fun h' hn' hs => ?_) hcls
    obtain ⟨oL, _, _, hoL, _⟩ := id hn
    refine h _ ⟨I.ok, I.os, I.bare, ⟨fun b o e n hb hx => ?_, fun b o e n hb hx => ?_, I.base.free, fun b o e hx => ?_, I.base.tups, I.base.frzs, I.base.tbls⟩, ⟨_, hn', fun j y v' e1 e2 e3 => ?_⟩, fun y c e => ?_, I.free, I.freeC, fun p hp => ?_, tracked ⟨oL, hoL, I.free⟩ hs, by simpa using I.len⟩ ⟨_, hs, .inl rfl⟩
    · exact (hs.2 b (Nat.ne_of_lt (Nat.lt_of_lt_of_le (Heap.lt_size e) I.ok.above))).trans (I.base.keep b o e n hb hx)
    · obtain ⟨sl, e1⟩ := I.base.slot b o e n hb hx
      exact ⟨sl, (hs.2 b (Nat.ne_of_lt (Nat.lt_of_lt_of_le (Heap.lt_size e) I.ok.above))).trans e1⟩
    · obtain ⟨o', e1⟩ := I.base.there b o e hx
      exact ⟨o', (hs.2 b (Nat.ne_of_lt (Nat.lt_of_lt_of_le (Heap.lt_size e) I.ok.above))).trans e1⟩
    · by_cases hj : j = i
      · subst hj
        rw [hi] at e1; cases e1
        rw [List.getElem?_set_self hiσ] at e2
        cases e2
        exact ⟨u, r, .inl ⟨hk, by simp⟩⟩
      · rw [List.getElem?_set_ne (Ne.symm hj)] at e2
        obtain ⟨u', r', q⟩ := hl j y v' e1 e2 e3
        refine ⟨u', r', ?_⟩
        rcases q with ⟨k, e⟩ | ⟨k, c, e, z⟩
        · refine .inl ⟨k, ?_⟩
          have : y ≠ x := fun e => hj (nodup_ix hN e1 (e ▸ hi))
          simp [this, e]
        · exact .inr ⟨k, c, e, z.sameBut hs (cne y c e)⟩
    · obtain ⟨w', z⟩ := I.cell y c e
      exact ⟨w', z.sameBut hs (cne y c e)⟩
    · obtain ⟨e, n, ne, nf, d⟩ := I.pin p hp
      exact ⟨(hs.2 p.1 ne).trans e, n, ne, nf, d⟩
  · have hfn : X.fn x = true := by
      rcases hf with z | z
      · exact z
      · rw [z] at hk; cases hk
    obtain ⟨c, hc⟩ := I.ok.has x (.inl hk)
    obtain ⟨w', z⟩ := I.cell x c hc
    refine wpAny_storeName_cell I.ok.kind hk hc z (fun h' hc' hs => ?_)
    obtain ⟨oc, hoc, hocd⟩ := id z
    refine h { s with heap := h' } ⟨I.ok, I.os, I.bare, ⟨fun b o e n hb hx => ?_, fun b o e n hb hx => ?_, I.base.free, fun b o e hx => ?_, I.base.tups, I.base.frzs, I.base.tbls⟩, ⟨m, hn.sameBut hs (Ne.symm (cne x c hc)), fun j y v' e1 e2 e3 => ?_⟩, fun y c' e => ?_, I.free, I.freeC, fun p hp => ?_, tracked ⟨oc, hoc, I.freeC x c hc⟩ hs, by simpa using I.len⟩ ⟨c, hs, .inr hc⟩
    · exact (hs.2 b (Nat.ne_of_lt (Nat.lt_of_lt_of_le (Heap.lt_size e) (I.ok.cab x c hfn hc)))).trans (I.base.keep b o e n hb hx)
    · obtain ⟨sl, e1⟩ := I.base.slot b o e n hb hx
      exact ⟨sl, (hs.2 b (Nat.ne_of_lt (Nat.lt_of_lt_of_le (Heap.lt_size e) (I.ok.cab x c hfn hc)))).trans e1⟩
    · obtain ⟨o', e1⟩ := I.base.there b o e hx
      exact ⟨o', (hs.2 b (Nat.ne_of_lt (Nat.lt_of_lt_of_le (Heap.lt_size e) (I.ok.cab x c hfn hc)))).trans e1⟩
    · by_cases hj : j = i
      · subst hj
        rw [hi] at e1; cases e1
        rw [List.getElem?_set_self hiσ] at e2
        cases e2
        exact ⟨u, r, .inr ⟨.inl hk, c, hc, hc'⟩⟩
      · rw [List.getElem?_set_ne (Ne.symm hj)] at e2
        obtain ⟨u', r', q⟩ := hl j y v' e1 e2 e3
        refine ⟨u', r', ?_⟩
        rcases q with q | ⟨k, c', e, z'⟩
        · exact .inl q
        · refine .inr ⟨k, c', e, z'.sameBut hs ?_⟩
          rintro rfl
          exact hj (nodup_ix hN e1 (I.ok.inj _ _ _ e hc ▸ hi))
    · by_cases hcc : c' = c
      · subst hcc; exact ⟨_, hc'⟩
      · obtain ⟨w2, z2⟩ := I.cell y c' e
        exact ⟨w2, z2.sameBut hs hcc⟩
    · obtain ⟨e, n, ne, nf, d⟩ := I.pin p hp
      refine ⟨(hs.2 p.1 ?_).trans e, n, ne, nf, d⟩
      intro q
      rw [q, hoc] at e
      have q' : oc = p.2 := Option.some.inj e
      exact d w' (by rw [← q']; exact hocd)
theorem store_ok {M : Model} {A : Around} {E : Value → Shared → Prop} {i : Nat} {x : Str} {v : V} {u : Value} {Q : Unit → Shared → Prop} (I : Inv X pins σ H s) (hN : X.N.Nodup) (hi : X.N[i]? = some x) (hx : Loc X.env.scope x) (r : RelV v u)
    (h : ∀ s', Inv X pins (σ.set i (some v)) H s' → Q () s') (hf : X.fn x = true ∨ X.env.scope.names.lookup x = some .local := by first | exact .inl rfl | exact .inr rfl | assumption) : wpAny M A (storeName X.env x u) Q E s :=
  store_ok2 I hN hi hx r (fun s' I' _ => h s' I') hf
theorem Inv.call' {s' : Shared} {ch : List Addr} (I : Inv X pins σ H s) (ho : s'.os = s.os) (u : Un (frs X.stack) ch H H' s.heap s'.heap) (hok : HOk X.prog X.w H' s'.heap) (hg : AllBare s'.gens)
    (hch : ∀ b ∈ ch, (b ∈ X.ex ∨ X.s₀.heap.objs.size ≤ b) ∧ b ≠ X.env.locals ∧ (∀ x c, X.env.cells.lookup x = some c → c ≠ b) ∧ ∀ p ∈ X.pn ++ pins, p.1 ≠ b) : Inv X pins σ H' s' := by
  obtain ⟨h', g', d', t', o'⟩ := s'
  have e : o' = s.os := ho
  subst e
  exact I.call (g' := g') (t' := t') (d' := d') u hok hg hch
end
noncomputable abbrev XK := Value → Option Addr → Hp → Prop
noncomputable abbrev St := List (Option V)
noncomputable abbrev VK := V → Hp → Prop
noncomputable abbrev TE := St → Hp → VK → Prop
noncomputable abbrev TT := St → Hp → (Bool → Hp → Prop) → Prop
noncomputable abbrev TA := St → Hp → (List V → Hp → Prop) → Prop
structure Ends where
  nx : St → Hp → Prop
  rt : VK
  bk : St → Hp → Prop := fun _ _ => False
  ct : St → Hp → Prop := fun _ _ => False
noncomputable abbrev TS := Ends → St → Hp → Prop
noncomputable def EP (X : Cx) (pins : List (Addr × Obj)) (σ : St) (Q : VK) (u : Value) (s' : Shared) : Prop := ∃ v H', Inv X pins σ H' s' ∧ RelV v u ∧ Q v H'
noncomputable def TP (X : Cx) (pins : List (Addr × Obj)) (σ : St) (Q : Bool → Hp → Prop) (b : Bool) (s' : Shared) : Prop := ∃ H', Inv X pins σ H' s' ∧ Q b H'
noncomputable def AP (X : Cx) (pins : List (Addr × Obj)) (σ : St) (Q : List V → Hp → Prop) (us : List Value) (s' : Shared) : Prop := ∃ vs H', Inv X pins σ H' s' ∧ Vals vs us ∧ Q vs H'
noncomputable def SP (X : Cx) (pins : List (Addr × Obj)) (D : Ends) (f : Flow) (s' : Shared) : Prop :=
  match f with
  | .next => ∃ σ' H', Inv X pins σ' H' s' ∧ D.nx σ' H'
  | .brk => ∃ σ' H', Inv X pins σ' H' s' ∧ D.bk σ' H'
  | .cont => ∃ σ' H', Inv X pins σ' H' s' ∧ D.ct σ' H'
  | .ret u => ∃ v σ' H', Inv X pins σ' H' s' ∧ RelV v u ∧ D.rt v H'
noncomputable def PE (X : Cx) (e : Expr) (t : TE) : Prop :=
  ∀ (pins : List (Addr × Obj)) (s : Shared) (σ : St) (H : Hp) (Q : VK), Inv X pins σ H s → t σ H Q → wpAny (model X.prog X.w) X.A (eval e X.env) (EP X pins σ Q) X.xe s
noncomputable def PT (X : Cx) (e : Expr) (t : TT) : Prop :=
  ∀ (pins : List (Addr × Obj)) (s : Shared) (σ : St) (H : Hp) (Q : Bool → Hp → Prop), Inv X pins σ H s → t σ H Q → wpAny (model X.prog X.w) X.A (isTrue e X.env (eval e X.env)) (TP X pins σ Q) X.xe s
noncomputable def PW (X : Cx) (e : Expr) (t : TT) : Prop :=
  ∀ (whole : Sem Value) (pins : List (Addr × Obj)) (s : Shared) (σ : St) (H : Hp) (Q : Bool → Hp → Prop), Inv X pins σ H s → t σ H Q → wpAny (model X.prog X.w) X.A (isTrue e X.env whole) (TP X pins σ Q) X.xe s
theorem PW.pt {X : Cx} {e : Expr} {t : TT} (h : PW X e t) : PT X e t := h _
noncomputable def PA (X : Cx) (es : List Expr) (t : TA) : Prop :=
  ∀ (pos : Pos) (pins : List (Addr × Obj)) (s : Shared) (σ : St) (H : Hp) (Q : List V → Hp → Prop), Inv X pins σ H s → t σ H Q → wpAny (model X.prog X.w) X.A (spliced (backTo pos (starEach es X.env))) (AP X pins σ Q) X.xe s
noncomputable def PS (X : Cx) (st : Stmt) (t : TS) : Prop :=
  ∀ (pins : List (Addr × Obj)) (s : Shared) (σ : St) (H : Hp) (D : Ends), Inv X pins σ H s → t D σ H → wpAny (model X.prog X.w) X.A (exec st X.env) (SP X pins D) X.xe s
noncomputable def PSs (X : Cx) (st : List Stmt) (t : TS) : Prop :=
  ∀ (pins : List (Addr × Obj)) (s : Shared) (σ : St) (H : Hp) (D : Ends), Inv X pins σ H s → t D σ H → wpAny (model X.prog X.w) X.A (execs st X.env) (SP X pins D) X.xe s
theorem thn {α : Type} {t : Sem α} {Q Q' : α → Shared → Prop} {M : Model} {A : Around} {E : Value → Shared → Prop} {s : Shared} (h : wpAny M A t Q E s) (hQ : ∀ a s, Q a s → Q' a s) : wpAny M A t Q' E s := wpAny_mono h hQ fun _ _ x => x
end L2
namespace L2
open PySem PySem.Spec PyProof.Rows
section
variable {X : Cx}
theorem bin {a b : Expr} {ta tb : TE} (ha : PE X a ta) (hb : PE X b tb) {pins : List (Addr × Obj)} {s : Shared} {σ : St} {H : Hp} {R : V → V → Hp → Prop} (I : Inv X pins σ H s) (h : ta σ H fun x H1 => tb σ H1 fun y H2 => R x y H2)
    {α : Type} {Q : α → Shared → Prop} {f : Value → Value → Sem α}
    (hf : ∀ v u s2 x y H2, Inv X pins σ H2 s2 → RelV x v → RelV y u → R x y H2 → wpAny (model X.prog X.w) X.A (f v u) Q X.xe s2) :
    wpAny (model X.prog X.w) X.A (eval a X.env) (fun v s₁ => wpAny (model X.prog X.w) X.A (eval b X.env) (fun u s₂ => wpAny (model X.prog X.w) X.A (f v u) Q X.xe s₂) X.xe s₁) X.xe s := by
  refine thn (ha pins s σ H _ I h) fun v s1 ⟨x, H1, I1, r1, q1⟩ => ?_
  refine thn (hb pins s1 σ H1 _ I1 q1) fun u s2 ⟨y, H2, I2, r2, q2⟩ => ?_
  exact hf v u s2 x y H2 I2 r1 r2 q2
noncomputable def tVar (i : Nat) : TE := fun σ H Q => ∃ v, σ[i]? = some (some v) ∧ Q v H
noncomputable def tC (v : V) : TE := fun _ H Q => Q v H
theorem pe_var {i : Nat} {x : Str} {pos : Pos} (hN : X.N[i]? = some x) (hv : Vis X.env.scope x) (hd : (x == ("__debug__" : Str)) = false := by decide) (hcd : (x == ("__classdict__" : Str)) = false := by decide) : PE X (.Name x pos) (tVar i) := by
  intro pins s σ H Q I h
  obtain ⟨v, e, h⟩ := h
  obtain ⟨m, hn, hl⟩ := I.loc
  obtain ⟨u, r, l⟩ := hl i x v hN e hv
  have fin : EP X pins σ Q u s := ⟨v, H, I, r, h⟩
  rcases l with ⟨hk, hm⟩ | ⟨hk, c, hc, hcell⟩
  · exact wpAny_Name (wpAny_loadName_local I.ok.kind hk hn hm fin) hd
  · rcases hk with hk | hk
    · exact wpAny_Name (wpAny_loadName_cell I.ok.kind hk hc hcell fin) hd
    · exact wpAny_Name (wpAny_loadName_free I.ok.kind hk hc hcell fin hcd) hd
theorem pe_int {i j pos} : PE X (.Constant (.int i) j pos) (tC (.int i)) := fun _ _ _ H _ I h => wpAny_Constant_int ⟨.int i, H, I.tok _, ⟨_, rfl⟩, h⟩
theorem pe_bl {b j pos} : PE X (.Constant (.bool b) j pos) (tC (.bl b)) := fun _ _ _ H _ I h => Constant_bool ⟨.bl b, H, I, rfl, h⟩
theorem pe_non {j pos} : PE X (.Constant .none j pos) (tC .non) := fun _ _ _ H _ I h => Constant_none ⟨.non, H, I, rfl, h⟩
theorem pe_str {x j pos} : PE X (.Constant (.str x) j pos) (tC (.str x)) := fun _ _ _ H _ I h => Calls.Constant_str ⟨.str x, H, I.tok _, ⟨_, rfl⟩, h⟩
noncomputable def Gl (X : Cx) (x : Str) : Prop := X.env.kindOf x = some .globalImplicit
theorem ld_glob {E : Value → Shared → Prop} {pins : List (Addr × Obj)} {s : Shared} {σ : St} {H : Hp} {x : Str} {u : Value} {pos : Pos} {Q : Value → Shared → Prop} (I : Inv X pins σ H s) (hg : Gl X x) (hm : X.mg x = some u) (h : Q u s)
    (hd : (x == ("__debug__" : Str)) = false := by decide) : wpAny (model X.prog X.w) X.A (eval (.Name x pos) X.env) Q E s :=
  Calls.Name_function_global I.ok.kind hg (Calls.loadGlobal_global (by rw [I.ok.glob]; exact I.mod.glob.keeps I.bk) hm h) hd
theorem ld_blt {E : Value → Shared → Prop} {pins : List (Addr × Obj)} {s : Shared} {σ : St} {H : Hp} {x : Str} {u : Value} {pos : Pos} {Q : Value → Shared → Prop} (I : Inv X pins σ H s) (hg : Gl X x) (hm : X.mg x = none) (hv : bootBuiltins x = some u) (h : Q u s)
    (hn : x ≠ "__name__" := by decide) (hd : (x == ("__debug__" : Str)) = false := by decide) : wpAny (model X.prog X.w) X.A (eval (.Name x pos) X.env) Q E s := by
  obtain ⟨mb, h1, h2⟩ := I.mod.blt
  exact Calls.Name_function_global I.ok.kind hg (Calls.loadGlobal_builtin (by rw [I.ok.glob]; exact I.mod.glob.keeps I.bk) hm (by rw [I.ok.blt]; exact h1.keeps I.bk) ((h2 x hn).trans hv) h) hd
theorem pe_glob {x : Str} {v : V} {u : Value} {pos : Pos} (hg : Gl X x) (hm : X.mg x = some u) (r : RelV v u) (hd : (x == ("__debug__" : Str)) = false := by decide) : PE X (.Name x pos) (tC v) :=
  fun _ _ _ H _ I h => ld_glob I hg hm ⟨v, H, I, r, h⟩ hd
theorem pe_bltn {x : Str} {v : V} {u : Value} {pos : Pos} (hg : Gl X x) (hm : X.mg x = none) (hv : bootBuiltins x = some u) (r : RelV v u) (hn : x ≠ "__name__" := by decide) (hd : (x == ("__debug__" : Str)) = false := by decide) : PE X (.Name x pos) (tC v) :=
  fun _ _ _ H _ I h => ld_blt I hg hm hv ⟨v, H, I, r, h⟩ hn hd
variable {a b : Expr} {ta tb : TE} {pos : Pos}
variable {tA tB' : TT} {rest : List Expr}
noncomputable def tAnd (t u : TT) : TT := fun σ H Q => t σ H fun c H1 => if c = true then u σ H1 Q else Q false H1
noncomputable def tOr (t u : TT) : TT := fun σ H Q => t σ H fun c H1 => if c = true then Q true H1 else u σ H1 Q
noncomputable def tNot (t : TT) : TT := fun σ H Q => t σ H fun c H1 => Q (!c) H1
theorem pw_and1 (ha : PT X a tA) : PW X (.BoolOp .And [a] pos) tA := by
  intro wh pins s σ H Q I h
  refine isTrue_and (thn (ha pins s σ H Q I h) fun c s1 e => ?_)
  cases c with
  | true => exact isTrue_and_nil e
  | false => exact e
theorem pw_or1 (ha : PT X a tA) : PW X (.BoolOp .Or [a] pos) tA := by
  intro wh pins s σ H Q I h
  refine isTrue_or (thn (ha pins s σ H Q I h) fun c s1 e => ?_)
  cases c with
  | false => exact isTrue_or_nil e
  | true => exact e
theorem pw_and (ha : PT X a tA) (hb : PW X (.BoolOp .And (b :: rest) pos) tB') : PW X (.BoolOp .And (a :: b :: rest) pos) (tAnd tA tB') := by
  intro wh pins s σ H Q I h
  refine isTrue_and (thn (ha pins s σ H _ I h) fun c s1 ⟨H1, I1, q1⟩ => ?_)
  cases c with
  | true => exact hb wh pins s1 σ H1 Q I1 q1
  | false => exact ⟨H1, I1, q1⟩
theorem pw_or (ha : PT X a tA) (hb : PW X (.BoolOp .Or (b :: rest) pos) tB') : PW X (.BoolOp .Or (a :: b :: rest) pos) (tOr tA tB') := by
  intro wh pins s σ H Q I h
  refine isTrue_or (thn (ha pins s σ H _ I h) fun c s1 ⟨H1, I1, q1⟩ => ?_)
  cases c with
  | true => exact ⟨H1, I1, q1⟩
  | false => exact hb wh pins s1 σ H1 Q I1 q1
theorem pt_not (ha : PT X a tA) : PT X (.UnaryOp .Not a pos) (tNot tA) := by
  intro pins s σ H Q I h
  exact isTrue_not (ha pins s σ H (fun c H1 => Q (!c) H1) I h)
theorem pe_one {op} {t : TE} (h : PE X a t) : PE X (.BoolOp op [a] pos) t := fun pins s σ H Q I hw => BoolOp_one (h pins s σ H Q I hw)
end
end L2
namespace L2
open PySem PySem.Spec PyProof.Rows
noncomputable def SqL (K : PySem.W.Frag) (H : Hp) (a : Addr) (xs : List V) : Prop :=
  Rd H a (.lst xs) ∨
    ∃ (o : Obj) (its : Array Value) (n : Nat), K.lookup a = some o ∧ o.cls = .type "list" ∧ o.dict = none ∧ o.data = .seq its n ∧ its.size ≤ sizeLine ∧ Vals xs its.toList
noncomputable def SqT (K : PySem.W.Frag) (H : Hp) (a : Addr) (xs : List V) : Prop :=
  Rd H a (.tup xs) ∨
    ∃ (o : Obj) (its : Array Value) (n : Nat), K.lookup a = some o ∧ o.cls = .type "tuple" ∧ o.data = .seq its n ∧ its.size ≤ sizeLine ∧ Vals xs its.toList
noncomputable def absV : Value → Option V
  | .none => some .non
  | .bool b => some (.bl b)
  | .int i _ => some (.int i)
  | .str x _ => some (.str x)
  | .bytes b _ => some (.byt b)
  | .float b _ => some (.flt b)
  | .ref a => some (.ref a)
  | .type n => some (.ty n)
  | _ => none
theorem RelV.abs {x : V} {u : Value} (r : RelV x u) : absV u = some x := by
  cases x with
  | non => cases r; rfl
  | bl _ => cases r; rfl
  | int _ => obtain ⟨t, rfl⟩ := r; rfl
  | str _ => obtain ⟨t, rfl⟩ := r; rfl
  | byt _ => obtain ⟨t, rfl⟩ := r; rfl
  | flt _ => obtain ⟨t, rfl⟩ := r; rfl
  | ref _ => cases r; rfl
  | ty _ => cases r; rfl
theorem RelV.inj {x y : V} {u : Value} (r : RelV x u) (q : RelV y u) : x = y := Option.some.inj (r.abs.symm.trans q.abs)
theorem Vals.inj : ∀ {xs ys : List V} {us : List Value}, Vals xs us → Vals ys us → xs = ys
  | _, _, _, .nil, .nil => rfl
  | _, _, _, .cons r t, .cons r' t' => by rw [r.inj r', Vals.inj t t']
section
variable {X : Cx} {pins : List (Addr × Obj)} {σ : St} {H : Hp} {s : Shared} {a : Addr} {xs ys : List V}
theorem SqL.of {K : PySem.W.Frag} (h : H a = some (.lst xs)) : SqL K H a xs := .inl (.inl h)
theorem SqT.of {K : PySem.W.Frag} (h : H a = some (.tup xs)) : SqT K H a xs := .inl (.inl h)
theorem Inv.list (I : Inv X pins σ H s) (h : SqL X.K H a xs) : ∃ its : List Value, Vals xs its ∧ PlainL s.heap a its.toArray ∧ xs.length ≤ sizeLine := by
  rcases h with h | ⟨o, its, n, hk, hc, hd, hs, hz, r⟩
  · obtain ⟨z, its, n, r, e⟩ := h.ok I.hok
    exact ⟨its, r, ⟨_, n, e, rfl, rfl, rfl⟩, z⟩
  · refine ⟨its.toList, r, ⟨o, n, I.kIn a o hk, hc, hd, by simpa using hs⟩, ?_⟩
    have e := r.length
    simp only [Array.length_toList] at e
    lia
theorem Inv.tuple (I : Inv X pins σ H s) (h : SqT X.K H a xs) : ∃ its : List Value, Vals xs its ∧ IsTup s.heap a its.toArray ∧ xs.length ≤ sizeLine := by
  rcases h with h | ⟨o, its, n, hk, hc, hs, hz, r⟩
  · obtain ⟨z, its, r, p⟩ := h.ok I.hok
    exact ⟨its, r, p, z⟩
  · refine ⟨its.toList, r, ⟨o, I.kIn a o hk, hc, n, by simpa using hs⟩, ?_⟩
    have e := r.length
    simp only [Array.length_toList] at e
    lia
theorem Inv.list_inj (I : Inv X pins σ H s) (h : SqL X.K H a xs) (h' : SqL X.K H a ys) : xs = ys := by
  obtain ⟨its, r, ⟨o, n, e, _, _, d⟩, _⟩ := I.list h
  obtain ⟨its', r', ⟨o', n', e', _, _, d'⟩, _⟩ := I.list h'
  rw [e] at e'; cases e'
  rw [d] at d'
  injection d' with d1 _
  have : its = its' := by simpa using congrArg Array.toList d1
  subst this
  exact r.inj r'
theorem Inv.tuple_inj (I : Inv X pins σ H s) (h : SqT X.K H a xs) (h' : SqT X.K H a ys) : xs = ys := by
  obtain ⟨its, r, ⟨o, e, _, n, d⟩, _⟩ := I.tuple h
  obtain ⟨its', r', ⟨o', e', _, n', d'⟩, _⟩ := I.tuple h'
  rw [e] at e'; cases e'
  rw [d] at d'
  injection d' with d1 _
  have : its = its' := by simpa using congrArg Array.toList d1
  subst this
  exact r.inj r'
end
noncomputable abbrev Cx.wish (X : Cx) (E : Value → Shared → Prop) : Cx := { X with xe := E }
noncomputable abbrev Cx.nox (X : Cx) : Cx := X.wish fun _ _ => False
theorem Cx.Ok.wish {X : Cx} (ok : X.Ok) (E : Value → Shared → Prop) : (X.wish E).Ok :=
  ⟨ok.mod, ok.kind, ok.glob, ok.blt, ok.above, ok.inj, ok.has, ok.cab, ok.hd, ok.frames, ok.stk, ok.exf, ok.bs, ok.bsz, ok.noex, ok.exfs, ok.funs, ok.frf⟩
theorem Cx.Ok.unwish {X : Cx} {E : Value → Shared → Prop} (ok : (X.wish E).Ok) : X.Ok :=
  ⟨ok.mod, ok.kind, ok.glob, ok.blt, ok.above, ok.inj, ok.has, ok.cab, ok.hd, ok.frames, ok.stk, ok.exf, ok.bs, ok.bsz, ok.noex, ok.exfs, ok.funs, ok.frf⟩
section
variable {X : Cx} {pins : List (Addr × Obj)} {σ : St} {H : Hp} {s : Shared} {E : Value → Shared → Prop}
theorem Inv.wish (I : Inv X pins σ H s) (E : Value → Shared → Prop) : Inv (X.wish E) pins σ H s := ⟨I.ok.wish E, I.os, I.bare, I.base, I.loc, I.cell, I.free, I.freeC, I.pin, I.hok, I.len⟩
theorem Inv.unwish (I : Inv (X.wish E) pins σ H s) : Inv X pins σ H s := ⟨I.ok.unwish, I.os, I.bare, I.base, I.loc, I.cell, I.free, I.freeC, I.pin, I.hok, I.len⟩
theorem SP.unwish {D : Ends} {f : Flow} {s' : Shared} (h : SP (X.wish E) pins D f s') : SP X pins D f s' := by
  cases f with
  | next => obtain ⟨σ', H', I, q⟩ := h; exact ⟨σ', H', I.unwish, q⟩
  | brk => obtain ⟨σ', H', I, q⟩ := h; exact ⟨σ', H', I.unwish, q⟩
  | cont => obtain ⟨σ', H', I, q⟩ := h; exact ⟨σ', H', I.unwish, q⟩
  | ret u => obtain ⟨v, σ', H', I, r, q⟩ := h; exact ⟨v, σ', H', I.unwish, r, q⟩
theorem PSs.nox {st : List Stmt} {t : TS} (h : PSs X.nox st t) : PSs X st t := fun pins s σ H D I hw =>
  wpAny_mono (h pins s σ H D (I.wish _) hw) (fun _ _ q => q.unwish) fun _ _ z => False.elim z
end
section
variable {X : Cx} {st : Stmt} {rest : List Stmt} {t u : TS} {e : Expr} {te : TE} {pos : Pos}
noncomputable def tNext : TS := fun D σ H => D.nx σ H
noncomputable def tSeq (t u : TS) : TS := fun D σ H => t { D with nx := u D } σ H
theorem pss_nil : PSs X [] tNext := fun _ _ σ H _ I h => wpAny_execs_nil ⟨σ, H, I, h⟩
theorem pss_cons (h1 : PS X st t) (h2 : PSs X rest u) : PSs X (st :: rest) (tSeq t u) := by
  intro pins s σ H D I h
  refine wpAny_execs_cons (thn (h1 pins s σ H { D with nx := u D } I h) fun f s1 q => ?_)
  cases f with
  | next =>
    obtain ⟨σ', H', I', q⟩ := q
    exact h2 pins s1 σ' H' D I' q
  | ret v => exact q
  | brk => exact q
  | cont => exact q
theorem pss_one (h1 : PS X st t) : PSs X [st] t := by
  intro pins s σ H D I h
  refine wpAny_execs_cons (thn (h1 pins s σ H D I h) fun f s1 q => ?_)
  cases f with
  | next => exact wpAny_execs_nil q
  | ret v => exact q
  | brk => exact q
  | cont => exact q
theorem Inv.quiet {pins : List (Addr × Obj)} {σ : St} {H : Hp} {s : Shared} (I : Inv X pins σ H s) : interactive X.env = false := by simp [interactive, I.ok.kind]
noncomputable def tDrop (te : TE) : TS := fun D σ H => te σ H fun _ H1 => D.nx σ H1
theorem ps_expr (he : PE X e te) (hs : swapsWith e none pos.line X.env = pure false := by rfl) : PS X (.Expr e pos) (tDrop te) := by
  intro pins s σ H D I h
  exact wpAny_Expr_any (thn (he pins s σ H _ I h) fun v s1 ⟨x, H1, I1, r1, q1⟩ => ⟨σ, H1, I1, q1⟩) I.quiet hs
noncomputable def tRet (te : TE) : TS := fun D σ H => te σ H D.rt
theorem ps_ret (he : PE X e te) : PS X (.Return (some e) pos) (tRet te) := by
  intro pins s σ H D I h
  exact wpAny_Return_some (thn (he pins s σ H _ I h) fun v s1 ⟨x, H1, I1, r1, q1⟩ => ⟨x, σ, H1, I1, r1, q1⟩)
noncomputable def tIfS (c : TT) (t u : TS) : TS := fun D σ H => c σ H fun b H1 => if b = true then t D σ H1 else u D σ H1
theorem ps_if {c : Expr} {a b : List Stmt} {tc : TT} (hc : PT X c tc) (ha : PSs X a t) (hb : PSs X b u) : PS X (.If c a b pos) (tIfS tc t u) := by
  intro pins s σ H D I h
  refine wpAny_If (thn (hc pins s σ H _ I h) fun d s1 ⟨H1, I1, q1⟩ => ?_)
  cases d with
  | true => exact ha pins s1 σ H1 D I1 q1
  | false => exact hb pins s1 σ H1 D I1 q1
end
noncomputable abbrev TG := V → St → Hp → (St → Hp → Prop) → Prop
noncomputable abbrev TGs := List V → St → Hp → (St → Hp → Prop) → Prop
noncomputable def PG (X : Cx) (target : Expr) (t : TG) : Prop :=
  ∀ (pins : List (Addr × Obj)) (s : Shared) (σ : St) (H : Hp) (v : V) (u : Value) (Q : St → Hp → Prop), Inv X pins σ H s → RelV v u → t v σ H Q →
    wpAny (model X.prog X.w) X.A (assign target X.env u) (fun _ s' => ∃ σ' H', Inv X pins σ' H' s' ∧ Q σ' H') X.xe s
noncomputable def PGs (X : Cx) (ts : List Expr) (t : TGs) : Prop :=
  ∀ (pins : List (Addr × Obj)) (s : Shared) (σ : St) (H : Hp) (vs : List V) (us : List Value) (Q : St → Hp → Prop), Inv X pins σ H s → Vals vs us → t vs σ H Q →
    wpAny (model X.prog X.w) X.A (assignInOrder ((assignEach ts X.env).map (·.2)) us) (fun _ s' => ∃ σ' H', Inv X pins σ' H' s' ∧ Q σ' H') X.xe s
section
variable {X : Cx} {pos : Pos}
noncomputable def gName (i : Nat) : TG := fun v σ H Q => Q (σ.set i (some v)) H
theorem pg_name {i : Nat} {x : Str} (hN : X.N.Nodup) (hi : X.N[i]? = some x) (hx : Loc X.env.scope x) (hf : X.fn x = true ∨ X.env.scope.names.lookup x = some .local := by first | exact .inl rfl | exact .inr rfl | assumption) : PG X (.Name x pos) (gName i) := by
  intro pins s σ H v u Q I r h
  exact wpAny_assign_Name (store_ok I hN hi hx r (fun s' I' => ⟨_, H, I', h⟩) hf)
noncomputable def gNil : TGs := fun vs σ H Q => vs = [] ∧ Q σ H
noncomputable def gCons (t : TG) (u : TGs) : TGs := fun vs σ H Q => ∃ v r, vs = v :: r ∧ t v σ H fun σ' H' => u r σ' H' Q
theorem pgs_nil : PGs X [] gNil := by
  intro pins s σ H vs us Q I r h
  obtain ⟨e, h⟩ := h
  subst e
  cases r
  exact assignInOrder_nil ⟨σ, H, I, h⟩
theorem pgs_cons {e : Expr} {es : List Expr} {t : TG} {u : TGs} (h1 : PG X e t) (h2 : PGs X es u)
    (hs : (assignEach (e :: es) X.env).map (·.2) = assign e X.env :: (assignEach es X.env).map (·.2) := by rfl) : PGs X (e :: es) (gCons t u) := by
  intro pins s σ H vs us Q I r h
  obtain ⟨v, vr, e1, h⟩ := h
  subst e1
  cases r with
  | cons r rr =>
    rw [hs]
    refine assignInOrder_cons (thn (h1 pins s σ H _ _ _ I r h) fun _ s1 ⟨σ1, H1, I1, q1⟩ => ?_)
    exact h2 pins s1 σ1 H1 _ _ Q I1 rr q1
noncomputable def gTup (K : PySem.W.Frag) (n : Nat) (t : TGs) : TG := fun v σ H Q => ∃ a xs, v = .ref a ∧ SqT K H a xs ∧ xs.length = n ∧ t xs σ H Q
theorem pg_tup {es : List Expr} {k : Nat} {t : TGs} {n : Nat} (hc : X.calm = true) (h : PGs X es t)
    (hn : (assignEach es X.env).length = n := by rfl) (hst : (assignEach es X.env).findIdx? (·.1) = none := by rfl) : PG X (.Tuple es k pos) (gTup X.K n t) := by
  intro pins s σ H v u Q I r hw
  obtain ⟨a, xs, e1, hq, hl, hw⟩ := hw
  subst e1
  cases r
  obtain ⟨its, rv, ht, hz⟩ := I.tuple hq
  refine assign_Tuple_tuple (I.ok.hd hc) ht (by simp [hn, ← hl, rv.length]) hst fun h' hx => ?_
  have I1 : Inv X pins σ H { s with heap := h' } := I.kept (t' := s.toks) fun b o e => hx b o (Nat.ne_of_lt (Heap.lt_size e)) e
  exact h pins _ σ H xs _ Q I1 (by simpa using rv) hw
noncomputable def tAsg (te : TE) (g : TG) : TS := fun D σ H => te σ H fun x H1 => g x σ H1 D.nx
theorem ps_set {i : Nat} {x : Str} {e : Expr} {te : TE} {pos' : Pos} (hN : X.N.Nodup) (hi : X.N[i]? = some x) (hx : Loc X.env.scope x) (he : PE X e te) (hs : swapsWith e (some (.Name x pos')) pos.line X.env = pure false := by rfl) (hf : X.fn x = true ∨ X.env.scope.names.lookup x = some .local := by first | exact .inl rfl | exact .inr rfl | assumption) :
    PS X (.Assign [.Name x pos'] e pos) (tAsg te (gName i)) := by
  intro pins s σ H D I h
  refine wpAny_Assign_Name (thn (he pins s σ H _ I h) fun v s1 ⟨y, H1, I1, r1, q1⟩ => ?_) hs
  exact store_ok I1 hN hi hx r1 (fun s2 I2 => ⟨_, H1, I2, q1⟩) hf
end
section
variable {X : Cx} {pos : Pos}
end
structure It where
  go : Nat → Hp → Prop
  yld : Nat → Hp → V → Hp → Prop
  stop : Nat → Hp → Prop
noncomputable def FpOk (X : Cx) (pins : List (Addr × Obj)) (H : Hp) (b : Addr) : Prop :=
  H b = none ∧ b ≠ X.env.locals ∧ b ∉ X.fs ∧ (b ∈ X.ex ∨ X.s₀.heap.objs.size ≤ b) ∧ (∀ x c, X.env.cells.lookup x = some c → c ≠ b) ∧ ∀ p ∈ X.pn ++ pins, p.1 ≠ b
theorem Inv.fpOk {X : Cx} {pins : List (Addr × Obj)} {σ : St} {H H' : Hp} {s : Shared} {b : Addr} (I : Inv X pins σ H s) (hb : s.heap.objs.size ≤ b) (hn : H' b = none) : FpOk X pins H' b := by
  refine ⟨hn, Nat.ne_of_gt (Nat.lt_of_lt_of_le I.lt hb), I.nofs hb, .inr (Nat.le_trans I.sz hb), fun x c e z => ?_, fun p hp z => ?_⟩
  · obtain ⟨v, q⟩ := I.cell x c e
    exact absurd (Nat.lt_of_lt_of_le q.lt (by rw [z]; exact hb)) (Nat.lt_irrefl _)
  · exact absurd (Nat.lt_of_lt_of_le (Heap.lt_size (I.pin p hp).1) (by rw [z]; exact hb)) (Nat.lt_irrefl _)
structure Turn (P : Program) (w : World) (K : PySem.W.Frag) (tg : Expr) (J : It) (fp : List Addr) (it : Addr) (tn : Nat → Heap → Prop) : Prop where
  mem : it ∈ fp
  obj : ∀ i h, tn i h → ∀ b ∈ fp, ∃ o, h.get? b = some o ∧ ∀ v, o.data ≠ .cell v
  keep : ∀ i h h', tn i h → (∀ b ∈ fp, ∀ o, h.get? b = some o → h'.get? b = some o) → tn i h'
  item : ∀ (X : Cx), X.prog = P → X.w = w → X.K = K → X.calm = true → ∀ (i : Nat) (pins : List (Addr × Obj)) (s : Shared) (σ : St) (H : Hp) (E : Value → Shared → Prop), Inv X pins σ H s → (∀ b ∈ fp, FpOk X pins H b) → tn i s.heap → J.go i H →
    wpAny (model P w) X.A (pyNext (.ref it)) (fun r s1 => ∃ u, r = some u ∧
      wpAny (model P w) X.A (letOwnedTupleGo tg (.ref it) u) (fun _ s2 => ∃ x H', Inv X pins σ H' s2 ∧ RelV x u ∧ J.yld i H x H' ∧ tn (i + 1) s2.heap ∧ ∀ b ∈ fp, H' b = none) E s1) E s
  done : ∀ (X : Cx), X.prog = P → X.w = w → X.K = K → X.calm = true → ∀ (i : Nat) (pins : List (Addr × Obj)) (s : Shared) (σ : St) (H : Hp) (E : Value → Shared → Prop), Inv X pins σ H s → (∀ b ∈ fp, FpOk X pins H b) → tn i s.heap → J.stop i H →
    wpAny (model P w) X.A (pyNext (.ref it)) (fun r s1 => r = none ∧ Inv X pins σ H s1) E s
  self : ∀ (A : Around) (i : Nat) (s : Shared) (Q : Value → Shared → Prop) (E : Value → Shared → Prop), tn i s.heap → Q (.ref it) s → wpAny (model P w) A (pyIter (.ref it)) Q E s
noncomputable abbrev TI := St → Hp → (It → Hp → Prop) → Prop
noncomputable def PIE (X : Cx) (pins : List (Addr × Obj)) (σ : St) (tg : Expr) (R : It → Hp → Prop) (itv : Value) (s2 : Shared) : Prop :=
  ∃ (it : Addr) (fp : List Addr) (tn : Nat → Heap → Prop) (J : It) (H' : Hp), itv = .ref it ∧ Inv X pins σ H' s2 ∧ Turn X.prog X.w X.K tg J fp it tn ∧ tn 0 s2.heap ∧ (∀ b ∈ fp, FpOk X pins H' b) ∧ R J H'
noncomputable def PI (X : Cx) (tg iter : Expr) (wi : TI) : Prop :=
  ∀ (pins : List (Addr × Obj)) (s : Shared) (σ : St) (H : Hp) (R : It → Hp → Prop), Inv X pins σ H s → wi σ H R →
    wpAny (model X.prog X.w) X.A (eval iter X.env) (fun v s1 => wpAny (model X.prog X.w) X.A (pyIter v) (PIE X pins σ tg R) X.xe s1) X.xe s
theorem go_of {M : Model} {A : Around} {E : Value → Shared → Prop} {s : Shared} {tg : Expr} {it : Addr} {u : Value} {o : Obj} {n : String} {vs : Array Value} {Q : Unit → Shared → Prop} (ho : s.heap.get? it = some o) (hc : o.cls = .type n) (hd : o.data = .fields vs)
    (hn : ["enumerate", "zip", "dict_itemiterator", "dict_reverseitemiterator", "odict_iterator", "itertools.zip_longest", "itertools.pairwise"].contains n = false) (hQ : Q () s) : wpAny M A (letOwnedTupleGo tg (.ref it) u) Q E s := by
  unfold letOwnedTupleGo
  cases tg <;> first
    | exact wpAny_pure hQ
    | (cases u <;> first
        | exact wpAny_pure hQ
        | (refine wpAny_bind (wpAny_load ho ?_)
           rw [hc, hd]
           show wpAny M A (if (["enumerate", "zip", "dict_itemiterator", "dict_reverseitemiterator", "odict_iterator", "itertools.zip_longest", "itertools.pairwise"].contains n && vs[0]? == some (rawInt _)) = true then _ else _) Q E s
           rw [if_neg (by intro h; rw [hn, Bool.false_and] at h; cases h)]
           exact wpAny_pure hQ))
noncomputable def Itl (K : PySem.W.Frag) (a : Addr) : It :=
  ⟨fun i H => ∃ xs x, SqL K H a xs ∧ xs[i]? = some x, fun i H x H' => H' = H ∧ ∀ xs, SqL K H a xs → xs[i]? = some x, fun i H => ∃ xs, SqL K H a xs ∧ xs.length ≤ i⟩
noncomputable def Itt (K : PySem.W.Frag) (a : Addr) : It :=
  ⟨fun i H => ∃ xs x, SqT K H a xs ∧ xs[i]? = some x, fun i H x H' => H' = H ∧ ∀ xs, SqT K H a xs → xs[i]? = some x, fun i H => ∃ xs, SqT K H a xs ∧ xs.length ≤ i⟩
noncomputable def Itr (lo : Int) (n : Nat) : It := ⟨fun i _ => i < n, fun i H x H' => H' = H ∧ x = .int (lo + i), fun i _ => n ≤ i⟩
theorem turn_list {P : Program} {w : World} {K : PySem.W.Frag} {tg : Expr} (a it : Addr) : Turn P w K tg (Itl K a) [it] it (fun i h => h.IsListIter it a i) where
  mem := by simp
  obj := fun i h st b hb => by
    have e : b = it := by simpa using hb
    subst e
    obtain ⟨o, e, c, d⟩ := st
    exact ⟨o, e, fun v z => by rw [d] at z; cases z⟩
  keep := fun i h h' st k => st.at fun o e => k it (by simp) o e
  item := by
    intro X hP hw hK hc i pins s σ H E I hf st hg
    subst hP hw hK
    obtain ⟨xs, x, hq, hx⟩ := hg
    obtain ⟨its, rv, p, hz⟩ := I.list hq
    obtain ⟨u, hu, ru⟩ := rv.get hx
    obtain ⟨f0, f1, f2, f3, f4, f5⟩ := hf it (by simp)
    refine wpAny_pyNext_list_item st p.isList (x := u) (by simpa using hu) fun h' st' sb => ?_
    have I1 : Inv X pins σ H { s with heap := h' } := I.turned (t' := s.toks) (fun b o hb e => (sb.2 b hb).trans e) f0 f1 f3 f4 f5
    obtain ⟨o, e, c, d⟩ := id st'
    exact ⟨u, rfl, go_of (s := { s with heap := h' }) e c d (by decide) ⟨x, H, I1, ru, ⟨rfl, fun ys hy => by rw [I.list_inj hy hq]; exact hx⟩, st', fun b hb => (hf b hb).1⟩⟩
  done := by
    intro X hP hw hK hc i pins s σ H E I hf st hg
    subst hP hw hK
    obtain ⟨xs, hq, hx⟩ := hg
    obtain ⟨its, rv, p, hz⟩ := I.list hq
    obtain ⟨f0, f1, f2, f3, f4, f5⟩ := hf it (by simp)
    have hl := rv.length
    exact wpAny_pyNext_list_end (I.ok.hd hc) st p.isList (by simp; lia) fun h' eb => ⟨rfl, I.turned (t' := s.toks) (fun b o hb e => eb b o hb e) f0 f1 f3 f4 f5⟩
  self := fun _ _ _ _ _ st h => wpAny_pyIter_listiter st h
theorem turn_tuple {P : Program} {w : World} {K : PySem.W.Frag} {tg : Expr} (a it : Addr) : Turn P w K tg (Itt K a) [it] it (fun i h => h.IsTupleIter it a i) where
  mem := by simp
  obj := fun i h st b hb => by
    have e : b = it := by simpa using hb
    subst e
    obtain ⟨o, e, c, d⟩ := st
    exact ⟨o, e, fun v z => by rw [d] at z; cases z⟩
  keep := fun i h h' st k => st.at fun o e => k it (by simp) o e
  item := by
    intro X hP hw hK hc i pins s σ H E I hf st hg
    subst hP hw hK
    obtain ⟨xs, x, hq, hx⟩ := hg
    obtain ⟨its, rv, p, hz⟩ := I.tuple hq
    obtain ⟨u, hu, ru⟩ := rv.get hx
    obtain ⟨f0, f1, f2, f3, f4, f5⟩ := hf it (by simp)
    refine wpAny_pyNext_tuple_item st (show s.heap.IsTuple a its.toArray from p) (x := u) (by simpa using hu) fun h' st' sb => ?_
    have I1 : Inv X pins σ H { s with heap := h' } := I.turned (t' := s.toks) (fun b o hb e => (sb.2 b hb).trans e) f0 f1 f3 f4 f5
    obtain ⟨o, e, c, d⟩ := id st'
    exact ⟨u, rfl, go_of (s := { s with heap := h' }) e c d (by decide) ⟨x, H, I1, ru, ⟨rfl, fun ys hy => by rw [I.tuple_inj hy hq]; exact hx⟩, st', fun b hb => (hf b hb).1⟩⟩
  done := by
    intro X hP hw hK hc i pins s σ H E I hf st hg
    subst hP hw hK
    obtain ⟨xs, hq, hx⟩ := hg
    obtain ⟨its, rv, p, hz⟩ := I.tuple hq
    obtain ⟨f0, f1, f2, f3, f4, f5⟩ := hf it (by simp)
    have hl := rv.length
    exact wpAny_pyNext_tuple_end (I.ok.hd hc) st (show s.heap.IsTuple a its.toArray from p) (by simp; lia) fun h' eb => ⟨rfl, I.turned (t' := s.toks) (fun b o hb e => eb b o hb e) f0 f1 f3 f4 f5⟩
  self := fun _ _ _ _ _ st h => wpAny_pyIter_tupleiter st h
theorem turn_range {P : Program} {w : World} {K : PySem.W.Frag} {tg : Expr} (it : Addr) (lo : Int) (n : Nat) : Turn P w K tg (Itr lo n) [it] it (fun i h => IsRangeIter h it (lo + (i : Nat) * 1) ((n : Int) - (i : Nat)) 1) where
  mem := by simp
  obj := fun i h st b hb => by
    have e : b = it := by simpa using hb
    subst e
    exact ⟨_, st, fun v z => by
      have z' : Data.fields _ = Data.cell v := z
      cases z'⟩
  keep := fun i h h' st k => k it (by simp) _ st
  item := by
    intro X hP hw hK hc i pins s σ H E I hf st hg
    subst hP hw hK
    obtain ⟨f0, f1, f2, f3, f4, f5⟩ := hf it (by simp)
    have W := Walks.range (prog := X.prog) (w := X.w) (I.ok.hd hc) it lo 1 n
    refine W.item i s _ _ hg st fun v h' tk hv st' kk => ?_
    obtain ⟨t, rfl⟩ := hv
    have I1 : Inv X pins σ H { s with heap := h', toks := tk } := I.turned (fun b o hb e => kk b o (by simpa using hb) e) f0 f1 f3 f4 f5
    refine ⟨_, rfl, go_of (s := { s with heap := h', toks := tk }) (n := "range_iterator") st' rfl rfl (by decide) ⟨.int (lo + i), H, I1, ⟨t, ?_⟩, ⟨rfl, rfl⟩, st', fun b hb => (hf b hb).1⟩⟩
    rw [Int.mul_one]
  done := by
    intro X hP hw hK hc i pins s σ H E I hf st hg
    subst hP hw hK
    obtain ⟨f0, f1, f2, f3, f4, f5⟩ := hf it (by simp)
    exact wpAny_pyNext_range_end (I.ok.hd hc) st (by have : n ≤ i := hg; lia) fun h' eb => ⟨rfl, I.turned (t' := s.toks) (fun b o hb e => eb b o hb e) f0 f1 f3 f4 f5⟩
  self := fun _ _ _ _ _ st h => wpAny_pyIter_rangeiter st h
end L2
namespace L2
open PySem PySem.Spec PyProof.Rows
section
variable {X : Cx} {tg : Expr}
theorem range_it {pins : List (Addr × Obj)} {σ : St} {H : Hp} {s : Shared} {R : It → Hp → Prop} {E : Value → Shared → Prop} {lo hi : Int} {t u v : Tok} {tk : Nat} (I : Inv X pins σ H s) (h1 : -(2 ^ 62) ≤ lo) (h2 : lo < 2 ^ 62) (h3 : -(2 ^ 62) ≤ hi) (h4 : hi < 2 ^ 62)
    (q : R (Itr lo (hi - lo).toNat) H) : wpAny (model X.prog X.w) X.A (pyIter (.ref s.heap.objs.size)) (PIE X pins σ tg R) E { s with heap := s.heap.push { cls := .type "range", data := .fields #[.int lo t, .int hi u, .int 1 v] }, toks := tk } := by
  refine wpAny_pyIter_range (IsRange.new ..) (small_one h1 h2 h3 h4) ?_
  have I1 : Inv X pins σ H { s with heap := s.heap.push { cls := .type "range", data := .fields #[.int lo t, .int hi u, .int 1 v] }, toks := tk } := I.kept fun b o e => Heap.get?_push_of_some _ e
  refine ⟨(s.heap.push { cls := .type "range", data := .fields #[.int lo t, .int hi u, .int 1 v] }).objs.size, [(s.heap.push { cls := .type "range", data := .fields #[.int lo t, .int hi u, .int 1 v] }).objs.size], _, _, H, rfl,
    I1.kept (t' := tk) fun b o e => Heap.get?_push_of_some _ e, turn_range _ lo (hi - lo).toNat, ?_, fun b hb => ?_, q⟩
  · have e1 : lo + ((0 : Nat) : Int) * 1 = lo := by simp
    have e2 : (((hi - lo).toNat : Nat) : Int) - ((0 : Nat) : Int) = Builtin.Range.rangeSize lo hi 1 := by rw [rangeSize_one]; split <;> lia
    show IsRangeIter _ _ (lo + ((0 : Nat) : Int) * 1) ((((hi - lo).toNat : Nat) : Int) - ((0 : Nat) : Int)) 1
    rw [e1, e2]
    exact Heap.get?_push_size _ rfl
  · have e : b = (s.heap.push { cls := .type "range", data := .fields #[.int lo t, .int hi u, .int 1 v] }).objs.size := by simpa using hb
    subst e
    exact I1.fpOk (Nat.le_refl _) (I1.hok.fresh (Nat.le_refl _))
noncomputable def iRng1 (ta : TA) : TI := fun σ H R => ta σ H fun vs H1 => ∃ j : Int, vs = [.int j] ∧ -(2 ^ 62) ≤ j ∧ j < 2 ^ 62 ∧ R (Itr 0 j.toNat) H1
theorem pi_range1 {a : Expr} {ta : TA} {p pos : Pos} (hg : Gl X "range") (hm : X.mg "range" = none) (ha : PA X [a] ta) (hs : starEach [a] X.env = [(false, eval a X.env)] := by rfl) : PI X tg (.Call (.Name "range" p) [a] [] pos) (iRng1 ta) := by
  intro pins s σ H R I h
  refine Call_ (ld_blt I hg hm boot_range (PyProof.Rows.callWith_type1 (thn (ha pos pins s σ H _ I h) fun us s1 ⟨vs, H1, I1, r1, q1⟩ => ?_) hs rfl))
  obtain ⟨j, e, q1, q2, q⟩ := q1
  subst e
  cases r1 with
  | cons r rr =>
    cases rr
    obtain ⟨t, rfl⟩ := r
    exact call_range_1 (range_it I1 (by lia) (by lia) q1 q2 (by simpa using q))
noncomputable def tFor (wi : TI) (g : TG) (tb : TS) : TS := fun D σ H => wi σ H fun J H1 => ∃ W : Nat → Nat → St → Hp → Prop, (∃ m, W 0 m σ H1) ∧ ∀ i m σ H, W i m σ H →
  (J.stop i H ∧ D.nx σ H) ∨ (J.go i H ∧ ∃ N : St → Hp → Prop, (∀ σ' H', N σ' H' → ∃ m', m' < m ∧ W (i + 1) m' σ' H') ∧ ∀ x H', J.yld i H x H' → g x σ H' fun σ2 H2 => tb { D with nx := N, ct := N, bk := D.nx } σ2 H2)
noncomputable def pinsAt (fp : List Addr) (h : Heap) : List (Addr × Obj) := fp.filterMap fun b => (h.get? b).map fun o => (b, o)
theorem mem_pinsAt {fp : List Addr} {h : Heap} {b : Addr} {o : Obj} (hb : b ∈ fp) (e : h.get? b = some o) : (b, o) ∈ pinsAt fp h := List.mem_filterMap.mpr ⟨b, hb, by rw [e]; rfl⟩
theorem of_pinsAt {fp : List Addr} {h : Heap} {p : Addr × Obj} (hp : p ∈ pinsAt fp h) : p.1 ∈ fp ∧ h.get? p.1 = some p.2 := by
  obtain ⟨b, hb, e⟩ := List.mem_filterMap.mp hp
  cases q : h.get? b with
  | none => rw [q] at e; cases e
  | some o =>
    rw [q] at e
    have e' : (b, o) = p := Option.some.inj e
    subst e'
    exact ⟨hb, q⟩
theorem Inv.pinned {pins : List (Addr × Obj)} {σ : St} {H : Hp} {s : Shared} {fp : List Addr} (I : Inv X pins σ H s) (hf : ∀ b ∈ fp, FpOk X pins H b) (ho : ∀ b ∈ fp, ∃ o, s.heap.get? b = some o ∧ ∀ v, o.data ≠ .cell v) : Inv X (pins ++ pinsAt fp s.heap) σ H s :=
  I.pins_of fun p hp => (List.mem_append.mp hp).elim (fun z => I.pin p (List.mem_append_right _ z)) fun z => by
    obtain ⟨hb, e⟩ := of_pinsAt z
    obtain ⟨f0, f1, f2, _⟩ := hf p.1 hb
    obtain ⟨o, e', d⟩ := ho p.1 hb
    rw [e] at e'; cases e'
    exact ⟨e, f0, f1, f2, d⟩
theorem Inv.unpinned {pins pl : List (Addr × Obj)} {σ : St} {H : Hp} {s : Shared} (I : Inv X (pins ++ pl) σ H s) : Inv X pins σ H s := I.pins_of fun p hp => I.pin p (List.mem_append_right _ (List.mem_append_left _ hp))
theorem ps_for {iter : Expr} {body : List Stmt} {wi : TI} {g : TG} {tb : TS} {pos : Pos} (hp : PassesOwn (model X.prog X.w) X.A X.env X.xe) (hc : X.calm = true) (hi : PI X tg iter wi) (hg : PG X tg g) (hb : PSs X body tb)
    (hs : ∀ x, foldedSetIterable iter X.env x = pure x := by intro _; rfl) : PS X (.For tg iter body [] pos) (tFor wi g tb) := by
  intro pins s σ H D I h
  refine wpAny_For (thn (hi pins s σ H _ I h) fun v s1 h1 => thn h1 fun itv s2 h2 => ?_) hs
  obtain ⟨it, fp, tn, J, H2, e, I2, T, st2, f2, W, ⟨m0, w0⟩, turn⟩ := h2
  subst e
  -- what stays true of the iterator's objects through the loop
  have stat : ∀ {H' : Hp}, (∀ b ∈ fp, H' b = none) → ∀ b ∈ fp, FpOk X pins H' b := fun hn b hb => ⟨hn b hb, (f2 b hb).2⟩
  refine codeAny_forLoop_any (fun n s' => ∃ i σ' H', Inv X pins σ' H' s' ∧ tn i s'.heap ∧ (∀ b ∈ fp, H' b = none) ∧ W i n σ' H') ?_ m0 ⟨0, σ, H2, I2, st2, fun b hb => (f2 b hb).1, w0⟩
  rintro n s3 ⟨i, σ3, H3, I3, st3, fr3, w3⟩
  rcases turn i n σ3 H3 w3 with ⟨stop, qn⟩ | ⟨go, N, hN, step⟩
  · refine wpAny_passesOwn hp (thn (T.done X rfl rfl rfl hc i pins s3 σ3 H3 X.xe I3 (stat fr3) st3 stop) fun r s4 ⟨hr, I4⟩ => ?_)
    subst hr
    exact wpAny_execs_nil ⟨σ3, H3, I4, qn⟩
  · refine wpAny_passesOwn hp (thn (T.item X rfl rfl rfl hc i pins s3 σ3 H3 X.xe I3 (stat fr3) st3 go) fun r s4 ⟨u, hr, h4⟩ => ?_)
    subst hr
    refine wpAny_passesOwn hp (thn h4 fun _ s5 ⟨x, H5, I5, r5, y5, st5, fr5⟩ => ?_)
    have I5' := I5.pinned (stat fr5) (T.obj _ _ st5)
    refine wpAny_passesOwn hp (thn (hg _ s5 σ3 H5 x u _ I5' r5 (step x H5 y5)) fun _ s6 ⟨σ6, H6, I6, q6⟩ => ?_)
    refine wpAny_passesOwn hp (thn (hb _ s6 σ6 H6 _ I6 q6) fun f s7 q7 => ?_)
    have again : ∀ {σ7 : St} {H7 : Hp}, Inv X (pins ++ pinsAt fp s5.heap) σ7 H7 s7 → N σ7 H7 → ∃ m, m < n ∧ ∃ i σ' H', Inv X pins σ' H' s7 ∧ tn i s7.heap ∧ (∀ b ∈ fp, H' b = none) ∧ W i m σ' H' := fun {σ7 H7} I7 n7 => by
      obtain ⟨m', hm, w7⟩ := hN σ7 H7 n7
      refine ⟨m', hm, i + 1, σ7, H7, I7.unpinned, T.keep _ _ _ st5 fun b hb o e => (I7.pin (b, o) (List.mem_append_right _ (List.mem_append_right _ (mem_pinsAt hb e)))).1, fun b hb => ?_, w7⟩
      obtain ⟨o, e, d⟩ := T.obj _ _ st5 b hb
      exact (I7.pin (b, o) (List.mem_append_right _ (List.mem_append_right _ (mem_pinsAt hb e)))).2.1
    cases f with
    | next => obtain ⟨σ7, H7, I7, n7⟩ := q7; exact again I7 n7
    | cont => obtain ⟨σ7, H7, I7, n7⟩ := q7; exact again I7 n7
    | brk => obtain ⟨σ7, H7, I7, q7⟩ := q7; exact ⟨σ7, H7, I7.unpinned, q7⟩
    | ret v => obtain ⟨x7, σ7, H7, I7, r7, q7⟩ := q7; exact ⟨x7, σ7, H7, I7.unpinned, r7, q7⟩
end
end L2
namespace L2
open PySem PySem.Spec PyProof.Rows
noncomputable abbrev R2 := V → V → Hp → VK → Prop
noncomputable def OpR (X : Cx) (f : Value → Value → Sem Value) (r : R2) : Prop :=
  ∀ (pins : List (Addr × Obj)) (s : Shared) (σ : St) (H : Hp) (x y : V) (v u : Value) (Q : VK), Inv X pins σ H s → RelV x v → RelV y u → r x y H Q →
    wpAny (model X.prog X.w) X.A (f v u) (EP X pins σ Q) X.xe s
noncomputable def UnR (X : Cx) (f : Value → Sem Value) (r : V → Hp → VK → Prop) : Prop :=
  ∀ (pins : List (Addr × Obj)) (s : Shared) (σ : St) (H : Hp) (x : V) (v : Value) (Q : VK), Inv X pins σ H s → RelV x v → r x H Q →
    wpAny (model X.prog X.w) X.A (f v) (EP X pins σ Q) X.xe s
noncomputable def CallR (X : Cx) (f : Value) (r : List V → Hp → VK → Prop) : Prop :=
  ∀ (pins : List (Addr × Obj)) (s : Shared) (σ : St) (H : Hp) (xs : List V) (us : List Value) (Q : VK), Inv X pins σ H s → Vals xs us → r xs H Q →
    wpAny (model X.prog X.w) X.A (call f us) (EP X pins σ Q) X.xe s
noncomputable def TruR (X : Cx) (r : V → Hp → (Bool → Hp → Prop) → Prop) : Prop :=
  ∀ (pins : List (Addr × Obj)) (s : Shared) (σ : St) (H : Hp) (x : V) (v : Value) (Q : Bool → Hp → Prop), Inv X pins σ H s → RelV x v → r x H Q →
    wpAny (model X.prog X.w) X.A (truthy v) (TP X pins σ Q) X.xe s
noncomputable def tOp (r : R2) (ta tb : TE) : TE := fun σ H Q => ta σ H fun x H1 => tb σ H1 fun y H2 => r x y H2 Q
noncomputable def tUn (r : V → Hp → VK → Prop) (ta : TE) : TE := fun σ H Q => ta σ H fun x H1 => r x H1 Q
noncomputable def rI (C : Int → Int → Prop) (g : Int → Int → V) : R2 := fun x y H Q => ∃ i j, x = .int i ∧ y = .int j ∧ C i j ∧ Q (g i j) H
noncomputable def rI0 (g : Int → Int → V) : R2 := fun x y H Q => ∃ i j, x = .int i ∧ y = .int j ∧ Q (g i j) H
noncomputable def rU (g : Int → V) : V → Hp → VK → Prop := fun x H Q => ∃ i, x = .int i ∧ Q (g i) H
section
variable {X : Cx} {a b c : Expr} {ta tb tc : TE} {pos : Pos}
theorem binT (ha : PE X a ta) (hb : PE X b tb) {pins : List (Addr × Obj)} {s : Shared} {σ : St} {H : Hp} {R : V → V → Hp → Prop} (I : Inv X pins σ H s)
    (h : ta σ H fun x H1 => tb σ H1 fun y H2 => R x y H2) {Q : Value → Shared → Prop} {f : Value → Value → Sem Value}
    (hf : ∀ v u s2 x y H2, Inv X pins σ H2 s2 → RelV x v → RelV y u → R x y H2 → wpAny (model X.prog X.w) X.A (f v u) Q X.xe s2) :
    wpAny (model X.prog X.w) X.A (eval a X.env) (fun v s₁ => wpAny (model X.prog X.w) X.A (eval b X.env) (fun u s₂ => wpAny (model X.prog X.w) X.A (f v u) Q X.xe s₂) X.xe s₁) X.xe s := by
  refine thn (ha pins s σ H _ I h) fun v s1 ⟨x, H1, I1, r1, q1⟩ => ?_
  refine thn (hb pins s1 σ H1 _ I1 q1) fun u s2 ⟨y, H2, I2, r2, q2⟩ => ?_
  exact hf v u s2 x y H2 I2 r1 r2 q2
theorem pe_op {op : Operator} {r : R2} (ho : OpR X (binaryOp op) r) (ha : PE X a ta) (hb : PE X b tb) : PE X (.BinOp a op b pos) (tOp r ta tb) := by
  intro pins s σ H Q I h
  exact wpAny_BinOp (binT ha hb I h fun v u s2 x y H2 I2 rx ry q => ho pins s2 σ H2 x y v u Q I2 rx ry q)
theorem pe_un {op : UnaryOp} {r : V → Hp → VK → Prop} (ho : UnR X (unaryOp op) r) (ha : PE X a ta) : PE X (.UnaryOp op a pos) (tUn r ta) := by
  intro pins s σ H Q I h
  exact UnaryOp_ (thn (ha pins s σ H _ I h) fun v s1 ⟨x, H1, I1, r1, q1⟩ => ho pins s1 σ H1 x v Q I1 r1 q1)
theorem opI {f : Value → Value → Sem Value} {C : Int → Int → Prop} {g : Int → Int → Int}
    (rule : ∀ (i j : Int) (t u : Tok) (s : Shared) (Q : Value → Shared → Prop) (E : Value → Shared → Prop), C i j → Q (.int (g i j) s.toks) { s with toks := s.toks + 1 } → wpAny (model X.prog X.w) X.A (f (.int i t) (.int j u)) Q E s) :
    OpR X f (rI C fun i j => .int (g i j)) := by
  intro pins s σ H x y v u Q I rx ry h
  obtain ⟨i, j, rfl, rfl, hc, q⟩ := h
  obtain ⟨t, rfl⟩ := rx
  obtain ⟨t', rfl⟩ := ry
  exact rule i j t t' s _ _ hc ⟨.int (g i j), H, I.tok _, ⟨_, rfl⟩, q⟩
theorem opI0 {f : Value → Value → Sem Value} {g : Int → Int → Int}
    (rule : ∀ (i j : Int) (t u : Tok) (s : Shared) (Q : Value → Shared → Prop) (E : Value → Shared → Prop), Q (.int (g i j) s.toks) { s with toks := s.toks + 1 } → wpAny (model X.prog X.w) X.A (f (.int i t) (.int j u)) Q E s) :
    OpR X f (rI0 fun i j => .int (g i j)) := by
  intro pins s σ H x y v u Q I rx ry h
  obtain ⟨i, j, rfl, rfl, q⟩ := h
  obtain ⟨t, rfl⟩ := rx
  obtain ⟨t', rfl⟩ := ry
  exact rule i j t t' s _ _ ⟨.int (g i j), H, I.tok _, ⟨_, rfl⟩, q⟩
theorem opB0 {f : Value → Value → Sem Value} {g : Int → Int → Bool}
    (rule : ∀ (i j : Int) (t u : Tok) (s : Shared) (Q : Value → Shared → Prop) (E : Value → Shared → Prop), Q (.bool (g i j)) s → wpAny (model X.prog X.w) X.A (f (.int i t) (.int j u)) Q E s) :
    OpR X f (rI0 fun i j => .bl (g i j)) := by
  intro pins s σ H x y v u Q I rx ry h
  obtain ⟨i, j, rfl, rfl, q⟩ := h
  obtain ⟨t, rfl⟩ := rx
  obtain ⟨t', rfl⟩ := ry
  exact rule i j t t' s _ _ ⟨.bl (g i j), H, I, rfl, q⟩
noncomputable def CDiv (i j : Int) : Prop := 0 < j ∧ j < 1073741824
noncomputable def CMul (i j : Int) : Prop := (-(2 ^ 64) < i ∧ i < 2 ^ 64) ∨ (-(2 ^ 64) < j ∧ j < 2 ^ 64)
theorem CMul.ok {i j : Int} (h : CMul i j) : IntMulOk i j := by
  rcases h with ⟨h1, h2⟩ | ⟨h1, h2⟩
  · exact .of_left (intBits_le_64 h1 h2)
  · exact .of_right (intBits_le_64 h1 h2)
theorem op_add : OpR X (binaryOp .Add) (rI0 fun i j => .int (i + j)) := opI0 fun _ _ _ _ _ _ _ q => add_int q
theorem op_sub : OpR X (binaryOp .Sub) (rI0 fun i j => .int (i - j)) := opI0 fun _ _ _ _ _ _ _ q => sub_int q
theorem op_mul : OpR X (binaryOp .Mult) (rI CMul fun i j => .int (i * j)) := opI fun _ _ _ _ _ _ _ hc q => mul_int q hc.ok
theorem op_fdiv : OpR X (binaryOp .FloorDiv) (rI CDiv fun i j => .int (i / j)) := opI fun i j _ _ _ _ _ hc q => by
  have h1 : (0 : Int) < j := hc.1
  have h2 : j < 1073741824 := hc.2
  exact floordiv_int (by lia) (by rw [Int.fdiv_eq_ediv_of_nonneg i (by lia)]; exact q) (.inl (PyProof.noPylong_small (by lia)))
theorem op_mod : OpR X (binaryOp .Mod) (rI (fun _ j => 0 < j) fun i j => .int (i % j)) := opI fun i j _ _ _ _ _ hc q => by
  have h1 : (0 : Int) < j := hc
  exact mod_int' (by lia) (by rw [Int.fmod_eq_emod_of_nonneg i (by lia)]; exact q)
theorem unI {f : Value → Sem Value} {g : Int → Int}
    (rule : ∀ (i : Int) (t : Tok) (s : Shared) (Q : Value → Shared → Prop) (E : Value → Shared → Prop), Q (.int (g i) s.toks) { s with toks := s.toks + 1 } → wpAny (model X.prog X.w) X.A (f (.int i t)) Q E s) :
    UnR X f (rU fun i => .int (g i)) := by
  intro pins s σ H x v Q I rx h
  obtain ⟨i, rfl, q⟩ := h
  obtain ⟨t, rfl⟩ := rx
  exact rule i t s _ _ ⟨.int (g i), H, I.tok _, ⟨_, rfl⟩, q⟩
theorem un_neg : UnR X (unaryOp .USub) (rU fun i => .int (-i)) := unI fun _ _ _ _ _ q => neg_int q
end
section
variable {X : Cx} {a b c : Expr} {ta tb tc : TE} {pos : Pos}
theorem op_lt : OpR X (compareOp .Lt) (rI0 fun i j => .bl (decide (i < j))) := opB0 fun _ _ _ _ _ _ _ q => lt_int q
theorem op_le : OpR X (compareOp .LtE) (rI0 fun i j => .bl (decide (i ≤ j))) := opB0 fun _ _ _ _ _ _ _ q => le_int q
theorem op_gt : OpR X (compareOp .Gt) (rI0 fun i j => .bl (decide (j < i))) := opB0 fun _ _ _ _ _ _ _ q => gt_int q
theorem pe_cmpR {op : CmpOp} {r : R2} (ho : OpR X (compareOp op) r) (ha : PE X a ta) (hb : PE X b tb) (hm : behindInMarks op b = false) : PE X (.Compare a [op] [b] pos) (tOp r ta tb) := by
  intro pins s σ H Q I h
  exact wpAny_Compare1 (binT ha hb I h fun v u s2 x y H2 I2 rx ry q => ho pins s2 σ H2 x y v u Q I2 rx ry q) hm
noncomputable def tTest (t : TE) : TT := fun σ H Q => t σ H fun x H' => ∃ k, x = .bl k ∧ Q k H'
theorem pt_cmpR {op : CmpOp} {r : R2} (ho : OpR X (compareOp op) r) (ha : PE X a ta) (hb : PE X b tb) (hm : behindInMarks op b = false) : PT X (.Compare a [op] [b] pos) (tTest (tOp r ta tb)) := by
  intro pins s σ H Q I h
  refine wpAny_isTrue_Compare1 (thn (ha pins s σ H _ I h) fun v s1 ⟨x, H1, I1, r1, q1⟩ => thn (hb pins s1 σ H1 _ I1 q1) fun u s2 ⟨y, H2, I2, r2, q2⟩ =>
    thn (ho pins s2 σ H2 x y v u _ I2 r1 r2 q2) fun c s3 ⟨z, H3, I3, r3, k, e, q3⟩ => ?_) hm
  subst e
  cases r3
  exact wpAny_truthy_bool ⟨H3, I3, q3⟩
noncomputable def tChain (r r' : R2) (ta tb tc : TE) : TE := fun σ H Q => ta σ H fun x H1 => tb σ H1 fun y H2 => r x y H2 fun z H3 => ∃ k, z = .bl k ∧
  (if k = true then tc σ H3 fun w' H4 => r' y w' H4 Q else Q (.bl false) H3)
theorem pe_chain {op op' : CmpOp} {r r' : R2} (ho : OpR X (compareOp op) r) (ho' : OpR X (compareOp op') r') (ha : PE X a ta) (hb : PE X b tb) (hc : PE X c tc)
    (hm : lastMarks [op, op'] [b, c] = false := by with_unfolding_all rfl) : PE X (.Compare a [op, op'] [b, c] pos) (tChain r r' ta tb tc) := by
  intro pins s σ H Q I h
  refine Compare_chain (thn (ha pins s σ H _ I h) fun v s1 ⟨x, H1, I1, r1, q1⟩ => chain_link (thn (hb pins s1 σ H1 _ I1 q1) fun u s2 ⟨y, H2, I2, r2, q2⟩ =>
    thn (ho pins s2 σ H2 x y v u _ I2 r1 r2 q2) fun d s3 ⟨z, H3, I3, r3, k, e, q3⟩ => ?_)) hm
  subst e
  cases r3
  refine wpAny_truthy_bool ?_
  cases k with
  | false => exact ite_ff ⟨.bl false, H3, I3, rfl, q3⟩
  | true => exact ite_tt (chain_last (thn (hc pins s3 σ H3 _ I3 q3) fun w' s4 ⟨z', H4, I4, r4, q4⟩ => ho' pins s4 σ H4 y z' u w' Q I4 r2 r4 q4))
theorem pt_chain {op op' : CmpOp} {r r' : R2} (ho : OpR X (compareOp op) r) (ho' : OpR X (compareOp op') r') (ha : PE X a ta) (hb : PE X b tb) (hc : PE X c tc)
    (hm : lastMarks [op, op'] [b, c] = false := by with_unfolding_all rfl) : PT X (.Compare a [op, op'] [b, c] pos) (tTest (tChain r r' ta tb tc)) := by
  intro pins s σ H Q I h
  refine isTrue_chain (thn (ha pins s σ H _ I h) fun v s1 ⟨x, H1, I1, r1, q1⟩ => test_link (thn (hb pins s1 σ H1 _ I1 q1) fun u s2 ⟨y, H2, I2, r2, q2⟩ =>
    thn (ho pins s2 σ H2 x y v u _ I2 r1 r2 q2) fun d s3 ⟨z, H3, I3, r3, k, e, q3⟩ => ?_)) hm
  subst e
  cases r3
  refine wpAny_truthy_bool ?_
  cases k with
  | false =>
    obtain ⟨k', e', q'⟩ := q3
    cases e'
    exact ite_ff ⟨H3, I3, q'⟩
  | true =>
    refine ite_tt (test_last (thn (hc pins s3 σ H3 _ I3 q3) fun w' s4 ⟨z', H4, I4, r4, q4⟩ => thn (ho' pins s4 σ H4 y z' u w' _ I4 r2 r4 q4) fun d' s5 ⟨z2, H5, I5, r5, k2, e2, q5⟩ => ?_))
    subst e2
    cases r5
    exact wpAny_truthy_bool ⟨H5, I5, q5⟩
noncomputable def TruV (K : PySem.W.Frag) (x : V) (H : Hp) (k : Bool) : Prop :=
  match x with
  | .non => k = false
  | .bl b => k = b
  | .int i => k = (i != 0)
  | .str y => y.length ≤ sizeLine ∧ k = ((y.length : Int) != 0)
  | .byt y => y.size ≤ sizeLine ∧ k = ((y.size : Int) != 0)
  | .ref p => (∃ xs, SqL K H p xs ∧ k = !xs.isEmpty) ∨ (∃ xs, SqT K H p xs ∧ k = !xs.isEmpty) ∨ ∃ kvs, H p = some (.dK kvs) ∧ k = !kvs.isEmpty
  | _ => False
theorem isEmpty_kv {κ : Type} {kvs : List (κ × V)} {vs : List (κ × Value)} (r : KV kvs vs) : (!vs.isEmpty) = !kvs.isEmpty := by
  cases r <;> rfl
theorem isEmpty_of {xs : List V} {its : List Value} (r : Vals xs its) : (!its.toArray.isEmpty) = !xs.isEmpty := by
  cases r <;> simp
theorem line63 : (sizeLine : Nat) < 2 ^ 63 := by rw [sizeLine_eq]; decide
theorem tru_ok : TruR X (fun x H Q => ∃ k, TruV X.K x H k ∧ Q k H) := by
  intro pins s σ H x v Q I rx h
  obtain ⟨k, e, q⟩ := h
  have hl := line63
  have hs : sizeLine = 16777216 := sizeLine_eq
  cases x with
  | non =>
    cases rx
    have e' : k = false := e
    subst e'
    exact truthy_none ⟨H, I, q⟩
  | bl b =>
    cases rx
    have e' : k = b := e
    subst e'
    exact wpAny_truthy_bool ⟨H, I, q⟩
  | int i =>
    obtain ⟨t, rfl⟩ := rx
    have e' : k = (i != 0) := e
    subst e'
    exact PySem.P.truthy_int ⟨H, I, q⟩
  | str y =>
    obtain ⟨t, rfl⟩ := rx
    obtain ⟨hy, e'⟩ : y.length ≤ sizeLine ∧ k = ((y.length : Int) != 0) := e
    subst e'
    exact PySem.P.truthy_str (by lia) ⟨H, I.tok _, q⟩
  | byt y =>
    obtain ⟨t, rfl⟩ := rx
    obtain ⟨hy, e'⟩ : y.size ≤ sizeLine ∧ k = ((y.size : Int) != 0) := e
    subst e'
    exact PySem.W.truthy_bytes (by lia) ⟨H, I.tok _, q⟩
  | ref p =>
    cases rx
    have e' : (∃ xs, SqL X.K H p xs ∧ k = !xs.isEmpty) ∨ (∃ xs, SqT X.K H p xs ∧ k = !xs.isEmpty) ∨ ∃ kvs, H p = some (.dK kvs) ∧ k = !kvs.isEmpty := e
    rcases e' with ⟨xs, hx, e'⟩ | ⟨xs, hx, e'⟩ | ⟨kvs, hx, e'⟩
    · subst e'
      obtain ⟨its, r, pl, hz⟩ := I.list hx
      have hlen := r.length
      exact wpAny_truthy_list pl.isList (by simp only [List.size_toArray]; lia) ⟨H, I.tok _, by rw [isEmpty_of r]; exact q⟩
    · subst e'
      obtain ⟨its, r, pl, hz⟩ := I.tuple hx
      have hlen := r.length
      exact truthy_tuple pl (by simp only [List.size_toArray]; lia) ⟨H, I.tok _, by rw [isEmpty_of r]; exact q⟩
    · subst e'
      obtain ⟨hz, hS, vs, r, m⟩ : kvs.length ≤ sizeLine ∧ (p == sysModules) = false ∧ ∃ vs, KV kvs vs ∧ s.heap.DictOf (mixKind X.prog X.w) p vs := I.hok p _ hx
      have hlen : kvs.length = vs.length := Paired.length r
      exact wpAny_truthy_dict hS m (by lia) ⟨H, I.tok _, by rw [isEmpty_kv r]; exact q⟩
  | _ => exact (show False from e).elim
theorem pt_truth (ha : PE X a ta) (he : ∀ whole, isTrue a X.env whole = (do let v ← whole; standAt a.pos; holding [v] (truthy v))) :
    PT X a (fun σ H Q => ta σ H fun x H' => ∃ k, TruV X.K x H' k ∧ Q k H') := by
  intro pins s σ H Q I h
  exact isTrue_plain (thn (ha pins s σ H _ I h) fun v s1 ⟨x, H1, I1, r1, q1⟩ => tru_ok pins s1 σ H1 x v Q I1 r1 q1) (he _)
theorem op_add_str : OpR X (binaryOp .Add) (fun x y H Q => ∃ i j, x = .str i ∧ y = .str j ∧ i.length + j.length ≤ sizeLine ∧ Q (.str (i ++ j)) H) := by
  intro pins s σ H x y v u Q I rx ry h
  obtain ⟨i, j, rfl, rfl, hz, q⟩ := h
  obtain ⟨t, rfl⟩ := rx
  obtain ⟨t', rfl⟩ := ry
  exact add_str (fun t' tk => ⟨.str (i ++ j), H, I.tok _, ⟨_, rfl⟩, q⟩) hz
theorem vals1 {x : V} {us : List Value} (r : Vals [x] us) : ∃ u, us = [u] ∧ RelV x u := by
  cases r with
  | cons r1 r2 => cases r2; exact ⟨_, rfl, r1⟩
theorem vals2 {x y : V} {us : List Value} (r : Vals [x, y] us) : ∃ u w', us = [u, w'] ∧ RelV x u ∧ RelV y w' := by
  cases r with
  | cons r1 r2 =>
    cases r2 with
    | cons r3 r4 => cases r4; exact ⟨_, _, rfl, r1, r3⟩
theorem call_int1 : CallR X (.type "int") (fun xs H Q => (∃ i, xs = [.int i] ∧ Q (.int i) H) ∨ ∃ k, xs = [.bl k] ∧ Q (.int (if k then 1 else 0)) H) := by
  intro pins s σ H xs us Q I r h
  rcases h with ⟨i, rfl, q⟩ | ⟨k, rfl, q⟩
  · obtain ⟨u, rfl, t, rfl⟩ := vals1 r
    exact call_int_int ⟨.int i, H, I, ⟨_, rfl⟩, q⟩
  · obtain ⟨u, rfl, r1⟩ := vals1 r
    cases r1
    exact call_int_bool ⟨.int (if k then 1 else 0), H, I.tok _, ⟨_, rfl⟩, q⟩
end
end L2
namespace L2
open PySem PySem.Spec PyProof.Rows
section
variable {prog : Program} {w : World} {A : Around} {E : Value → Shared → Prop} {s : Shared} {K : PySem.W.Frag} {x dx C f : Addr} {mA : Str → Option Value} {name : Str} {v : Value}
end
theorem RelO.some_of {v : V} {o : Option Value} (r : RelO (some v) o) : ∃ u, o = some u ∧ RelV v u := by
  cases o with
  | none => exact (show False from r).elim
  | some u => exact ⟨u, rfl, r⟩
section
variable {P : Program} {w : World} {H H' : Hp} {h h' : Heap} {a C dx : Addr} {fs fs' : List (Str × V)}
end
section
variable {X : Cx} {pins : List (Addr × Obj)} {σ : St} {H : Hp} {s : Shared} {a C dx : Addr} {fs : List (Str × V)} {f : Str} {v : V} {A : Around} {E : Value → Shared → Prop}
end
section
variable {X : Cx} {o e value : Expr} {f : Str} {pos pos' tpos : Pos} {ta tv : TE}
end
section
variable {X : Cx} {pins : List (Addr × Obj)} {σ : St} {H : Hp} {s : Shared} {A : Around} {E : Value → Shared → Prop} {Q : Value → Shared → Prop} {c : Value} {b : Bool}
end
end L2
namespace L2
open PySem PySem.Spec PyProof.Rows
structure Room (k : Nat) (A : Around) : Prop where
  hd : A.handled = none
  dp : A.depth + 3 * k + 5 < recursionLimit
  un : A.units + 16 * k + 200 < cLine
theorem Room.deeper {k : Nat} {A : Around} (r : Room (k + 1) A) (env : Env) : Room k (A.deeper env) :=
  ⟨r.hd, by have := r.dp; show A.depth + 1 + 3 * k + 5 < _; lia, by have := r.un; show A.units + 3 + 16 * k + 200 < _; lia⟩
theorem Room.depth {k : Nat} {A : Around} (r : Room k A) : A.depth < recursionLimit := by have := r.dp; lia
noncomputable def tNil : TA := fun _ H Q => Q [] H
noncomputable def tCons (ta : TE) (tr : TA) : TA := fun σ H Q => ta σ H fun x H1 => tr σ H1 fun xs H2 => Q (x :: xs) H2
section
variable {X : Cx} {e : Expr} {es : List Expr} {te : TE} {t : TA} {pos : Pos}
theorem pa_nil : PA X [] tNil := fun _ _ _ _ H Q I h => Calls.spliced_nil ⟨[], H, I, .nil, h⟩
theorem pa_cons (ha : PE X e te) (hr : PA X es t) (hs : starEach (e :: es) X.env = (false, eval e X.env) :: starEach es X.env := by rfl) : PA X (e :: es) (tCons te t) := by
  intro pos pins s σ H Q I h
  rw [hs]
  show wpAny _ _ (spliced ((false, eval e X.env) :: backTo pos (starEach es X.env))) _ _ s
  refine Calls.spliced_cons (thn (ha pins s σ H _ I h) fun u s1 ⟨x, H1, I1, r1, q1⟩ => ?_)
  exact thn (hr pos pins s1 σ H1 _ I1 q1) fun us s2 ⟨xs, H2, I2, r2, q2⟩ => ⟨x :: xs, H2, I2, .cons r1 r2, q2⟩
noncomputable def tTup (t : TA) : TE := fun σ H Q => t σ H fun xs H1 => xs.length ≤ sizeLine ∧ ∀ p, H1 p = none → Q (.ref p) (upd H1 p (.tup xs))
noncomputable def tLst (t : TA) : TE := fun σ H Q => t σ H fun xs H1 => xs.length ≤ sizeLine ∧ ∀ p, H1 p = none → Q (.ref p) (upd H1 p (.lst xs))
theorem pe_tup {x1} (h : PA X es t) : PE X (.Tuple es x1 pos) (tTup t) := by
  intro pins s σ H Q I hq
  refine wpAny_Tuple_spliced (thn (h pos pins s σ H _ I hq) fun us s1 ⟨xs, H1, I1, r, z, q⟩ => ⟨by rw [← r.length]; exact z, ?_⟩)
  have hf : H1 s1.heap.objs.size = none := I1.hok.fresh (Nat.le_refl _)
  refine ⟨.ref s1.heap.objs.size, upd H1 s1.heap.objs.size (.tup xs), I1.laid (t' := s1.toks) (fun b u e => Heap.get?_push_of_some _ e) (Nat.le_refl _) ?_, rfl, q _ hf⟩
  exact ⟨z, us, r, ⟨_, Heap.get?_push_size _ rfl, rfl, _, rfl⟩⟩
theorem pe_lst (h : PA X es t) : PE X (.List es pos) (tLst t) := by
  intro pins s σ H Q I hq
  refine wpAny_List_spliced (thn (h pos pins s σ H _ I hq) fun us s1 ⟨xs, H1, I1, r, z, q⟩ => ⟨by rw [← r.length]; exact z, ?_⟩)
  have hf : H1 s1.heap.objs.size = none := I1.hok.fresh (Nat.le_refl _)
  refine ⟨.ref s1.heap.objs.size, upd H1 s1.heap.objs.size (.lst xs), I1.laid (t' := s1.toks) (fun b u e => Heap.get?_push_of_some _ e) (Nat.le_refl _) ?_, rfl, q _ hf⟩
  exact ⟨z, us, 0, r, Heap.get?_push_size _ rfl⟩
end
noncomputable abbrev Sp := List V → Hp → VK → XK → Prop
noncomputable abbrev CXT := List Env → Hp → Shared → XK → Value → Shared → Prop
structure Env0 (P : Program) (w : World) (K : PySem.W.Frag) (mg : Str → Option Value) (base : Heap) (A : Around) (outer : List Env) (s : Shared) (H : Hp) : Prop where
  frames : A.frames = some outer
  mod : Mod K mg base
  bs : ∀ b o, base.get? b = some o → s.heap.get? b = some o ∧ H b = none
  bsz : base.objs.size ≤ s.heap.objs.size
  funs : s.heap.FunFrames base outer
  frf : ∀ b ∈ frs outer, H b = none
  hok : HOk P w H s.heap
  bare : AllBare s.gens
noncomputable def CE (outer : List Env) (P : Program) (w : World) (H : Hp) (s : Shared) (Q : VK) (u : Value) (s' : Shared) : Prop :=
  ∃ v H', s'.os = s.os ∧ AllBare s'.gens ∧ Un (frs outer) [] H H' s.heap s'.heap ∧ HOk P w H' s'.heap ∧ RelV v u ∧ Q v H'
noncomputable def CR (CX : CXT) (outer : List Env) (P : Program) (w : World) (H : Hp) (s : Shared) (Q : VK) (E : XK) (r : Result) (s' : Shared) : Prop :=
  match r with
  | .ok (.ret u) => CE outer P w H s Q u s'
  | .ok _ => False
  | .error e => CX outer H s E e s'
structure FnOk (P : Program) (w : World) (K : PySem.W.Frag) (mg : Str → Option Value) (base : Heap) (CX : CXT) (k : Nat) (f : Addr) (fd : FuncData) (ps : List Str) (sp : Sp) : Prop where
  len : ∀ vs H Q E, sp vs H Q E → vs.length = ps.length
  run : ∀ (A : Around) (outer : List Env) (s : Shared) (H : Hp) (args : Args) (us : List Value) (vs : List V) (Q : VK) (E : XK), Room k A → Env0 P w K mg base A outer s H → BindsTo s fd args (ps.zip us) → Vals vs us → sp vs H Q E →
    codeAny (model P w) A (.call (.ref f) args) (CR CX outer P w H s Q E) s
section
variable {X : Cx} {pins : List (Addr × Obj)} {σ : St} {H : Hp} {s s' : Shared}
theorem Inv.env0 (I : Inv X pins σ H s) : Env0 X.prog X.w X.K X.mg X.base X.A X.stack s H :=
  ⟨I.ok.frames, I.ok.mod, I.bs, Nat.le_trans I.ok.bsz I.sz, I.stack, I.stkFree, I.hok, I.bare⟩
theorem Inv.after {Q : VK} {u : Value} (I : Inv X pins σ H s) (h : CE X.stack X.prog X.w H s Q u s') : EP X pins σ Q u s' := by
  obtain ⟨v, H', os, bare, un, hok, r, q⟩ := h
  obtain ⟨hh, g, d, t, os'⟩ := s'
  obtain rfl : os' = s.os := os
  exact ⟨v, H', I.call (h' := hh) (g' := g) (d' := d) (t' := t) (ch := []) un hok bare (fun b z => absurd z (by simp)), r, q⟩
end
noncomputable def tCall (sp : Sp) (dvs : List V) (E : XK) (t : TA) : TE := fun σ H Q => t σ H fun vs H1 => sp (vs ++ dvs) H1 Q E
noncomputable def Binds (K : PySem.W.Frag) (fd : FuncData) (ps : List Str) (ds : List Value) : Prop :=
  ∀ (s : Shared) (us : List Value), K.In s.heap → (us ++ ds).length = ps.length → BindsTo s fd ⟨us, []⟩ (ps.zip (us ++ ds))
theorem Binds.all {K : PySem.W.Frag} {fd : FuncData} {ps : List Str} (h : ∀ us : List Value, us.length = ps.length → bindArgs fd ⟨us, []⟩ = pure (ps.zip us)) : Binds K fd ps [] := fun s us _ hl => by
  rw [List.append_nil] at hl ⊢
  exact .of_eq (h us hl)
noncomputable def Passes (CX : CXT) (X : Cx) (E : XK) : Prop := ∀ (pins : List (Addr × Obj)) (σ : St) (H : Hp) (s : Shared) (e : Value) (s' : Shared), Inv X pins σ H s → CX X.stack H s E e s' → X.xe e s'
section
variable {X : Cx} {CX : CXT} {k : Nat} {f C : Addr} {fd : FuncData} {ps : List Str} {sp : Sp} {dvs : List V} {ds : List Value} {E : XK} {x m : Str} {p pos apos : Pos} {e o : Expr} {es : List Expr} {ta : TE} {t : TA}
theorem run_fn {pins : List (Addr × Obj)} {σ : St} {H : Hp} {s : Shared} {Q : VK} {us : List Value} {vs : List V} (F : FnOk X.prog X.w X.K X.mg X.base CX k f fd ps sp) (hr : Room k X.A) (hb : Binds X.K fd ps ds) (hd : Vals dvs ds) (hx : Passes CX X E)
    (I : Inv X pins σ H s) (r : Vals vs us) (h : sp (vs ++ dvs) H Q E) : wpAny (model X.prog X.w) X.A (call (.ref f) us) (EP X pins σ Q) X.xe s := by
  have r2 : Vals (vs ++ dvs) (us ++ ds) := r.append hd
  have hl : (us ++ ds).length = ps.length := by rw [← r2.length]; exact F.len _ _ _ _ h
  refine wpAny_call (codeAny_mono (F.run X.A X.stack s H ⟨us, []⟩ (us ++ ds) (vs ++ dvs) Q E hr I.env0 (hb s us I.kIn hl) r2 h) fun r s' hq => ?_)
  cases r with
  | error e => exact hx pins σ H s e s' I hq
  | ok fl =>
    cases fl with
    | ret u => exact I.after hq
    | next => exact False.elim hq
    | brk => exact False.elim hq
    | cont => exact False.elim hq
theorem pe_call (F : FnOk X.prog X.w X.K X.mg X.base CX k f fd ps sp) (hr : Room k X.A) (hg : Gl X x) (hm : X.mg x = some (.ref f)) (hk : PySem.W.keepIn X.K (.ref f) = true) (hb : Binds X.K fd ps ds) (hd : Vals dvs ds) (hx : Passes CX X E)
    (ha : PA X (e :: es) t) (hdb : (x == ("__debug__" : Str)) = false := by decide) (he : starEach (e :: es) X.env = (false, eval e X.env) :: starEach es X.env := by rfl) (hpl : (backTo pos (starEach es X.env)).any (·.1) = false := by rfl) :
    PE X (.Call (.Name x p) (e :: es) [] pos) (tCall sp dvs E t) := by
  intro pins s σ H Q I h
  refine wpAny_Call_Name_kw (ld_glob I hg hm ?_ hdb)
  refine PySem.W.callWith_K (h₀ := X.base) I.ok.mod.kin hk (thn (ha pos pins s σ H _ I h) fun us s1 ⟨vs, H1, I1, r, q⟩ => ⟨I1.kIn, ?_⟩) he hpl
  exact run_fn F hr hb hd hx I1 r q
end
section
variable {X : Cx} {CX : CXT} {k : Nat} {f C : Addr} {fd : FuncData} {ps ks : List Str} {sp : Sp} {E : XK} {x m : Str} {p pos apos kpos : Pos} {e o : Expr} {es : List Expr} {kws : List Keyword} {te ta : TE} {t tk : TA} {nm : Option Str}
variable {g : List Value → List Value → List Value} {gV : List V → List V → List V}
end
structure FnScope (N P : List Str) (sc : Scope) : Prop where
  kind : sc.kind = .function
  co : sc.isCoroutine = false
  gen : sc.isGenerator = false
  nd : N.Nodup
  pre : N.take P.length = P
  par : ∀ x ∈ P, sc.names.lookup x = some .local ∨ sc.names.lookup x = some .cell
  nofree : ∀ y ∈ sc.names, y.2 ≠ .free
theorem bindL_out {kindOf : Str → Option NameKind} {x : Str} : ∀ {binds : List (Str × Value)} {m : Str → Option Value}, (∀ v, (x, v) ∉ binds) → bindL kindOf binds m x = m x
  | [], _, _ => rfl
  | (n, v) :: r, m, h => by
    unfold bindL
    rw [bindL_out fun w hw => h w (List.mem_cons_of_mem _ hw)]
    split
    · have : x ≠ n := by rintro rfl; exact h v List.mem_cons_self
      simp [this]
    · rfl
theorem bindC_out {kindOf : Str → Option NameKind} {x : Str} : ∀ {binds : List (Str × Value)} {m : Str → Option Value}, (∀ v, (x, v) ∉ binds) → bindC kindOf binds m x = m x
  | [], _, _ => rfl
  | (n, v) :: r, m, h => by
    unfold bindC
    rw [bindC_out fun w hw => h w (List.mem_cons_of_mem _ hw)]
    split
    · rfl
    · have : x ≠ n := by rintro rfl; exact h v List.mem_cons_self
      simp [this]
theorem bindL_get {kindOf : Str → Option NameKind} {x : Str} {v : Value} : ∀ {P : List Str} {vs : List Value} {i : Nat} {m : Str → Option Value}, P.Nodup → P[i]? = some x → vs[i]? = some v → kindOf x = some .local →
    bindL kindOf (P.zip vs) m x = some v
  | [], _, _, _, _, h, _, _ => by simp at h
  | _ :: _, [], _, _, _, _, h, _ => by simp at h
  | p :: P, w :: vs, 0, m, nd, h1, h2, hk => by
    simp at h1 h2; subst h1; subst h2
    show bindL kindOf ((p, w) :: P.zip vs) m p = _
    unfold bindL
    rw [bindL_out fun v hv => (List.nodup_cons.mp nd).1 (List.of_mem_zip hv).1, if_pos hk]
    simp
  | p :: P, w :: vs, i + 1, m, nd, h1, h2, hk => by
    show bindL kindOf ((p, w) :: P.zip vs) m x = _
    unfold bindL
    exact bindL_get (i := i) (List.nodup_cons.mp nd).2 (by simpa using h1) (by simpa using h2) hk
theorem bindC_get {kindOf : Str → Option NameKind} {x : Str} {v : Value} : ∀ {P : List Str} {vs : List Value} {i : Nat} {m : Str → Option Value}, P.Nodup → P[i]? = some x → vs[i]? = some v → kindOf x ≠ some .local →
    bindC kindOf (P.zip vs) m x = some v
  | [], _, _, _, _, h, _, _ => by simp at h
  | _ :: _, [], _, _, _, _, h, _ => by simp at h
  | p :: P, w :: vs, 0, m, nd, h1, h2, hk => by
    simp at h1 h2; subst h1; subst h2
    show bindC kindOf ((p, w) :: P.zip vs) m p = _
    unfold bindC
    rw [bindC_out fun v hv => (List.nodup_cons.mp nd).1 (List.of_mem_zip hv).1, if_neg hk]
    simp
  | p :: P, w :: vs, i + 1, m, nd, h1, h2, hk => by
    show bindC kindOf ((p, w) :: P.zip vs) m x = _
    unfold bindC
    exact bindC_get (i := i) (List.nodup_cons.mp nd).2 (by simpa using h1) (by simpa using h2) hk
noncomputable def start (N : List Str) (vs : List V) : St := vs.map some ++ List.replicate (N.length - vs.length) none
noncomputable def cxOf (CX : CXT) (P : Program) (w : World) (K : PySem.W.Frag) (mg : Str → Option Value) (base : Heap) (N : List Str) (qual : Str) (scope : Scope) (f : Addr) (cd : Value) (A : Around) (outer : List Env) (s : Shared) (H : Hp) (E : XK) : Cx where
  prog := P
  w := w
  K := K
  mg := mg
  base := base
  A := A.deeper (envOfC qual scope s.heap.objs.size f cd)
  N := N
  s₀ := s
  H₀ := H
  env := envOfC qual scope s.heap.objs.size f cd
  outer := outer
  stack := envOfC qual scope s.heap.objs.size f cd :: outer
  ex := []
  calm := true
  fn := fun _ => true
  pn := []
  xe := fun e s' => wpAny (model P w) (A.deeper (envOfC qual scope s.heap.objs.size f cd)) (leaving (envOfC qual scope s.heap.objs.size f cd) e) (fun _ s'' => CX outer H s E e s'') (fun e' s'' => CX outer H s E e' s'') s'
theorem cell_has {sc : Scope} {n : Nat} {x : Str} (h : sc.names.lookup x = some .cell) : ∃ c, (cellsFrom n sc.names []).lookup x = some c := by
  have q := PySem.W.cellsFrom_some sc.names n [] (.inl h)
  exact Option.isSome_iff_exists.mp q
theorem inv_start {CX : CXT} {P : Program} {w : World} {K : PySem.W.Frag} {mg : Str → Option Value} {base : Heap} {N ps : List Str} {qual : Str} {scope : Scope} {f : Addr} {cd : Value} {A : Around} {outer : List Env} {s s1 : Shared} {H : Hp} {E : XK} {us : List Value} {vs : List V}
    (S : FnScope N ps scope) (hd : A.handled = none) (e0 : Env0 P w K mg base A outer s H) (hl : vs.length = ps.length) (r : Vals vs us)
    (x : InCallC s s.heap.objs.size (bindL (envOfC qual scope s.heap.objs.size f cd).kindOf (ps.zip us) fun _ => none) (cellsFrom (s.heap.objs.size + 1) scope.names []) (bindC (envOfC qual scope s.heap.objs.size f cd).kindOf (ps.zip us) fun _ => none) s1) :
    Inv (cxOf CX P w K mg base N qual scope f cd A outer s H E) [] (start N vs) H s1 := by
  have hpl : ps.length ≤ N.length := by have := congrArg List.length S.pre; rw [List.length_take] at this; lia
  obtain ⟨h1, tk, rfl, hk⟩ := x.done
  have noA : ∀ b : Addr, b ∉ (cxOf CX P w K mg base N qual scope f cd A outer s H E).ex := fun b z => absurd (show b ∈ ([] : List Addr) from z) (by simp)
  refine ⟨⟨e0.mod, S.kind, rfl, rfl, Nat.le_refl _, fun y z c h1 h2 => ?_, fun y hy => ?_, fun y c _ h => ?_, fun _ => hd, Around.frames_deeper e0.frames, .inr ⟨rfl, rfl⟩, fun b z => absurd z (noA b), e0.bs, e0.bsz, fun b _ _ => noA b, fun b z => absurd z (noA b), e0.funs, e0.frf⟩,
    rfl, e0.bare, Un.kept hk, ⟨_, x.toInCall.ns, fun i y v h1 h2 h3 => ?_⟩, fun y c h => ⟨_, x.cell y c h⟩, e0.hok.fresh (Nat.le_refl _), fun y c h => ?_, fun p hp => absurd (show p ∈ ([] : List (Addr × Obj)) from hp) (by simp), e0.hok.kept hk, ?_⟩
  · exact name_of_addr x.apart (PySem.mem_of_lookup h1) (PySem.mem_of_lookup h2)
  · have hy : scope.names.lookup y = some .cell ∨ scope.names.lookup y = some .free := hy
    rcases hy with hy | hy
    · exact cell_has hy
    · exact absurd rfl (S.nofree _ (PySem.mem_of_lookup hy))
  · exact Nat.le_of_lt (x.above y c (PySem.mem_of_lookup h))
  · have hi : i < vs.length := by
      unfold start at h2
      by_cases hi : i < vs.length
      · exact hi
      · rw [List.getElem?_append_right (by simpa using hi)] at h2
        rw [List.getElem?_replicate] at h2
        split at h2 <;> cases h2
    have ha : vs[i]? = some v := by
      unfold start at h2
      rw [List.getElem?_append_left (by simpa using hi), List.getElem?_map] at h2
      cases e : vs[i]? with
      | none => rw [e] at h2; cases h2
      | some a => rw [e] at h2; cases h2; rfl
    obtain ⟨u, hu, rv⟩ := r.get ha
    have hp : ps[i]? = some y := by
      rw [← S.pre, List.getElem?_take_of_lt (by lia)]; exact h1
    have ndP : ps.Nodup := by rw [← S.pre]; exact S.nd.sublist (List.take_sublist _ _)
    refine ⟨u, rv, ?_⟩
    rcases S.par y (List.mem_of_getElem? hp) with k | k
    · exact .inl ⟨k, bindL_get ndP hp hu k⟩
    · obtain ⟨c, e⟩ := cell_has (n := s.heap.objs.size + 1) k
      refine .inr ⟨.inl k, c, e, ?_⟩
      have q := x.cell y c e
      rw [bindC_get ndP hp hu (by show scope.names.lookup y ≠ _; rw [k]; decide)] at q
      exact q
  · exact e0.hok.fresh (Nat.le_of_lt (x.above y c (PySem.mem_of_lookup h)))
  · unfold start
    show _ = N.length
    rw [List.length_append, List.length_map, List.length_replicate]
    lia
theorem fn_of {CX : CXT} {P : Program} {w : World} {K : PySem.W.Frag} {mg : Str → Option Value} {base : Heap} {k : Nat} {f : Addr} {name qual : Str} {params : Arguments} {body : List Stmt} {scope : Scope} {dV kV doc pm cdv ct oc : Value} {an od : Option Addr}
    {osl : Array (Option Value)} {N ps : List Str} {sp : Sp} (lk : K.lookup f = some ⟨oc, od, .func (PySem.W.fnOf name qual params body scope dV kV doc pm an cdv ct), osl⟩) (hcd : PySem.W.codeIn K cdv qual = true) (S : FnScope N ps scope)
    (len : ∀ vs H Q E, sp vs H Q E → vs.length = ps.length)
    (hbody : ∀ (A : Around) (outer : List Env) (s : Shared) (H : Hp) (vs : List V) (Q : VK) (E : XK), Room k (A.deeper (envOfC qual scope s.heap.objs.size f cdv)) → sp vs H Q E →
      ∃ t, PSs (cxOf CX P w K mg base N qual scope f cdv A outer s H E) body t ∧ t { nx := fun _ H' => Q .non H', rt := Q } (start N vs) H) :
    FnOk P w K mg base CX (k + 1) f (PySem.W.fnOf name qual params body scope dV kV doc pm an cdv ct) ps sp := by
  refine ⟨len, fun A outer s H args us vs Q E hr e0 hb r hsp => ?_⟩
  have hl := len _ _ _ _ hsp
  have KX : K.In s.heap := e0.mod.kin.keeps fun b o e => (e0.bs b o e).1
  have lim : s.heap.NoLimit := e0.mod.nolimit.keeps fun b o e => (e0.bs b o e).1
  have hkind : ∀ y ∈ ps.zip us, scope.names.lookup y.1 = some .local ∨ (scope.names.lookup y.1 = some .cell ∧ ((cellsFrom (s.heap.objs.size + 1) scope.names []).lookup y.1).isSome = true) := fun ⟨n, v⟩ hy => by
    rcases S.par n (List.of_mem_zip hy).1 with q | q
    · exact .inl q
    · exact .inr ⟨q, PySem.W.cellsFrom_some _ _ _ (.inl q)⟩
  refine codeAny_call_function hr.depth (KX _ _ lk) rfl S.co S.gen rfl (PySem.W.codeRec_of KX hcd) (hb _ _ _ _ ?_)
  refine wpAny_newFunctionEnv_cells S.kind hkind fun env he s1 x => ?_
  subst he
  refine ⟨lim.keeps x.toInCall.keep, codeAny_func ?_⟩
  obtain ⟨t, ht, hq⟩ := hbody A outer s H vs Q E (hr.deeper _) hsp
  have I : Inv (cxOf CX P w K mg base N qual scope f cdv A outer s H E) [] (start N vs) H s1 := inv_start S hr.hd e0 hl r x
  refine wpAny_mono (ht [] s1 (start N vs) H _ I hq) (fun fl s' hs => ?_) fun e s' hs => hs
  have fin : ∀ {σ' : St} {H' : Hp} {v : V} {u : Value}, Inv (cxOf CX P w K mg base N qual scope f cdv A outer s H E) [] σ' H' s' → RelV v u → Q v H' → CE outer P w H s Q u s' :=
    fun {σ' H' v u} J rv q => ⟨v, H', J.os, J.bare, J.base, J.hok, rv, q⟩
  cases fl with
  | ret u =>
    obtain ⟨v, σ', H', J, rv, q⟩ := hs
    exact fin J rv q
  | next =>
    obtain ⟨σ', H', J, q⟩ := hs
    exact fin (v := V.non) (u := Value.none) J rfl q
  | brk =>
    obtain ⟨_, _, _, q⟩ := hs
    exact False.elim q
  | cont =>
    obtain ⟨_, _, _, q⟩ := hs
    exact False.elim q
end L2
namespace L2
open PySem PySem.Spec PyProof.Rows
section
variable {X : Cx} {x : Str} {p pos : Pos} {e : Expr} {es : List Expr} {t : TA} {id T : String} {r : List V → Hp → VK → Prop}
noncomputable def tCB (r : List V → Hp → VK → Prop) (t : TA) : TE := fun σ H Q => t σ H fun vs H1 => r vs H1 Q
theorem pe_callB (hc : CallR X (.builtin id) r) (hg : Gl X x) (hm : X.mg x = none) (hv : bootBuiltins x = some (.builtin id)) (ha : PA X (e :: es) t) (hn : x ≠ "__name__" := by decide) (hdb : (x == ("__debug__" : Str)) = false := by decide)
    (he : starEach (e :: es) X.env = (false, eval e X.env) :: starEach es X.env := by rfl) (hpl : (backTo pos (starEach es X.env)).any (·.1) = false := by rfl) : PE X (.Call (.Name x p) (e :: es) [] pos) (tCB r t) := by
  intro pins s σ H Q I h
  refine wpAny_Call_Name_kw (ld_blt I hg hm hv ?_ hn hdb)
  exact PyProof.Rows.callWith_builtin1 (thn (ha pos pins s σ H _ I h) fun us s1 ⟨vs, H1, I1, r1, q1⟩ => hc pins s1 σ H1 vs us Q I1 r1 q1) he hpl
theorem pe_callTy (hc : CallR X (.type T) r) (hg : Gl X x) (hm : X.mg x = none) (hv : bootBuiltins x = some (.type T)) (ha : PA X (e :: es) t) (hn : x ≠ "__name__" := by decide) (hdb : (x == ("__debug__" : Str)) = false := by decide)
    (he : starEach (e :: es) X.env = (false, eval e X.env) :: starEach es X.env := by rfl) (hpl : (backTo pos (starEach es X.env)).any (·.1) = false := by rfl) : PE X (.Call (.Name x p) (e :: es) [] pos) (tCB r t) := by
  intro pins s σ H Q I h
  refine wpAny_Call_Name_kw (ld_blt I hg hm hv ?_ hn hdb)
  exact PyProof.Rows.callWith_type1 (thn (ha pos pins s σ H _ I h) fun us s1 ⟨vs, H1, I1, r1, q1⟩ => hc pins s1 σ H1 vs us Q I1 r1 q1) he hpl
end
end L2
namespace HT
open PySem PyProof.Rows
noncomputable def lexLt : List Int → List Int → Bool
  | [], [] => false
  | [], _ :: _ => true
  | _ :: _, [] => false
  | x :: xs, y :: ys => if x = y then lexLt xs ys else decide (x < y)
theorem lexLt_cons (x y : Int) (xs ys : List Int) : lexLt (x :: xs) (y :: ys) = if x = y then lexLt xs ys else decide (x < y) := rfl
theorem lexLt_nil_nil : lexLt [] [] = false := rfl
theorem lexLt_nil_cons (y : Int) (ys : List Int) : lexLt [] (y :: ys) = true := rfl
theorem lexLt_cons_nil (x : Int) (xs : List Int) : lexLt (x :: xs) [] = false := rfl
theorem eqAt_int (A : Around) (s : Shared) (a : Int) (t : Tok) (c : Int) (u : Tok) : ∃ e, SeqAt.EqAt A s (.int a t) (.int c u) e ∧ (e = true ↔ a = c) :=
  ⟨(a == c), SeqAt.EqAt.int_int a t c u, by simp⟩
theorem rcLt_int (A : Around) (s : Shared) (a : Int) (t : Tok) (c : Int) (u : Tok) (prog : Program) (w : World) (E : Value → Shared → Prop) (Q : Value → Shared → Prop) (h : Q (.bool (decide (a < c))) s) :
    wpAny (model prog w) A (richCompare .Lt (.int a t) (.int c u)) Q E s :=
  (PyProof.Rows.lt_int h : wpAny (model prog w) A (compareOp .Lt (.int a t) (.int c u)) Q E s)
section
open PySem.SeqAt
open PySem.AutoSeq1 (wpAny_loadPart')
open PySem.MeetsSeq PySem.MeetsSeq2 PySem.MeetsSeq3
theorem tuple_lt_ints (l b : Addr) (items items2 : Array Value) (n n2 : Nat) (dd dd2 : Option Addr) (sl sl2 : Array (Option Value)) (ns ms : List Int) (hi : IntsAre items.toList ns) (hj : IntsAre items2.toList ms) :
    Meets (Builtin.«tuple.__lt__» ⟨[.ref l, .ref b], []⟩)
      (fun _ R s => s.heap.get? l = some { cls := .type "tuple", dict := dd, data := .seq items n, slots := sl } ∧ s.heap.get? b = some { cls := .type "tuple", dict := dd2, data := .seq items2 n2, slots := sl2 } ∧
        R (.ok (.ret (.bool (lexLt ns ms)))) s) :=
  .of_wp fun prog w A R s h => by
    obtain ⟨hp, g, d, tk, os⟩ := s; obtain ⟨hl, hb, h⟩ := h
    have f2 := AutoSeq1.sub_tuple_tuple
    have z1 : items.size = ns.length := by rw [← hi.length]; simp
    have z2 : items2.size = ms.length := by rw [← hj.length]; simp
    wp_walk using wpAny_loadPart' hl, wpAny_loadPart' hb, wpAny_forIn_list _ (fun rest b s' => b.1 = none ∧ s' = ⟨hp, g, d, tk, os⟩ ∧ ∃ (vs ws : List Value) (ns' ms' : List Int), rest = vs.zip ws ∧
      IntsAre vs ns' ∧ IntsAre ws ms' ∧ ns'.length + items2.size = ms'.length + items.size ∧ R (.ok (.ret (.bool (lexLt ns' ms')))) ⟨hp, g, d, tk, os⟩) _
    case turn =>
      rintro ⟨y, x⟩ rest b s' ⟨hb', rfl, vs, ws, ns', ms', hz, hvi, hwi, hlen, hR⟩
      cases hvi with
      | nil => rw [List.zip_nil_left] at hz; cases hz
      | cons a t hvi' =>
        cases hwi with
        | nil => rw [List.zip_nil_right] at hz; cases hz
        | cons c u hwi' =>
          rw [List.zip_cons_cons] at hz
          injection hz with hyx hrest
          injection hyx with hy hx
          subst hy hx
          rw [lexLt_cons] at hR
          simp only [List.length_cons] at hlen
          obtain ⟨e, he, hiff⟩ := eqAt_int A.in1 ⟨hp, g, d, tk, os⟩ a t c u
          refine wpAny_bind (he prog w _ _ ?_)
          cases e with
          | true =>
            rw [if_pos (hiff.mp rfl)] at hR
            wp_walk
            exact ⟨rfl, rfl, _, _, _, _, hrest, hvi', hwi', by lia, hR⟩
          | false =>
            rw [if_neg (fun q => absurd (hiff.mpr q) Bool.false_ne_true)] at hR
            have hri := rcLt_int A.in1 ⟨hp, g, d, tk, os⟩ a t c u prog w
            wp_walk using hri
            exact ⟨_, rfl, by simpa using hR⟩
    case fin =>
      rintro ⟨b1, b2⟩ s' ⟨hb', rfl, vs, ws, ns', ms', hz, hvi, hwi, hlen, hR⟩
      simp only at hb'
      subst hb'
      have hv : lexLt ns' ms' = decide (items.size < items2.size) := by
        cases hvi with
        | nil =>
          cases hwi with
          | nil =>
            simp only [List.length_nil] at hlen
            rw [lexLt_nil_nil]
            exact (decide_eq_false (by lia)).symm
          | cons c u hw =>
            simp only [List.length_nil, List.length_cons] at hlen
            rw [lexLt_nil_cons]
            exact (decide_eq_true (by lia)).symm
        | cons a t hv =>
          cases hwi with
          | nil =>
            simp only [List.length_nil, List.length_cons] at hlen
            rw [lexLt_cons_nil]
            exact (decide_eq_false (by lia)).symm
          | cons c u hw =>
            rw [List.zip_cons_cons] at hz
            cases hz
      rw [hv] at hR
      wp_walk
      exact ⟨_, rfl, by simpa [Builtin.Tuple.tupleCompareSizes] using hR⟩
    case h =>
      exact ⟨rfl, rfl, items.toList, items2.toList, ns, ms, rfl, hi, hj, by lia, h⟩
end
section
variable {prog : Program} {w : World} {A : Around} {E : Value → Shared → Prop} {s : Shared}
theorem lt_tupInts {l b : Addr} {items items2 : Array Value} {ns ms : List Int} {Q : Value → Shared → Prop} (hl : IsTup s.heap l items) (hb : IsTup s.heap b items2) (hi : IntsAre items.toList ns) (hj : IntsAre items2.toList ms)
    (hu : A.units < cLine) (h : Q (.bool (lexLt ns ms)) s) : wpAny (model prog w) A (compareOp .Lt (.ref l) (.ref b)) Q E s := by
  obtain ⟨⟨cls, dd, data, sl⟩, ho, hc, n, hd⟩ := id hl
  obtain ⟨⟨cls2, dd2, data2, sl2⟩, ho2, hc2, n2, hd2⟩ := id hb
  simp only at hc hd hc2 hd2
  subst hc hd hc2 hd2
  exact richCompare_meets_room (op := .Lt) ⟨_, ho, rfl⟩ ⟨_, ho2, rfl⟩ PySem.F.slot_tuple_lt PySem.F.entry_tuple_lt (PySem.F.args_tuple_lt_2 _ _) (tuple_lt_ints l b items items2 n n2 dd dd2 sl sl2 ns ms hi hj)
    ⟨ho, ho2, show Value.bool (lexLt ns ms) ≠ Value.notImplemented ∧ Q (.bool (lexLt ns ms)) s from ⟨(fun x => nomatch x), h⟩⟩ hu
noncomputable def sIx (n d : Nat) : Option Int → Nat
  | none => d
  | some v => if v < 0 then (v + (n : Int)).toNat else min v.toNat n
theorem sIx_le (n d : Nat) (hd : d ≤ n) (o : Option Int) : sIx n d o ≤ n := by
  cases o with
  | none => exact hd
  | some v =>
    show (if v < 0 then (v + (n : Int)).toNat else min v.toNat n) ≤ n
    by_cases hv : v < 0
    · rw [if_pos hv]; lia
    · rw [if_neg hv]; exact Nat.min_le_right _ _
theorem clip_eq (v : Int) (n d : Nat) : (if v < 0 then max (v + (n : Int)) 0 else min v (n : Int)) = ((sIx n d (some v) : Nat) : Int) := by
  show (if v < 0 then max (v + (n : Int)) 0 else min v (n : Int)) = (((if v < 0 then (v + (n : Int)).toNat else min v.toNat n) : Nat) : Int)
  by_cases hv : v < 0
  · simp only [if_pos hv]; lia
  · simp only [if_neg hv]; lia
theorem adjust_gen (lo hi : Option Int) (n : Nat) : Builtin.Slice.sliceAdjust lo hi 1 (n : Int) = (((sIx n 0 lo : Nat) : Int), ((sIx n n hi : Nat) : Int)) := by
  have h1 : ¬ ((1 : Int) < 0) := by lia
  unfold Builtin.Slice.sliceAdjust
  simp only [h1, if_false]
  refine Prod.ext ?_ ?_
  · cases lo with
    | none => rfl
    | some v => exact clip_eq v n 0
  · cases hi with
    | none => rfl
    | some v => exact clip_eq v n n
theorem places_gen (i j : Nat) : Builtin.Slice.slicePlaces (i : Int) (j : Int) 1 = j - i := by
  unfold Builtin.Slice.slicePlaces
  have h1 : (1 : Int) > 0 := by lia
  simp only [h1, if_true, Int.ediv_one]
  split <;> lia
theorem slicePart_ {v : Value} {o : Option Int} {Q : Option Int → Shared → Prop} (p : IsPart v o) (h : Q o s) : wpAny (model prog w) A (Builtin.Slice.slicePartIndex v) Q E s := by
  cases p with
  | none => exact slicePart_none h
  | int i t => exact slicePart_int h
theorem sliceApplied_gen {sl : Addr} {vl vu : Value} {lo hi : Option Int} {n : Nat} {Q : Int × Int × Nat → Shared → Prop} (hs : s.heap.IsSliceOf sl vl vu .none) (pl : IsPart vl lo) (pu : IsPart vu hi)
    (h : Q (((sIx n 0 lo : Nat) : Int), 1, sIx n n hi - sIx n 0 lo) s) : wpAny (model prog w) A (Builtin.Slice.sliceApplied (.ref sl) (pure (n : Int))) Q E s := by
  obtain ⟨os, hos, hcs, hds⟩ := id hs
  unfold Builtin.Slice.sliceApplied Builtin.Slice.sliceFields
  refine wpAny_bind (wpAny_bind (wpAny_field hos hds (x := vl) rfl (wpAny_bind (wpAny_field hos hds (x := vu) rfl (wpAny_bind (wpAny_field hos hds (x := .none) rfl (wpAny_pure ?_)))))))
  refine wpAny_bind (slicePart_none ?_)
  show wpAny _ _ (if ((1 : Int) == 0) = true then _ else _) _ _ s
  rw [if_neg (by decide)]
  refine wpAny_bind (slicePart_ pl (wpAny_bind (slicePart_ pu (wpAny_bind (wpAny_pure ?_)))))
  show wpAny _ _ (match Builtin.Slice.sliceAdjust lo hi 1 (n : Int) with | (lo, hi) => pure (lo, (1 : Int), Builtin.Slice.slicePlaces lo hi 1)) _ _ s
  rw [adjust_gen lo hi n]
  show wpAny _ _ (pure (((sIx n 0 lo : Nat) : Int), (1 : Int), Builtin.Slice.slicePlaces ((sIx n 0 lo : Nat) : Int) ((sIx n n hi : Nat) : Int) 1)) _ _ s
  rw [places_gen]
  exact wpAny_pure h
theorem pick_gen (xs : Array Value) (i k : Nat) : ((List.range k).filterMap fun (m : Nat) => xs[((i : Int) + (m : Int) * 1).toNat]?).toArray = ((xs.toList.drop i).take k).toArray := by
  have e : (fun (m : Nat) => xs[((i : Int) + (m : Int) * 1).toNat]?) = fun m => xs[i + m]? := by
    funext m
    have : ((i : Int) + (m : Int) * 1).toNat = i + m := by lia
    rw [this]
  rw [e]
  have := pick_run xs i k
  rw [List.filterMap_map] at this
  have e2 : ((fun x => xs[x]?) ∘ fun x => i + x) = fun m => xs[i + m]? := rfl
  rw [e2] at this
  rw [this]
theorem getItem_tuple_cut {t sl : Addr} {items : Array Value} {vl vu : Value} {lo hi : Option Int} {Q : Value → Shared → Prop} (ht : IsTup s.heap t items) (hs : s.heap.IsSliceOf sl vl vu .none) (pl : IsPart vl lo) (pu : IsPart vu hi)
    (hw : ¬ (sIx items.size 0 lo = 0 ∧ sIx items.size items.size hi = items.size))
    (h : Q (.ref s.heap.objs.size) { s with heap := s.heap.push { cls := .type "tuple", data := .seq ((items.toList.drop (sIx items.size 0 lo)).take (sIx items.size items.size hi - sIx items.size 0 lo)).toArray } })
    (hsz : items.size ≤ sizeLine) : wpAny (model prog w) A (getItem (.ref t) (.ref sl)) Q E s := by
  have htake : sizeOk (.seq ((items.toList.drop (sIx items.size 0 lo)).take (sIx items.size items.size hi - sIx items.size 0 lo)).toArray) := by
    show ((items.toList.drop (sIx items.size 0 lo)).take (sIx items.size items.size hi - sIx items.size 0 lo)).toArray.size ≤ sizeLine
    rw [List.size_toArray, List.length_take, List.length_drop, Array.length_toList]
    lia
  have hj : sIx items.size items.size hi ≤ items.size := sIx_le _ _ (Nat.le_refl _) hi
  obtain ⟨os, hos, hcs, hds⟩ := id hs
  have hTs : s.TypeIs (.ref sl) "slice" := ⟨os, hos, hcs⟩
  unfold getItem
  try with_reducible refine wpAny_holding ?_
  first | refine wpAny_bind (wpAny_pure ?_) | skip
  refine wpAny_bind (wpAny_sequenceKey ht.typeIs (by decide) ?_)
  refine wpAny_bind (wpAny_callSpecial?_slot (name := Str.ofString "__getitem__") ht.typeIs PyProof.Rows.slot_tuple_getitem
    (wpAny_call_entry PyProof.Rows.slot_tuple_getitem ht.typeIs entry_tuple_getitem ?_ (args_tuple_getitem _ _)))
  show wpAny _ _ (Builtin.Tuple.tupleItemsOf (.ref t) >>= _) _ _ s
  refine wpAny_bind (tupleItemsOf_ ht ?_)
  refine wpAny_bind (wpAny_typeOf hTs ?_)
  rw [if_pos (by decide)]
  refine wpAny_bind (sliceApplied_gen hs pl pu ?_)
  have hno : ¬ ((((sIx items.size 0 lo : Nat) : Int) == 0 && (1 : Int) == 1 && (sIx items.size items.size hi - sIx items.size 0 lo) == items.size) = true) := by
    intro q
    rw [Bool.and_eq_true, Bool.and_eq_true] at q
    have q1 : ((sIx items.size 0 lo : Nat) : Int) = 0 := eq_of_beq q.1.1
    have q2 : sIx items.size items.size hi - sIx items.size 0 lo = items.size := eq_of_beq q.2
    exact hw ⟨by lia, by lia⟩
  show wpAny _ _ (if (((sIx items.size 0 lo : Nat) : Int) == 0 && (1 : Int) == 1 && (sIx items.size items.size hi - sIx items.size 0 lo) == items.size) = true then _ else _) _ _ s
  rw [if_neg hno, pick_gen]
  first
    | exact wpAny_bind (m := Builtin.Tuple.tupleExact _) (wpAny_newObj_type (wpAny_pure ⟨_, rfl, wpAny_pure h⟩) htake)
    | exact wpAny_bind (m := Builtin.Tuple.tupleExact _) (wpAny_newObj_type (wpAny_bind (wpAny_pure (wpAny_pure ⟨_, rfl, wpAny_pure h⟩))) htake)
    | exact wpAny_bind (wpAny_bind (m := Builtin.Tuple.tupleExact _) (wpAny_newObj_type (wpAny_pure (wpAny_pure ⟨_, rfl, wpAny_pure h⟩)) htake))
    | exact wpAny_bind (wpAny_bind (m := Builtin.Tuple.tupleExact _) (wpAny_newObj_type (wpAny_pure ⟨_, rfl, wpAny_pure h⟩) htake))
end
end HT
namespace L2
open PySem PySem.Spec PyProof.Rows
noncomputable abbrev TO := St → Hp → (Option Int → Hp → Prop) → Prop
noncomputable def PO (X : Cx) (e : Option Expr) (t : TO) : Prop :=
  ∀ (pins : List (Addr × Obj)) (s : Shared) (σ : St) (H : Hp) (Q : Option Int → Hp → Prop), Inv X pins σ H s → t σ H Q →
    wpAny (model X.prog X.w) X.A (evalPart e X.env) (fun u s' => ∃ o H', Inv X pins σ H' s' ∧ IsPart u o ∧ Q o H') X.xe s
noncomputable def tNoPart : TO := fun _ H Q => Q none H
theorem intsAre_of {ns : List Int} : ∀ {us : List Value}, Vals (ns.map V.int) us → IntsAre us ns := by
  induction ns with
  | nil => intro us r; rw [List.map_nil] at r; cases r; exact .nil
  | cons n ns ih =>
    intro us r
    rw [List.map_cons] at r
    cases r with
    | cons r1 r2 =>
      obtain ⟨t, e⟩ := r1
      subst e
      exact .cons n t (ih r2)
section
variable {X : Cx} {e : Expr} {te : TE} {lo hi : Option Expr} {tl th : TO} {pos p2 : Pos}
theorem po_none : PO X none tNoPart := by
  intro pins s σ H Q I h
  rw [evalPart_none]
  exact wpAny_pure ⟨none, H, I, .none, h⟩
noncomputable def SlR (X : Cx) (r : V → Option Int → Option Int → Hp → VK → Prop) : Prop :=
  ∀ (pins : List (Addr × Obj)) (s : Shared) (σ : St) (H : Hp) (x : V) (v vl vu : Value) (lo hi : Option Int) (sl : Addr) (Q : VK), Inv X pins σ H s → RelV x v → s.heap.IsSliceOf sl vl vu .none → IsPart vl lo → IsPart vu hi → r x lo hi H Q →
    ∃ T id, typeLookup (.type T) "__getitem__" = pure (some (.builtin id)) ∧ s.TypeIs v T ∧ wpAny (model X.prog X.w) X.A (getItem v (.ref sl)) (EP X pins σ Q) X.xe s
noncomputable def tSl (r : V → Option Int → Option Int → Hp → VK → Prop) (te : TE) (tl th : TO) : TE := fun σ H Q => te σ H fun x H1 => tl σ H1 fun l H2 => th σ H2 fun u H3 => r x l u H3 Q
theorem pe_slice {r : V → Option Int → Option Int → Hp → VK → Prop} (hr : SlR X r) (he : PE X e te) (hl : PO X lo tl) (hu : PO X hi th) : PE X (.Subscript e (.Slice lo hi none p2) pos) (tSl r te tl th) := by
  intro pins s σ H Q I h
  refine Subscript_ (thn (he pins s σ H _ I h) fun v s1 ⟨x, H1, I1, r1, q1⟩ => ?_)
  refine wpAny_Slice (thn (hl pins s1 σ H1 _ I1 q1) fun vl s2 ⟨l, H2, I2, pl, q2⟩ => thn (hu pins s2 σ H2 _ I2 q2) fun vu s3 ⟨u, H3, I3, pu, q3⟩ => ?_)
  rw [evalPart_none]
  refine wpAny_pure ?_
  have I4 : Inv X pins σ H3 { s3 with heap := s3.heap.push { cls := .type "slice", data := .fields #[vl, vu, .none] } } := I3.kept (t' := s3.toks) fun b ob q => Heap.get?_push_of_some _ q
  obtain ⟨T, id, hT, ht, hg⟩ := hr pins { s3 with heap := s3.heap.push { cls := .type "slice", data := .fields #[vl, vu, .none] } } σ H3 x v vl vu l u s3.heap.objs.size Q I4 r1 (Heap.IsSliceOf.new ..) pl pu q3
  show wpAny (model X.prog X.w) X.A (subscriptTail e (.Slice lo hi none p2) v (.ref s3.heap.objs.size)) (EP X pins σ Q) X.xe { s3 with heap := s3.heap.push { cls := .type "slice", data := .fields #[vl, vu, .none] } }
  exact tail_any (ops := [.ref s3.heap.objs.size, v]) ht hT hg (by with_unfolding_all rfl)
noncomputable def cutV (xs : List V) (lo hi : Option Int) : List V := (xs.drop (HT.sIx xs.length 0 lo)).take (HT.sIx xs.length xs.length hi - HT.sIx xs.length 0 lo)
theorem cutV_length (xs : List V) (lo hi : Option Int) : (cutV xs lo hi).length ≤ xs.length := by
  unfold cutV
  rw [List.length_take, List.length_drop]
  lia
noncomputable def rSlT (K : PySem.W.Frag) : V → Option Int → Option Int → Hp → VK → Prop := fun x lo hi H Q => ∃ a xs, x = .ref a ∧ SqT K H a xs ∧
  ¬ (HT.sIx xs.length 0 lo = 0 ∧ HT.sIx xs.length xs.length hi = xs.length) ∧ ∀ p, H p = none → Q (.ref p) (upd H p (.tup (cutV xs lo hi)))
theorem sl_tup : SlR X (rSlT X.K) := by
  intro pins s σ H x v vl vu lo hi sl Q I rx hs pl pu h
  obtain ⟨a, xs, rfl, hx, hw, q⟩ := h
  cases rx
  obtain ⟨its, r, ht, hz⟩ := I.tuple hx
  have hlen : its.toArray.size = xs.length := by rw [List.size_toArray]; exact r.length.symm
  refine ⟨"tuple", _, PyProof.Rows.slot_tuple_getitem.lookup, ht.typeIs, ?_⟩
  refine HT.getItem_tuple_cut ht hs pl pu (by rw [hlen]; exact hw) ?_ (by rw [hlen]; exact hz)
  rw [hlen]
  refine ⟨.ref s.heap.objs.size, _, I.laid (t' := s.toks) (o := .tup (cutV xs lo hi)) (fun b ob q => Heap.get?_push_of_some _ q) (Nat.le_refl _) ?_, rfl, q _ (I.hok.fresh (Nat.le_refl _))⟩
  exact ⟨Nat.le_trans (cutV_length xs lo hi) hz, _, (r.drop (HT.sIx xs.length 0 lo)).take (HT.sIx xs.length xs.length hi - HT.sIx xs.length 0 lo), IsTup.new _ _⟩
noncomputable def rLtT (K : PySem.W.Frag) : R2 := fun x y H Q => ∃ a b ns ms, x = .ref a ∧ y = .ref b ∧ SqT K H a (ns.map V.int) ∧ SqT K H b (ms.map V.int) ∧ Q (.bl (HT.lexLt ns ms)) H
theorem op_ltT (hu : X.A.units < cLine) : OpR X (compareOp .Lt) (rLtT X.K) := by
  intro pins s σ H x y v u Q I rx ry h
  obtain ⟨a, b, ns, ms, rfl, rfl, ha, hb, q⟩ := h
  cases rx
  cases ry
  obtain ⟨its, r1, p1, _⟩ := I.tuple ha
  obtain ⟨its2, r2, p2, _⟩ := I.tuple hb
  have i1 : IntsAre its.toArray.toList ns := intsAre_of r1
  have i2 : IntsAre its2.toArray.toList ms := intsAre_of r2
  exact HT.lt_tupInts p1 p2 i1 i2 hu ⟨.bl (HT.lexLt ns ms), H, I, rfl, q⟩
theorem Vals.nil_iff {xs : List V} {us : List Value} (r : Vals xs us) : us = [] ↔ xs = [] := by
  cases r with
  | nil => simp
  | cons _ _ => simp
end
end L2
namespace L2
open PySem PySem.Spec PyProof.Rows
noncomputable def ixN (n : Nat) (i : Int) : Option Nat := if 0 ≤ i then (if i < n then some i.toNat else none) else if -(n : Int) ≤ i then some (i + n).toNat else none
noncomputable def atI {α : Type} (xs : List α) (i : Int) : Option α := (ixN xs.length i).bind fun j => xs[j]?
theorem ixN_seq {n : Nat} {i : Int} {j : Nat} (h : ixN n i = some j) : seqIndex? i n = some j ∧ j < n ∧ -(n : Int) ≤ i ∧ i < n := by
  unfold ixN at h
  by_cases h0 : 0 ≤ i
  · rw [if_pos h0] at h
    by_cases h1 : i < n
    · rw [if_pos h1] at h
      have e : i.toNat = j := Option.some.inj h
      exact ⟨by rw [seqIndex_of h0 h1, e], by lia, by lia, h1⟩
    · rw [if_neg h1] at h; cases h
  · rw [if_neg h0] at h
    by_cases h1 : -(n : Int) ≤ i
    · rw [if_pos h1] at h
      have e : (i + n).toNat = j := Option.some.inj h
      exact ⟨by rw [seqIndex_neg (by lia) h1, e], by lia, h1, by lia⟩
    · rw [if_neg h1] at h; cases h
theorem atI_get {α : Type} {xs : List α} {i : Int} {v : α} (h : atI xs i = some v) : ∃ j, seqIndex? i xs.length = some j ∧ xs[j]? = some v ∧ j < xs.length ∧ -(xs.length : Int) ≤ i ∧ i < xs.length := by
  unfold atI at h
  cases e : ixN xs.length i with
  | none => rw [e] at h; cases h
  | some j =>
    rw [e] at h
    obtain ⟨h1, h2, h3, h4⟩ := ixN_seq e
    exact ⟨j, h1, h, h2, h3, h4⟩
noncomputable def PlainIx (b : Expr) : Prop := ∀ o i, subscripted b false o i = operate [o, i] (getItem o i)
noncomputable def IxR (X : Cx) (r : R2) : Prop :=
  ∀ (value slice : Expr) (pins : List (Addr × Obj)) (s : Shared) (σ : St) (H : Hp) (x y : V) (v u : Value) (Q : VK), Inv X pins σ H s → RelV x v → RelV y u → r x y H Q →
    subscripted slice false v u = operate [v, u] (getItem v u) → wpAny (model X.prog X.w) X.A (subscriptTail value slice v u) (EP X pins σ Q) X.xe s
noncomputable def MtR (X : Cx) (id : String) (r : V → List V → Hp → VK → Prop) : Prop :=
  ∀ (pins : List (Addr × Obj)) (s : Shared) (σ : St) (H : Hp) (x : V) (xs : List V) (v : Value) (us : List Value) (Q : VK), Inv X pins σ H s → RelV x v → Vals xs us → r x xs H Q →
    wpAny (model X.prog X.w) X.A (call (.builtin id) (v :: us)) (EP X pins σ Q) X.xe s
section
variable {X : Cx} {a b : Expr} {ta tb : TE} {pos : Pos}
theorem pe_ix {r : R2} (hr : IxR X r) (ha : PE X a ta) (hb : PE X b tb) (hs : PlainIx b) : PE X (.Subscript a b pos) (tOp r ta tb) := by
  intro pins s σ H Q I h
  exact Subscript_ (binT ha hb I h fun v u s2 x y H2 I2 rx ry q => hr a b pins s2 σ H2 x y v u Q I2 rx ry q (hs _ _))
noncomputable def rIxL (K : PySem.W.Frag) : R2 := fun x y H Q => ∃ p xs i v, x = .ref p ∧ y = .int i ∧ SqL K H p xs ∧ atI xs i = some v ∧ Q v H
noncomputable def rIxT (K : PySem.W.Frag) : R2 := fun x y H Q => ∃ p xs i v, x = .ref p ∧ y = .int i ∧ SqT K H p xs ∧ atI xs i = some v ∧ Q v H
noncomputable def rIxS : R2 := fun x y H Q => ∃ z i c, x = .str z ∧ y = .int i ∧ z.length ≤ sizeLine ∧ atI z.cps.toList i = some c ∧ Q (.str ⟨#[c]⟩) H
theorem ix_list : IxR X (rIxL X.K) := by
  intro value slice pins s σ H x y v u Q I rx ry h hs
  obtain ⟨p, xs, i, z, rfl, rfl, hq, he, q⟩ := h
  cases rx
  obtain ⟨t, rfl⟩ := ry
  obtain ⟨its, r, pl, hz⟩ := I.list hq
  obtain ⟨j, h1, h2, h3, h4, h5⟩ := atI_get he
  obtain ⟨w, ew, rw'⟩ := r.get h2
  have hl := r.length
  have hn := line63
  have fin : EP X pins σ Q w s := ⟨z, H, I, rw', q⟩
  by_cases h0 : 0 ≤ i
  · have hj : i.toNat = j := by
      rw [seqIndex_of h0 h5] at h1
      exact Option.some.inj h1
    exact item_listR pl.isList h0 (by lia) (by rw [hj]; simpa using ew) fin hs
  · have hj : (i + (its.toArray.size : Int)).toNat = j := by
      rw [seqIndex_neg (by lia) h4] at h1
      rw [List.size_toArray, ← hl]
      exact Option.some.inj h1
    exact subscriptTail_builtinR (x := w) pl.isList.typeIs slot_list_getitem.lookup
      (wpAny_getItem_list_neg (Q := fun r s' => r = w ∧ EP X pins σ Q r s') pl.isList (by lia) (by rw [List.size_toArray] <;> lia) (by lia) (by rw [hj]; simpa using ew) ⟨rfl, fin⟩) hs
theorem ix_tup : IxR X (rIxT X.K) := by
  intro value slice pins s σ H x y v u Q I rx ry h hs
  obtain ⟨p, xs, i, z, rfl, rfl, hq, he, q⟩ := h
  cases rx
  obtain ⟨t, rfl⟩ := ry
  obtain ⟨its, r, pl, hz⟩ := I.tuple hq
  obtain ⟨j, h1, h2, h3, h4, h5⟩ := atI_get he
  obtain ⟨w, ew, rw'⟩ := r.get h2
  have hl := r.length
  have hn := line63
  have fin : EP X pins σ Q w s := ⟨z, H, I, rw', q⟩
  exact subscriptTail_builtinR (x := w) pl.typeIs slot_tuple_getitem.lookup
    (getItem_tuple (j := j) (Q := fun r s' => r = w ∧ EP X pins σ Q r s') pl (by lia) (by lia) (by rw [List.size_toArray, ← hl]; exact h1) (by simpa using ew) ⟨rfl, fin⟩) hs
theorem ix_str : IxR X rIxS := by
  intro value slice pins s σ H x y v u Q I rx ry h hs
  obtain ⟨z, i, c, rfl, rfl, hz, he, q⟩ := h
  obtain ⟨t, rfl⟩ := rx
  obtain ⟨t', rfl⟩ := ry
  obtain ⟨j, h1, h2, h3, h4, h5⟩ := atI_get he
  have hl : z.cps.toList.length = z.length := by simp [Str.length]
  rw [hl] at h1 h4 h5
  have hn := line63
  exact tail_any (typeIs_str s z t) slot_str_getitem.lookup (getItem_str (c := c) (by
    have e1 : decide (i < -(2 ^ 63 : Int)) = false := decide_eq_false (by lia)
    have e2 : decide (i ≥ 2 ^ 63) = false := decide_eq_false (by lia)
    rw [e1, e2, Bool.or_false]) (by rw [h1]; simpa using h2) ⟨.str ⟨#[c]⟩, H, I.tok _, ⟨_, rfl⟩, q⟩) hs
theorem slice_bounds (lo hi : Option Int) (n : Nat) : (sliceBounds lo hi none n).1 = ((HT.sIx n 0 lo : Nat) : Int) ∧ (sliceBounds lo hi none n).2.1 = ((HT.sIx n n hi : Nat) : Int) ∧ (sliceBounds lo hi none n).2.2 = 1 := by
  refine ⟨?_, ?_, rfl⟩
  · cases lo with
    | none => simp [sliceBounds, HT.sIx]
    | some i =>
      simp only [sliceBounds, HT.sIx, Option.getD_none, show (1 : Int) > 0 by decide, if_true]
      by_cases h : i < 0
      · simp only [h, if_true] <;> lia
      · simp only [h, if_false] <;> lia
  · cases hi with
    | none => simp [sliceBounds, HT.sIx]
    | some i =>
      simp only [sliceBounds, HT.sIx, Option.getD_none, show (1 : Int) > 0 by decide, if_true]
      by_cases h : i < 0
      · simp only [h, if_true] <;> lia
      · simp only [h, if_false] <;> lia
theorem slicePick_cut (its : List Value) (lo hi : Option Int) : slicePick its.toArray lo hi none = ((its.drop (HT.sIx its.length 0 lo)).take (HT.sIx its.length its.length hi - HT.sIx its.length 0 lo)).toArray := by
  obtain ⟨h1, h2, h3⟩ := slice_bounds lo hi its.toArray.size
  unfold slicePick
  rw [h1, h2, h3]
  simp only [sliceRange_one, pick_run, List.size_toArray] <;> rfl
noncomputable def rSlL (K : PySem.W.Frag) : V → Option Int → Option Int → Hp → VK → Prop := fun x lo hi H Q => ∃ a xs, x = .ref a ∧ SqL K H a xs ∧ ∀ p, H p = none → Q (.ref p) (upd H p (.lst (cutV xs lo hi)))
theorem sl_list : SlR X (rSlL X.K) := by
  intro pins s σ H x v vl vu lo hi sl Q I rx hs pl pu h
  obtain ⟨a, xs, rfl, hx, q⟩ := h
  cases rx
  obtain ⟨its, r, ht, hz⟩ := I.list hx
  have hlen := r.length
  refine ⟨"list", _, slot_list_getitem.lookup, ht.isList.typeIs, ?_⟩
  refine wpAny_getItem_list_slice ht.isList hs pl pu .none (by simp) ?_ (by rw [List.size_toArray] <;> lia)
  rw [slicePick_cut, ← hlen]
  refine ⟨.ref s.heap.objs.size, _, I.laid (t' := s.toks) (o := .lst (cutV xs lo hi)) (fun b ob q => Heap.get?_push_of_some _ q) (Nat.le_refl _) ?_, rfl, q _ (I.hok.fresh (Nat.le_refl _))⟩
  exact ⟨Nat.le_trans (cutV_length xs lo hi) hz, _, 0, (r.drop (HT.sIx xs.length 0 lo)).take (HT.sIx xs.length xs.length hi - HT.sIx xs.length 0 lo), Heap.get?_push_size _ rfl⟩
theorem call_len_seq : CallR X (.builtin "len") (fun xs H Q => ∃ p ys, xs = [.ref p] ∧ (SqL X.K H p ys ∨ SqT X.K H p ys) ∧ Q (.int ys.length) H) := by
  intro pins s σ H xs us Q I r h
  obtain ⟨p, ys, rfl, hq, q⟩ := h
  obtain ⟨u, rfl, rx⟩ := vals1 r
  cases rx
  have hn := line63
  rcases hq with hq | hq
  · obtain ⟨its, r', pl, hz⟩ := I.list hq
    have hlen := r'.length
    exact Calls.call_len_list pl.isList (by simp only [List.size_toArray] <;> lia) ⟨.int ys.length, H, I.tok _, ⟨s.toks + 1, by rw [List.size_toArray, hlen]⟩, q⟩
  · obtain ⟨its, r', pl, hz⟩ := I.tuple hq
    have hlen := r'.length
    exact len_tuple pl (by simp only [List.size_toArray] <;> lia) ⟨.int ys.length, H, I.tok _, ⟨s.toks + 1, by rw [List.size_toArray, hlen]⟩, q⟩
theorem call_len_str : CallR X (.builtin "len") (fun xs H Q => ∃ z, xs = [.str z] ∧ z.length ≤ sizeLine ∧ Q (.int z.length) H) := by
  intro pins s σ H xs us Q I r h
  obtain ⟨z, rfl, hz, q⟩ := h
  obtain ⟨u, rfl, t, rfl⟩ := vals1 r
  have hn := line63
  exact len_str (by lia) ⟨.int z.length, H, I.tok _, ⟨_, rfl⟩, q⟩
theorem call_list_of : CallR X (.type "list") (fun xs H Q => ∃ p ys, xs = [.ref p] ∧ (SqL X.K H p ys ∨ SqT X.K H p ys) ∧ ∀ l, H l = none → Q (.ref l) (upd H l (.lst ys))) := by
  intro pins s σ H xs us Q I r h
  obtain ⟨p, ys, rfl, hq, q⟩ := h
  obtain ⟨u, rfl, rx⟩ := vals1 r
  cases rx
  have fin : ∀ (its : List Value), Vals ys its → ys.length ≤ sizeLine → ∀ (h' : Heap) (c' : Nat), (∀ b o', s.heap.get? b = some o' → h'.get? b = some o') →
      h'.get? s.heap.objs.size = some { cls := .type "list", dict := none, data := .seq its.toArray c', slots := #[] } → EP X pins σ Q (.ref s.heap.objs.size) { s with heap := h' } := fun its r' hz h' c' kp e =>
    ⟨.ref s.heap.objs.size, _, I.laid (t' := s.toks) kp (Nat.le_refl _) (show ObjOk X.prog X.w _ h' _ (.lst ys) from ⟨hz, its, c', r', e⟩), rfl, q _ (I.hok.fresh (Nat.le_refl _))⟩
  rcases hq with hq | hq
  · obtain ⟨its, r', pl, hz⟩ := I.list hq
    have hlen := r'.length
    obtain ⟨o, ho, hc, n, hd⟩ := pl.isList
    exact call_list_seq p (.inl rfl) ho hc hd (fun h' c' kp e => fin its r' hz h' c' kp e) (by simp only [List.size_toArray] <;> lia)
  · obtain ⟨its, r', pl, hz⟩ := I.tuple hq
    have hlen := r'.length
    obtain ⟨o, ho, hc, n, hd⟩ := pl
    exact call_list_seq p (.inr rfl) ho hc hd (fun h' c' kp e => fin its r' hz h' c' kp e) (by simp only [List.size_toArray] <;> lia)
theorem call_tuple_of : CallR X (.type "tuple") (fun xs H Q => ∃ p ys, xs = [.ref p] ∧ ((SqL X.K H p ys ∧ ∀ l, H l = none → Q (.ref l) (upd H l (.tup ys))) ∨ (SqT X.K H p ys ∧ Q (.ref p) H))) := by
  intro pins s σ H xs us Q I r h
  obtain ⟨p, ys, rfl, h⟩ := h
  obtain ⟨u, rfl, rx⟩ := vals1 r
  cases rx
  rcases h with ⟨hq, q⟩ | ⟨hq, q⟩
  · obtain ⟨its, r', pl, hz⟩ := I.list hq
    have hlen := r'.length
    refine call_tuple_list pl.isList (fun h' kp => ?_) (by simp only [List.size_toArray] <;> lia)
    have I1 : Inv X pins σ H { s with heap := h' } := I.kept (t' := s.toks) kp
    have I2 : Inv X pins σ (upd H h'.objs.size (.tup ys)) { s with heap := h'.push { cls := .type "tuple", data := .seq its.toArray } } :=
      I1.laid (t' := s.toks) (fun b o e => Heap.get?_push_of_some _ e) (Nat.le_refl _) (show ObjOk X.prog X.w _ _ _ (.tup ys) from ⟨hz, its, r', IsTup.new _ _⟩)
    exact ⟨.ref h'.objs.size, _, I2, rfl, q _ (I1.hok.fresh (Nat.le_refl _))⟩
  · obtain ⟨its, r', pl, hz⟩ := I.tuple hq
    exact call_tuple_same pl ⟨.ref p, H, I, rfl, q⟩
noncomputable def tyV (K : PySem.W.Frag) (T : String) (x : V) (H : Hp) : Prop := match x with
  | .str _ => T = "str"
  | .int _ => T = "int"
  | .ref p => (T = "list" ∧ ∃ xs, SqL K H p xs) ∨ (T = "tuple" ∧ ∃ o, K.lookup p = some o ∧ o.cls = .type "tuple" ∧ o.dict = none) ∨
      (T = "dict" ∧ ((∃ kvs, H p = some (.dK kvs)) ∨ ∃ kvs, H p = some (.dT kvs))) ∨ (T = "set" ∧ ∃ S n, H p = some (.set S n))
  | _ => False
theorem tyV_is {pins : List (Addr × Obj)} {σ : St} {H : Hp} {s : Shared} {T : String} {x : V} {v : Value} (I : Inv X pins σ H s) (r : RelV x v) (ty : tyV X.K T x H) :
    s.TypeIs v T ∧ ∀ a, v = .ref a → ∃ ob, s.heap.get? a = some ob ∧ ob.dict = none := by
  cases x with
  | str z =>
    obtain ⟨t, rfl⟩ := r
    cases (show T = "str" from ty)
    exact ⟨typeIs_str s z t, fun _ e => nomatch e⟩
  | int i =>
    obtain ⟨t, rfl⟩ := r
    cases (show T = "int" from ty)
    exact ⟨typeIs_int s i t, fun _ e => nomatch e⟩
  | ref p =>
    cases r
    rcases ty with ⟨rfl, xs, hq⟩ | ⟨rfl, o, hk, hc, hd⟩ | ⟨rfl, hk⟩ | ⟨rfl, S, n, hk⟩
    · obtain ⟨its, _, pl, _⟩ := I.list hq
      refine ⟨pl.isList.typeIs, fun a e => ?_⟩
      cases e
      obtain ⟨o, n, e, c, hd, _⟩ := pl
      exact ⟨o, e, hd⟩
    · refine ⟨⟨o, I.kIn p o hk, hc⟩, fun a e => ?_⟩
      cases e
      exact ⟨o, I.kIn _ o hk, hd⟩
    · have z : ∃ o, s.heap.get? p = some o ∧ o.ExactDict := by
        rcases hk with ⟨kvs, hk⟩ | ⟨kvs, hk⟩
        · obtain ⟨_, _, _, _, o, _, _, e, ex, _⟩ := I.hok p _ hk
          exact ⟨o, e, ex⟩
        · obtain ⟨_, _, _, _, o, _, _, e, ex, _⟩ := I.hok p _ hk
          exact ⟨o, e, ex⟩
      obtain ⟨o, e, ex⟩ := z
      refine ⟨⟨o, e, ex.1⟩, fun a e2 => ?_⟩
      cases e2
      exact ⟨o, e, ex.2.1⟩
    · obtain ⟨o, _, _, _, e, ex, _⟩ := I.hok p _ hk
      refine ⟨⟨o, e, ex.1⟩, fun a e2 => ?_⟩
      cases e2
      exact ⟨o, e, ex.2.1⟩
  | _ => exact False.elim ty
noncomputable def tBM (K : PySem.W.Frag) (T : String) (r : V → List V → Hp → VK → Prop) (to : TE) (t : TA) : TE := fun σ H Q => to σ H fun x H1 => tyV K T x H1 ∧ t σ H1 fun xs H2 => r x xs H2 Q
variable {o e : Expr} {es : List Expr} {to : TE} {t : TA} {name : Str} {apos cpos : Pos} {T id : String} {r : V → List V → Hp → VK → Prop}
theorem pe_bm (pa : PlainAttrs T) (slot : Slot T name id) (hty : typeOf (.builtin id) = pure (.type "method_descriptor")) (hm : MtR X id r) (ho : PE X o to) (ha : PA X (e :: es) t)
    (hbase : attributeBase o name X.env (eval o X.env) = eval o X.env := by rfl)
    (hfew : ((backTo cpos (starEach (e :: es) X.env)).all (fun x => !x.1) && (backToKw cpos (keywordEach [] X.env)).all (fun x => x.1.isSome)
      && decide ((e :: es).length + ([] : List Keyword).length + (if ([] : List Keyword).isEmpty then 0 else 1) < 30)) = true := by rfl)
    (hline : (apos.endLine == cpos.line) = true := by rfl) (hs : starEach (e :: es) X.env = (false, eval e X.env) :: starEach es X.env := by rfl) (hplain : (backTo cpos (starEach es X.env)).any (·.1) = false := by rfl) :
    PE X (.Call (.Attribute o name apos) (e :: es) [] cpos) (tBM X.K T r to t) := by
  intro pins s σ H Q I h
  refine wpAny_Call_method_late hbase hfew hline rfl (thn (ho pins s σ H _ I h) fun v s1 ⟨x, H1, I1, r1, ty, q1⟩ => ?_)
  obtain ⟨h1, h2⟩ := tyV_is I1 r1 ty
  refine ⟨T, id, pa, slot, hty, h1, h2, ?_⟩
  have hA := ha cpos pins s1 σ H1 _ I1 q1
  rw [hs] at hA ⊢
  refine Calls.callWith_builtin (by show (false || (backTo cpos (starEach es X.env)).any (·.1)) = false; rw [hplain] <;> rfl) (Calls.evalArgs_plain ?_)
  exact thn hA fun us s2 ⟨vs, H2, I2, r2, q2⟩ => hm pins s2 σ H2 x vs v us Q I2 r1 r2 q2
end
end L2
namespace L2
open PySem PySem.Spec PyProof.Rows
noncomputable def MtM (X : Cx) (id : String) (r : V → List V → Hp → VK → Prop) : Prop :=
  ∀ (pins : List (Addr × Obj)) (s : Shared) (σ : St) (H : Hp) (x : V) (xs : List V) (v : Value) (us : List Value) (Q : VK), Inv X pins σ H s → RelV x v → Vals xs us → r x xs H Q →
    wpAny (model X.prog X.w) X.A (call (.builtin id) (v :: us)) (EP X pins σ Q) X.xe s
theorem Vals.one : ∀ {x : V} {us : List Value}, Vals [x] us → ∃ u, us = [u] ∧ RelV x u
  | _, _, .cons r .nil => ⟨_, rfl, r⟩
theorem Vals.reverse {xs : List V} {us : List Value} (h : Vals xs us) : Vals xs.reverse us.reverse := by
  induction h with
  | nil => exact .nil
  | cons r t ih => rw [List.reverse_cons, List.reverse_cons]; exact Vals.append ih (.cons r .nil)
theorem Vals.rep {xs : List V} {us : List Value} (h : Vals xs us) : ∀ k : Nat, Vals (List.replicate k xs).flatten (List.replicate k us).flatten
  | 0 => .nil
  | k + 1 => by
    rw [List.replicate_succ, List.replicate_succ, List.flatten_cons, List.flatten_cons]
    exact Vals.append h (Vals.rep h k)
theorem foldl_rep (its : List Value) : ∀ (k : Nat) (acc : List Value),
    List.foldl (fun x1 x2 => x1 ++ x2) acc.toArray (List.replicate k its.toArray) = (acc ++ (List.replicate k its).flatten).toArray
  | 0, acc => by simp
  | k + 1, acc => by
    have e : acc.toArray ++ its.toArray = (acc ++ its).toArray := by simp
    have e2 : (acc ++ its) ++ (List.replicate k its).flatten = acc ++ (List.replicate (k + 1) its).flatten := by
      rw [List.replicate_succ, List.flatten_cons, List.append_assoc]
    rw [← e2, ← foldl_rep its k (acc ++ its), ← e, List.replicate_succ, List.foldl_cons]
section
variable {X : Cx} {pins : List (Addr × Obj)} {σ : St} {H : Hp} {s : Shared} {l b : Addr} {xs ys zs : List V}
theorem Inv.lset {its its' : List Value} {n : Nat} {f : Array Value → Array Value} {t' : Nat} (I : Inv X pins σ H s) (hH : H l = some (.lst xs))
    (e : s.heap.get? l = some { cls := .type "list", data := .seq its.toArray n }) (hf : f its.toArray = its'.toArray) (hv : Vals ys its') (hz : ys.length ≤ sizeLine) :
    Inv X pins σ (upd H l (.lst ys)) { s with heap := s.heap.update l (Obj.mapSeq f), toks := t' } := by
  have q := PySem.IsL.update e f
  rw [hf] at q
  refine I.write (x := l) (e := l) (by rw [hH]; exact trivial) (.inl rfl) (fun b' u hb hu => (Heap.get?_update_other s.heap (Obj.mapSeq f) (Ne.symm hb)).trans hu) ⟨_, q⟩ ?_
  exact ⟨hz, its', _, hv, q⟩
theorem Inv.lstM (I : Inv X pins σ H s) (hH : H l = some (.lst xs)) : xs.length ≤ sizeLine ∧ ∃ (its : List Value) (n : Nat), Vals xs its ∧ xs.length = its.length ∧ s.heap.get? l = some { cls := .type "list", data := .seq its.toArray n } := by
  obtain ⟨z, its, n, r, e⟩ := I.hok l _ hH
  exact ⟨z, its, n, r, r.length, e⟩
end
section
variable {X : Cx}
noncomputable def rAppend : V → List V → Hp → VK → Prop := fun x vs H Q => ∃ l xs y, x = .ref l ∧ vs = [y] ∧ H l = some (.lst xs) ∧ xs.length < sizeLine ∧ Q .non (upd H l (.lst (xs ++ [y])))
theorem mt_append : MtM X "list.append" rAppend := by
  intro pins s σ H x vs v us Q I rx rv h
  obtain ⟨l, xs, y, rfl, rfl, hH, hz, q⟩ := h
  cases rx
  obtain ⟨u, rfl, ru⟩ := rv.one
  obtain ⟨z, its, n, r, hl, e⟩ := I.lstM hH
  refine call_meets F.slot_list_append ⟨_, e, rfl⟩ F.entry_list_append (F.args_list_append_2 _ _) (PySem.list_append l its.toArray n u (by rw [List.size_toArray]; lia)) ⟨e, ?_⟩
  refine ⟨.non, _, I.lset (its' := its ++ [u]) hH e (by simp) (r.append (.cons ru .nil)) ?_, rfl, q⟩
  rw [List.length_append, List.length_singleton]
  lia
theorem len_rep {α : Type} (xs : List α) (k : Nat) : (List.replicate k xs).flatten.length = k * xs.length := by
  induction k with
  | zero => simp
  | succ k ih => rw [List.replicate_succ, List.flatten_cons, List.length_append, ih, Nat.succ_mul, Nat.add_comm]
end
section
variable {prog : Program} {w : World} {A : Around} {E : Value → Shared → Prop} {s : Shared}
end
section
variable {X : Cx}
end
end L2
namespace Att
open PySem PySem.W PySem.Calls PyProof.Rows
theorem ints_of_wellAll {P : Params} {h : Heap} : ∀ (ns : List Int) (vs : List Value), WellAll P h vs (ns.map WData.int) → IntsAre vs ns := by
  intro ns
  induction ns with
  | nil =>
    intro vs w
    rw [List.map_nil] at w
    cases w
    exact .nil
  | cons n ns ih =>
    intro vs w
    rw [List.map_cons] at w
    cases w with
    | cons a b =>
      cases a
      exact .cons _ _ (ih _ b)
theorem script_of {l : OpenLaw} {n : Nat} (hn : l.most = some n) {P : Params} {h : Heap} {args : List WData} {vals : List Value}
    (hpre : l.row.toRowW.claim.pre args = true) (hwl : WellAll P h vals args) :
    ∃ a vs ns, vals = [Value.ref a] ∧ args = [WData.list (ns.map WData.int)] ∧ h.get? a = some { cls := .type "list", data := .seq vs.toArray } ∧ IntsAre vs ns ∧ ns.length ≤ n := by
  have hsh : WShape.hasAll [] args [.list .int] = true := (pre_splitW hpre).1
  have hc : l.pre.holds [] { args := args } = true := (pre_splitW hpre).2
  obtain ⟨d, r, rfl, h1, h2⟩ := hasAllW_cons hsh
  obtain rfl := hasAllW_nil h2
  obtain ⟨xs, rfl, h3⟩ := hasW_list h1
  obtain ⟨ns, rfl⟩ := items_int h3
  have hlen : ns.length ≤ n := by
    unfold OpenLaw.pre at hc
    have h4 : (WTm.not (.lt (.lit (.int (n : Int))) (.len (.arg 0)))).holds [] { args := [.list (ns.map .int)] } = true := by
      have h4 := (holds_andW hc).1
      rw [hn] at h4
      exact h4
    have h5 := condW_of h4 (w_not (w_lt w_lit (w_len_list (w_arg rfl))))
    rw [List.length_map] at h5
    refine Nat.le_of_not_lt fun q => ?_
    have q' : (n : Int) < ((ns.length : Nat) : Int) := by lia
    first
      | (rw [decide_eq_true q'] at h5; exact absurd h5 (by decide))
      | (simp at h5; lia)
  cases hwl with
  | cons w1 w2 =>
    cases w2
    cases w1 with
    | list ho hall => exact ⟨_, _, ns, rfl, rfl, ho, ints_of_wellAll ns _ hall, hlen⟩
theorem post_true (l : OpenLaw) (args : List WData) : l.row.toRowW.claim.post args (.bool true) args = true :=
  postW_of (r := l.row.toRowW) (X := (true == true))
    (show WShape.has [] (.bool true) .bool = true by first | rfl | decide | simp [WShape.has, WShape.arms, WShape.armsAll])
    (show (WTm.eq .res (.lit (.bool true))).value [] { args := args, res := some (.bool true), after := args } = some (.bool (true == true)) from w_eq_bool (w_res rfl) w_lit) rfl
theorem attach_call {l : OpenLaw} {n : Nat} {q : Program} {loose : List Str} {XP : (Str → Option Value) → Heap → Prop} {YP : World → Heap → Prop} {d : DefRec}
    (hn : l.most = some n) (hdf : d.params.defaults = [])
    (call : ∀ (w : World) (s₀ s₁ : Shared) (mg mb : Str → Option Value) (fa : Addr) (o : Obj) (pm cd doc : Value) (a : Addr) (vs : List Value) (ns : List Int),
      Ground q loose [] XP w s₀ mg mb s₁.heap → YP w s₁.heap →
      s₁.heap.get? fa = some o → o.data = .func (docDef d.name d.params d.body d.scope pm cd doc) → s₁.heap.CodeRec cd d.name → mg d.name = some (.ref fa) →
      s₁.heap.get? a = some { cls := .type "list", data := .seq vs.toArray } → IntsAre vs ns → ns.length ≤ n → s₁.gens = #[] →
      codeAny (model l.prog w) callerA (.call (.ref fa) ⟨[.ref a], []⟩) (fun r s' => r = .ok (.ret (.bool true)) ∧ OldK s₁.heap s'.heap ∧ s'.os = s₁.os ∧ AllBare s'.gens) s₁) :
    WalkO q loose XP YP l.row.toRowW d [] (fun f vs => PySem.call f vs) := by
  intro w s₀ s₁ mg mb G Y fa o pm cd doc dV kV ho hd hcd hD hmg hg args vals as hpre hlay hrd hwl hlo
  obtain rfl : dV = .none := Dflts.none hD hdf
  obtain rfl : kV = .none := Dflts.noKw hD
  obtain ⟨a, vs, ns, rfl, rfl, hobj, hints, hlen⟩ := script_of hn hpre hwl
  refine enter_call (codeAny_mono (call w s₀ s₁ mg mb fa o pm cd doc a vs ns G Y ho (fd_plain hd) hcd hmg hobj hints hlen hg) fun r s' hq => ?_)
  obtain ⟨rfl, h2, h3, h4⟩ := hq
  exact ⟨.inl ⟨.bool true, .bool true, [], rfl, fun _ => rfl, .bool true, post_true l _, fun _ => ⟨List.Pairwise.nil, fun _ hm => (nomatch hm)⟩⟩, h2, h3, h4⟩
section
variable {prog : Program} {w : World} {A : Around} {E : Value → Shared → Prop} {s : Shared} {K : Frag}
end
end Att
namespace L2
open PySem PySem.Spec PyProof.Rows
theorem vals_ints : ∀ {vs : List Value} {ns : List Int}, IntsAre vs ns → Vals (ns.map V.int) vs
  | _, _, .nil => .nil
  | _, _, .cons n t h => .cons ⟨t, rfl⟩ (vals_ints h)
noncomputable def Only (H : Hp) : Prop := ∀ b, H b = none ∨ ∃ o xs, H b = some (.frz o (.lst xs))
theorem law_call {P : Program} {w : World} {K : PySem.W.Frag} {mg mb : Str → Option Value} {CX : CXT} {k : Nat} {fa a : Addr} {fd : FuncData} {x : Str} {sp : Sp} {s₁ : Shared} {vs : List Value} {ns : List Int}
    (KX : K.In s₁.heap) (hns : s₁.heap.Ns mainGlobals mg) (hb : s₁.heap.Ns builtinsNs mb) (hbb : ∀ x : Str, x ≠ "__name__" → mb x = bootBuiltins x) (hlim : s₁.heap.NoLimit) (hg : s₁.gens = #[])
    (ha : s₁.heap.get? a = some { cls := .type "list", data := .seq vs.toArray }) (hi : IntsAre vs ns) (hl : ns.length ≤ sizeLine) (hr : Room k callerA)
    (F : ∀ base : Heap, K.In base → base.Ns mainGlobals mg → FnOk P w K mg base CX k fa fd [x] sp) (hbind : ∀ (s : Shared) (u : Value), BindsTo s fd ⟨[u], []⟩ [(x, u)])
    (hsp : ∀ H : Hp, Only H → SqL K H a (ns.map V.int) → sp [.ref a] H (fun v _ => v = .bl true) fun _ _ _ => False)
    (hCX : ∀ H e s', CX [] H s₁ (fun _ _ _ => False) e s' → False) :
    codeAny (model P w) callerA (.call (.ref fa) ⟨[.ref a], []⟩) (fun r s' => r = .ok (.ret (.bool true)) ∧ OldK s₁.heap s'.heap ∧ s'.os = s₁.os ∧ AllBare s'.gens) s₁ := by
  have rv := vals_ints hi
  have lenV := hi.length
  -- from an abstract heap in which nothing but the script may be tracked
  have core : ∀ H : Hp, Only H → SqL K H a (ns.map V.int) → HOk P w H s₁.heap → (∀ b, H b ≠ none → b = a) → (H a ≠ none → K.lookup a = none) →
      codeAny (model P w) callerA (.call (.ref fa) ⟨[.ref a], []⟩) (fun r s' => r = .ok (.ret (.bool true)) ∧ OldK s₁.heap s'.heap ∧ s'.os = s₁.os ∧ AllBare s'.gens) s₁ := by
    intro H hO hS hok hA hK
    have base_of : ∀ {b : Addr} {o : Obj}, s₁.heap.get? b = some o → H b = none → (hidT s₁.heap H).get? b = some o := fun e n => hidT_get e n
    have noA : ∀ {b : Addr} {o : Obj} {es : Array DictEntry} {ep : Nat}, s₁.heap.get? b = some o → o.data = .dict es ep → H b = none := fun {b o es ep} e d => by
      cases q : H b with
      | none => rfl
      | some u =>
        have e' : b = a := hA b (by rw [q]; simp)
        subst e'
        rw [ha] at e; cases e
        have d' : Data.seq vs.toArray _ = Data.dict es ep := d
        cases d'
    have nsK : ∀ {b : Addr} {m : Str → Option Value}, s₁.heap.Ns b m → (hidT s₁.heap H).Ns b m := fun {b m} ⟨o, es, ep, e, d, r⟩ => ⟨o, es, ep, base_of e (noA e d), d, r⟩
    have hKb : K.In (hidT s₁.heap H) := fun b o e => base_of (KX b o e) (by
      cases q : H b with
      | none => rfl
      | some u =>
        have e' : b = a := hA b (by rw [q]; simp)
        subst e'
        rw [hK (by rw [q]; simp)] at e; cases e)
    have hM : Mod K mg (hidT s₁.heap H) := ⟨hKb, nsK hns, ⟨mb, nsK hb, hbb⟩, let ⟨mc, h1, h2⟩ := hlim; ⟨mc, nsK h1, h2⟩⟩
    have e0 : Env0 P w K mg (hidT s₁.heap H) callerA [] s₁ H := ⟨rfl, hM, fun b o e => of_hidT e, Nat.le_of_eq (hidT_size _ _), trivial, fun b hb => absurd (show b ∈ ([] : List Addr) from hb) (by simp), hok, .of_eq hg⟩
    refine codeAny_mono ((F _ hKb (nsK hns)).run callerA [] s₁ H ⟨[.ref a], []⟩ [.ref a] [.ref a] _ _ hr e0 (hbind s₁ (.ref a)) (.cons rfl .nil) (hsp H hO hS)) fun r s' h => ?_
    cases r with
    | error e => exact (hCX H e s' h).elim
    | ok fl =>
      cases fl with
      | next => exact False.elim h
      | brk => exact False.elim h
      | cont => exact False.elim h
      | ret u =>
        obtain ⟨v, H', os, bare, un, hok', r', q⟩ := h
        have q' : v = .bl true := q
        subst q'
        obtain rfl : u = Value.bool true := r'
        refine ⟨rfl, OldK.of_keep fun b o e => ?_, os, bare⟩
        cases q : H b with
        | none => exact un.keep b o e q (by intro z; exact absurd (show b ∈ ([] : List Addr) from z) (by simp)) (by simp)
        | some u =>
          rcases hO b with z | ⟨ob, xs, z⟩
          · rw [q] at z; cases z
          · have z2 := un.frzs b ob _ z
            obtain ⟨e1, _⟩ := hok b _ z
            obtain ⟨e2, _⟩ := hok' b _ z2
            rw [e] at e1; cases e1
            exact e2
  cases hk : K.lookup a with
  | some o =>
    -- the script is one of the module's own objects
    have e := KX a o hk
    rw [ha] at e
    cases e
    refine core (fun _ => none) (fun _ => .inl rfl) (.inr ⟨_, vs.toArray, _, hk, rfl, rfl, rfl, by rw [List.size_toArray, lenV]; exact hl, by simpa using rv⟩) (fun b u z => by have z' : (none : Option HO) = some u := z; cases z') (fun b z => absurd rfl z) fun z => absurd rfl z
  | none =>
    refine core (fun b => if b = a then some (.frz { cls := .type "list", data := .seq vs.toArray } (.lst (ns.map V.int))) else none) (fun b => ?_) (.inl (.inr ⟨{ cls := .type "list", data := .seq vs.toArray }, if_pos rfl⟩)) (fun b u z => ?_) (fun b z => ?_) fun _ => hk
    · by_cases hb : b = a
      · exact .inr ⟨_, _, if_pos hb⟩
      · exact .inl (if_neg hb)
    · by_cases hb : b = a
      · have z' := (if_pos hb).symm.trans z
        cases z'
        subst hb
        exact ⟨ha, by rw [List.length_map]; exact hl, vs, _, rv, ha⟩
      · have z' := (if_neg hb).symm.trans z
        cases z'
    · by_cases hb : b = a
      · exact hb
      · exact absurd (if_neg hb) z
end L2
namespace L2
open PySem PySem.Spec PyProof.Rows
theorem walk_of {l : PySem.W.OpenLaw} {n k : Nat} {q : Program} {loose : List Str} {XP : (Str → Option Value) → Heap → Prop} {YP : World → Heap → Prop} {d : DefRec} {K : Params → PySem.W.Frag} {CX : World → CXT} {sp : World → Sp} {x : Str}
    (hn : l.most = some n) (hn2 : n ≤ sizeLine) (hdf : d.params.defaults = []) (hr : Room k callerA)
    (hY : ∀ (w : World) (h : Heap), YP w h → (K w.params).In h)
    (F : ∀ (w : World) (mg : Str → Option Value) (fa : Addr) (h : Heap), (K w.params).In h → h.Ns mainGlobals mg → mg d.name = some (.ref fa) →
      ∃ fd : FuncData, (∀ (s : Shared) (u : Value), BindsTo s fd ⟨[u], []⟩ [(x, u)]) ∧
        ∀ base : Heap, (K w.params).In base → base.Ns mainGlobals mg → FnOk l.prog w (K w.params) mg base (CX w) k fa fd [x] (sp w))
    (hsp : ∀ (w : World) (H : Hp) (a : Addr) (ns : List Int), ns.length ≤ n → Only H → SqL (K w.params) H a (ns.map V.int) → sp w [.ref a] H (fun v _ => v = .bl true) fun _ _ _ => False)
    (hCX : ∀ (w : World) (H : Hp) (s : Shared) (e : Value) (s' : Shared), CX w [] H s (fun _ _ _ => False) e s' → False) :
    PySem.W.WalkO q loose XP YP l.row.toRowW d [] (fun f vs => PySem.call f vs) := by
  refine Att.attach_call hn hdf fun w s₀ s₁ mg mb fa o pm cd doc a vs ns G Y ho hd hcd hmg hobj hints hlen hg => ?_
  have KX := hY w _ Y
  obtain ⟨fd, hb, hF⟩ := F w mg fa _ KX G.T.g hmg
  exact law_call KX G.T.g G.T.b G.T.builtins G.T.nolimit hg hobj hints (Nat.le_trans hlen hn2) hr hF hb (fun H hO hS => hsp w H a ns hlen hO hS) fun H e s' => hCX w H s₁ e s'
end L2
namespace L2
open PySem PySem.Spec PyProof.Rows
noncomputable def defArgs (s : Stmt) : Arguments := match s with
  | .FunctionDef _ a _ _ _ _ _ _ _ _ => a
  | _ => { posonlyargs := [], args := [], vararg := none, kwonlyargs := [], kw_defaults := [], kwarg := none, defaults := [] }
noncomputable def defBody (s : Stmt) : List Stmt := match s with
  | .FunctionDef _ _ b _ _ _ _ _ _ _ => b
  | _ => []
noncomputable def defScope (s : Stmt) : Scope := match s with
  | .FunctionDef _ _ _ _ _ _ sc _ _ _ => sc
  | _ => { kind := .function, names := [], isGenerator := false, isCoroutine := false }
noncomputable abbrev CX0 : CXT := fun _ _ _ _ _ _ => False
noncomputable abbrev E0 : XK := fun _ _ _ => False
theorem pass0 {X : Cx} : Passes CX0 X E0 := fun _ _ _ _ _ _ _ h => h.elim
structure Fun (K : PySem.W.Frag) (x qual : Str) (st : Stmt) (f : Addr) (fd : FuncData) : Prop where
  ex : ∃ (oc : Value) (od : Option Addr) (kV doc pm : Value) (an : Option Addr) (cdv ct : Value) (osl : Array (Option Value)),
    fd = PySem.W.fnOf x qual (defArgs st) (defBody st) (defScope st) .none kV doc pm an cdv ct ∧ K.lookup f = some ⟨oc, od, .func fd, osl⟩ ∧ PySem.W.codeIn K cdv qual = true
  kp : PySem.W.keepIn K (.ref f) = true
section
variable {P : Program} {w : World} {K : PySem.W.Frag} {mg : Str → Option Value} {base : Heap}
theorem Fun.ok {x qual : Str} {st : Stmt} {f : Addr} {fd : FuncData} {N ps : List Str} {k : Nat} {sp : Sp} (F : Fun K x qual st f fd) (S : FnScope N ps (defScope st)) (len : ∀ vs H Q E, sp vs H Q E → vs.length = ps.length)
    (hbody : ∀ (cdv : Value) (A : Around) (outer : List Env) (s : Shared) (H : Hp) (vs : List V) (Q : VK) (E : XK), Room k (A.deeper (envOfC qual (defScope st) s.heap.objs.size f cdv)) → sp vs H Q E →
      ∃ t, PSs (cxOf CX0 P w K mg base N qual (defScope st) f cdv A outer s H E).nox (defBody st) t ∧ t { nx := fun _ H' => Q .non H', rt := Q } (start N vs) H) : FnOk P w K mg base CX0 (k + 1) f fd ps sp := by
  obtain ⟨oc, od, kV, doc, pm, an, cdv, ct, osl, rfl, lk, hcd⟩ := F.ex
  refine fn_of lk hcd S len fun A outer s H vs Q E hr hsp => ?_
  obtain ⟨t, h, q⟩ := hbody cdv A outer s H vs Q E hr hsp
  exact ⟨t, h.nox, q⟩
theorem Fun.binds {x qual : Str} {st : Stmt} {f : Addr} {fd : FuncData} {ps : List Str} (F : Fun K x qual st f fd)
    (h : ∀ (kV doc pm : Value) (an : Option Addr) (cdv ct : Value) (us : List Value), us.length = ps.length → bindArgs (PySem.W.fnOf x qual (defArgs st) (defBody st) (defScope st) .none kV doc pm an cdv ct) ⟨us, []⟩ = pure (ps.zip us)) : Binds K fd ps [] := by
  obtain ⟨oc, od, kV, doc, pm, an, cdv, ct, osl, rfl, lk, hcd⟩ := F.ex
  exact .all (h kV doc pm an cdv ct)
theorem fun_mk {x qual : Str} {st : Stmt} {f : Addr} {oc : Value} {od an : Option Addr} {osl : Array (Option Value)} {kV doc pm cdv ct : Value} (l : K.lookup f = some ⟨oc, od, .func (PySem.W.fnOf x qual (defArgs st) (defBody st) (defScope st) .none kV doc pm an cdv ct), osl⟩)
    (c : PySem.W.codeIn K cdv qual = true) (k : PySem.W.keepIn K (.ref f) = true) : Fun K x qual st f (PySem.W.fnOf x qual (defArgs st) (defBody st) (defScope st) .none kV doc pm an cdv ct) := ⟨⟨oc, od, kV, doc, pm, an, cdv, ct, osl, rfl, l, c⟩, k⟩
end
section
variable {X : Cx}
theorem pv (i : Nat) {x : Str} {pos : Pos} (hN : X.N[i]? = some x := by rfl) (hv : Vis X.env.scope x := by first | exact Or.inl rfl | exact Or.inr (Or.inl rfl) | exact Or.inr (Or.inr rfl)) (hd : (x == ("__debug__" : Str)) = false := by decide)
    (hcd : (x == ("__classdict__" : Str)) = false := by decide) : PE X (.Name x pos) (tVar i) := pe_var hN hv hd hcd
end
theorem iteF {A B : Prop} (h : B) : if false = true then A else B := by
  rw [if_neg Bool.false_ne_true]
  exact h
theorem iteT {A B : Prop} (h : A) : if true = true then A else B := by
  rw [if_pos rfl]
  exact h
end L2
set_option Elab.async false
set_option linter.all false
set_option maxRecDepth 100000
namespace L2
open PySem PySem.Spec PyProof.Rows
section
variable {κ : Type} [DecidableEq κ]
noncomputable def valV (kvs : List (κ × V)) (k : κ) : Option V := (kvs.find? fun kv => decide (kv.1 = k)).map (·.2)
noncomputable def putK (kvs : List (κ × V)) (k : κ) (v : V) : List (κ × V) :=
  if (kvs.any fun kv => decide (kv.1 = k)) = true then kvs.map (fun kv => if kv.1 = k then (kv.1, v) else kv) else kvs ++ [(k, v)]
theorem valV_pos {p : κ × V} {r : List (κ × V)} {k : κ} (e : p.1 = k) : valV (p :: r) k = some p.2 := by simp [valV, List.find?_cons, e]
theorem valV_neg {p : κ × V} {r : List (κ × V)} {k : κ} (e : ¬ p.1 = k) : valV (p :: r) k = valV r k := by simp [valV, List.find?_cons, e]
theorem length_putK (kvs : List (κ × V)) (k : κ) (v : V) : (putK kvs k v).length ≤ kvs.length + 1 := by
  unfold putK
  split
  · rw [List.length_map]; lia
  · rw [List.length_append, List.length_cons, List.length_nil]; lia
theorem RelO.getD {o : Option V} {u : Option Value} {d : V} {d' : Value} (r : RelO o u) (rd : RelV d d') : RelV (o.getD d) (u.getD d') := by
  cases o with
  | none => cases u with
    | none => exact rd
    | some _ => exact (show False from r).elim
  | some _ => cases u with
    | none => exact (show False from r).elim
    | some _ => exact r
theorem KV.val {kvs : List (κ × V)} {vs : List (κ × Value)} (r : KV kvs vs) (k : κ) : RelO (valV kvs k) (valueAt vs k) := by
  unfold KV at r
  induction r with
  | nil => exact True.intro
  | @cons p q ps qs h t ih =>
    obtain ⟨h1, h2⟩ := h
    by_cases e : p.1 = k
    · have e' : q.1 = k := h1.symm.trans e
      have b : valueAt (q :: qs) k = some q.2 := by simp [valueAt, List.find?_cons, e']
      rw [valV_pos e, b]; exact h2
    · have e' : ¬ q.1 = k := fun z => e (h1.trans z)
      have b : valueAt (q :: qs) k = valueAt qs k := by simp [valueAt, List.find?_cons, e']
      rw [valV_neg e, b]; exact ih
theorem KV.any {kvs : List (κ × V)} {vs : List (κ × Value)} (r : KV kvs vs) (k : κ) : (kvs.any fun kv => decide (kv.1 = k)) = vs.any fun kv => decide (kv.1 = k) := by
  unfold KV at r
  induction r with
  | nil => rfl
  | cons h t ih => rw [List.any_cons, List.any_cons, ih, h.1]
theorem KV.repl {kvs : List (κ × V)} {vs : List (κ × Value)} (r : KV kvs vs) (k : κ) {y : V} {u : Value} (ry : RelV y u) :
    KV (kvs.map fun kv => if kv.1 = k then (kv.1, y) else kv) (vs.map fun kv => if kv.1 = k then (kv.1, u) else kv) := by
  unfold KV at r ⊢
  induction r with
  | nil => exact .nil
  | @cons p q ps qs h t ih =>
    rw [List.map_cons, List.map_cons]
    refine .cons ?_ ih
    obtain ⟨h1, h2⟩ := h
    by_cases e : p.1 = k
    · rw [if_pos e, if_pos (h1.symm.trans e)]; exact ⟨h1, ry⟩
    · rw [if_neg e, if_neg (fun z => e (h1.trans z))]; exact ⟨h1, h2⟩
theorem KV.put {kvs : List (κ × V)} {vs : List (κ × Value)} (r : KV kvs vs) (k : κ) {y : V} {u : Value} (ry : RelV y u) : KV (putK kvs k y) (stored vs k u) := by
  unfold putK stored
  rw [r.any k]
  by_cases e : (vs.any fun kv => decide (kv.1 = k)) = true
  · rw [if_pos e, if_pos e]; exact r.repl k ry
  · rw [if_neg e, if_neg e]; exact Paired.snoc r ⟨rfl, ry⟩
theorem KV.length {kvs : List (κ × V)} {vs : List (κ × Value)} (r : KV kvs vs) : kvs.length = vs.length := Paired.length r
end
theorem kV_is {P : Program} {w : World} {k : Key} {u : Value} (r : RelV (kV k) u) : (mixKind P w).is k u = true := by
  cases k with
  | inl i => obtain ⟨t, e⟩ := (show ∃ t, u = Value.int i t from r); subst e; exact mixKind_int P w i t
  | inr x => obtain ⟨t, e⟩ := (show ∃ t, u = Value.str x t from r); subst e; exact mixKind_str P w x t
theorem items_are {P : Program} {w : World} : ∀ {ks : List Key} {us : List Value}, Vals (ks.map kV) us → ItemsAre (mixKind P w) ks us
  | [], _, r => by rw [List.map_nil] at r; cases r; exact .nil
  | k :: ks, _, r => by
    rw [List.map_cons] at r
    cases r with
    | cons h t => exact .cons (kV_is h) (items_are t)
noncomputable abbrev KT (H : Hp) : List (List Key × V) → List (List Key × Addr × Value) → Prop := Paired fun p q => p.1 = q.1 ∧ H q.2.1 = some (.tup (p.1.map kV)) ∧ RelV p.2 q.2.2
theorem KT.val {H : Hp} {kvs : List (List Key × V)} {xs : List (List Key × Addr × Value)} (r : KT H kvs xs) (k : List Key) : RelO (valV kvs k) ((atKey xs k).map (·.2)) := by
  induction r with
  | nil => exact True.intro
  | @cons p q ps qs h t ih =>
    obtain ⟨h1, _, h2⟩ := h
    by_cases e : p.1 = k
    · have e' : q.1 = k := h1.symm.trans e
      have b : atKey (q :: qs) k = some q.2 := by simp [atKey, List.find?_cons, e']
      rw [valV_pos e, b]; exact h2
    · have e' : ¬ q.1 = k := fun z => e (h1.trans z)
      have b : atKey (q :: qs) k = atKey qs k := by simp [atKey, List.find?_cons, e']
      rw [valV_neg e, b]; exact ih
section
variable {P : Program} {w : World} {H : Hp} {h : Heap} {a : Addr}
theorem rd_of {u : HO} (ok : HOk P w H h) (e : Rd H a u) : ObjOk P w H h a u := e.ok ok
theorem dk_rd {kvs : List (Key × V)} (ok : HOk P w H h) (e : Rd H a (.dK kvs)) : kvs.length ≤ sizeLine ∧ (a == sysModules) = false ∧ ∃ vs, KV kvs vs ∧ h.DictOf (mixKind P w) a vs :=
  show ObjOk P w H h a (.dK kvs) from rd_of ok e
theorem dk_of {kvs : List (Key × V)} (ok : HOk P w H h) (e : H a = some (.dK kvs)) : kvs.length ≤ sizeLine ∧ (a == sysModules) = false ∧ ∃ vs, KV kvs vs ∧ h.DictOf (mixKind P w) a vs := dk_rd ok (.inl e)
theorem key_of {ks : List Key} (ok : HOk P w H h) (e : H a = some (.tup (ks.map kV))) : (tupleKind (mixKind P w)).is h ks a := by
  obtain ⟨_, its, r, o, h1, h2, n, h3⟩ := (show ObjOk P w H h a (.tup (ks.map kV)) from ok a _ e)
  exact ⟨o, its.toArray, n, h1, h2, h3, by simpa using items_are r⟩
theorem dt_rd {kvs : List (List Key × V)} (ok : HOk P w H h) (e : Rd H a (.dT kvs)) : kvs.length ≤ sizeLine ∧ (a == sysModules) = false ∧
    ∃ xs, KT H kvs xs ∧ h.DictOfH (tupleKind (mixKind P w)) a xs := by
  obtain ⟨z, y, xs, r, o, es, ep, h1, h2, h3, h4, h5⟩ := (show ObjOk P w H h a (.dT kvs) from rd_of ok e)
  refine ⟨z, y, xs, r, o, es, ep, h1, h2, h3, h4, fun x hx => ?_, h5⟩
  have all : ∀ {l : List (List Key × V)} {m : List (List Key × Addr × Value)}, KT H l m → ∀ x ∈ m, (tupleKind (mixKind P w)).is h x.1 x.2.1 := by
    intro l m q
    induction q with
    | nil => intro x hx; exact nomatch hx
    | @cons p q ps qs hq t ih =>
      intro x hx
      rcases List.mem_cons.mp hx with e | hx
      · subst e
        exact key_of ok (by rw [← hq.1]; exact hq.2.1)
      · exact ih x hx
  exact all r x hx
end
noncomputable def DGet (H : Hp) (a : Addr) (y : V) (r : Option V) : Prop :=
  (∃ kvs k, Rd H a (.dK kvs) ∧ y = kV k ∧ r = valV kvs k) ∨ ∃ kvs k b, Rd H a (.dT kvs) ∧ y = .ref b ∧ H b = some (.tup (k.map kV)) ∧ r = valV kvs k
noncomputable def DPut (H : Hp) (a : Addr) (y v : V) (H' : Hp) : Prop :=
  (∃ kvs k, H a = some (.dK kvs) ∧ y = kV k ∧ kvs.length < sizeLine ∧ H' = upd H a (.dK (putK kvs k v))) ∨
  ∃ kvs k b, H a = some (.dT kvs) ∧ y = .ref b ∧ H b = some (.tup (k.map kV)) ∧ kvs.length < sizeLine ∧ H' = upd H a (.dT (putK kvs k v))
theorem DGet.k {H : Hp} {a : Addr} {kvs : List (Key × V)} {k : Key} (e : H a = some (.dK kvs)) : DGet H a (kV k) (valV kvs k) := .inl ⟨kvs, k, .inl e, rfl, rfl⟩
theorem DGet.t {H : Hp} {a b : Addr} {kvs : List (List Key × V)} {k : List Key} (e : H a = some (.dT kvs)) (eb : H b = some (.tup (k.map kV))) : DGet H a (.ref b) (valV kvs k) := .inr ⟨kvs, k, b, .inl e, rfl, eb, rfl⟩
theorem DPut.k {H : Hp} {a : Addr} {kvs : List (Key × V)} {k : Key} {v : V} (e : H a = some (.dK kvs)) (hl : kvs.length < sizeLine) : DPut H a (kV k) v (upd H a (.dK (putK kvs k v))) := .inl ⟨kvs, k, e, rfl, hl, rfl⟩
theorem DPut.t {H : Hp} {a b : Addr} {kvs : List (List Key × V)} {k : List Key} {v : V} (e : H a = some (.dT kvs)) (eb : H b = some (.tup (k.map kV))) (hl : kvs.length < sizeLine) :
    DPut H a (.ref b) v (upd H a (.dT (putK kvs k v))) := .inr ⟨kvs, k, b, e, rfl, eb, hl, rfl⟩
section
variable {X : Cx} {pins : List (Addr × Obj)} {σ : St} {H : Hp} {s : Shared} {a : Addr} {y v : V} {u r : Value} {o : Option V} {A : Around} {E : Value → Shared → Prop}
theorem Inv.big (I : Inv X pins σ H s) : sysModules < s.heap.objs.size := by
  have h : mainGlobals < s.heap.objs.size := (I.mod.glob.keeps I.bk).lt
  exact Nat.lt_trans (by decide) h
theorem d_getItem {Q : Value → Shared → Prop} (hu : A.units + 1 < cLine) (I : Inv X pins σ H s) (g : DGet H a y (some v)) (ry : RelV y u) (h : ∀ w' s', Inv X pins σ H s' → RelV v w' → Q w' s') :
    wpAny (model X.prog X.w) A (getItem (.ref a) u) Q E s := by
  rcases g with ⟨kvs, k, e, ey, l⟩ | ⟨kvs, k, b, e, ey, eb, l⟩
  · subst ey
    obtain ⟨z, hd, vs, rel, dd⟩ := dk_rd I.hok e
    obtain ⟨w', hw, rw'⟩ := RelO.some_of (v := v) (o := valueAt vs k) (by rw [l]; exact rel.val k)
    exact wpAny_getItem_of (kV_is ry) dd.mapOf hw (h w' _ (I.tok _) rw')
  · subst ey
    cases (show u = Value.ref b from ry)
    obtain ⟨z, hd, xs, rel, dd⟩ := dt_rd I.hok e
    obtain ⟨w', hw, rw'⟩ := RelO.some_of (v := v) (o := (atKey xs k).map (·.2)) (by rw [l]; exact rel.val k)
    obtain ⟨p, hp, hp2⟩ := Option.map_eq_some_iff.mp hw
    refine wpAny_getItem_heap (tupleKind_room_in1 hu) (key_of I.hok eb) dd hp ?_
    rw [hp2]
    exact h w' _ (I.tok _) rw'
theorem d_write {h' : Heap} {t' : Nat} {ob : HO} (I : Inv X pins σ H s) (mu : Mut (H a)) (hs : Heap.SameBut a s.heap h') (he : ∃ q, h'.get? a = some q) (new : ObjOk X.prog X.w (upd H a ob) h' a ob) :
    Inv X pins σ (upd H a ob) { s with heap := h', toks := t' } :=
  I.write (x := a) (e := a) mu (.inl rfl) (fun b q hb z => (hs.2 b hb).trans z) he new
theorem dk_new {P : Program} {w : World} {H' : Hp} {h' : Heap} {kvs : List (Key × V)} {vs : List (Key × Value)} (z : kvs.length ≤ sizeLine) (hd : (a == sysModules) = false) (rel : KV kvs vs) (dd : h'.DictOf (mixKind P w) a vs) :
    ObjOk P w H' h' a (.dK kvs) := ⟨z, hd, vs, rel, dd⟩
end
section
variable {X : Cx} {pins : List (Addr × Obj)} {σ : St} {H : Hp} {s : Shared} {a : Addr} {kvs : List (Key × V)} {k : Key} {u : Value} {A : Around} {E : Value → Shared → Prop}
end
theorem dict_typeIs {X : Cx} {pins : List (Addr × Obj)} {σ : St} {H : Hp} {s : Shared} {a : Addr} {y : V} {o : Option V} (I : Inv X pins σ H s) (g : DGet H a y o) : s.TypeIs (.ref a) "dict" := by
  rcases g with ⟨kvs, k, e, _, _⟩ | ⟨kvs, k, b, e, _, _, _⟩
  · obtain ⟨_, _, vs, _, dd⟩ := dk_rd I.hok e
    exact dd.typeIs
  · obtain ⟨_, _, xs, _, dd⟩ := dt_rd I.hok e
    exact dd.typeIs
section
variable {X : Cx} {o i e value : Expr} {pos pos' tpos : Pos} {td ty tv : TE}
end
theorem dk_empty {P : Program} {w : World} {H : Hp} (h : Heap) (hb : sysModules < h.objs.size) : ObjOk P w H (h.push { cls := .type "dict", data := .dict #[] }) h.objs.size (.dK []) :=
  ⟨Nat.zero_le _, beq_eq_false_iff_ne.mpr (Ne.symm (Nat.ne_of_lt hb)), [], .nil, Heap.DictOf.new h⟩
section
variable {X : Cx} {pos : Pos}
end
noncomputable def tPairs : List (TE × TE) → St → Hp → (List (V × V) → Hp → Prop) → Prop
  | [], _, H, Q => Q [] H
  | (tk, tv) :: r, σ, H, Q => tk σ H fun x H1 => tv σ H1 fun y H2 => tPairs r σ H2 fun ps H3 => Q ((x, y) :: ps) H3
noncomputable abbrev VV : List (V × V) → List (Value × Value) → Prop := Paired fun p q => RelV p.1 q.1 ∧ RelV p.2 q.2
noncomputable def PPs (X : Cx) (pos : Pos) (keys : List (Option Expr)) (values : List Expr) (trs : List (TE × TE)) : Prop :=
  ∀ (pins : List (Addr × Obj)) (s : Shared) (σ : St) (H : Hp) (Q : List (V × V) → Hp → Prop), Inv X pins σ H s → tPairs trs σ H Q →
    wpAny (model X.prog X.w) X.A (evalPairs (pairTrees keys values X.env pos)) (fun vs s' => ∃ ps H', Inv X pins σ H' s' ∧ VV ps vs ∧ Q ps H') X.xe s
theorem pps_nil {X : Cx} {pos : Pos} : PPs X pos [] [] [] := fun pins s σ H Q I h => pairTrees_nil_walk ⟨[], H, I, .nil, h⟩
theorem pps_cons {X : Cx} {pos : Pos} {k v : Expr} {ks : List (Option Expr)} {vs : List Expr} {tk tv : TE} {trs : List (TE × TE)} (hk : PE X k tk) (hv : PE X v tv) (hr : PPs X pos ks vs trs) :
    PPs X pos (some k :: ks) (v :: vs) ((tk, tv) :: trs) := fun pins s σ H Q I h =>
  pairTrees_cons_walk (thn (hk pins s σ H _ I h) fun u s1 ⟨x, H1, I1, rx, q1⟩ => thn (hv pins s1 σ H1 _ I1 q1) fun w2 s2 ⟨y, H2, I2, ry, q2⟩ =>
    thn (hr pins s2 σ H2 _ I2 q2) fun ws s3 ⟨ps, H3, I3, rel, q3⟩ => ⟨(x, y) :: ps, H3, I3, .cons ⟨rx, ry⟩ rel, q3⟩)
noncomputable def mergeK (kvs more : List (Key × V)) : List (Key × V) := more.foldl (fun acc kv => putK acc kv.1 kv.2) kvs
theorem KV.merge : ∀ {more : List (Key × V)} {rs : List (Key × Value)} {kvs : List (Key × V)} {vs : List (Key × Value)}, KV more rs → KV kvs vs → KV (mergeK kvs more) (merged vs rs) := by
  intro more rs kvs vs r
  unfold KV at r
  induction r generalizing kvs vs with
  | nil => intro q; exact q
  | @cons p q ps qs h t ih =>
    intro r0
    have e : KV (putK kvs p.1 p.2) (stored vs q.1 q.2) := by
      have := r0.put p.1 h.2
      rw [← h.1]; exact this
    exact ih e
theorem length_mergeK : ∀ (more kvs : List (Key × V)), (mergeK kvs more).length ≤ kvs.length + more.length
  | [], kvs => by show kvs.length ≤ kvs.length + 0; lia
  | p :: r, kvs => by
    have h1 := length_mergeK r (putK kvs p.1 p.2)
    have h2 := length_putK kvs p.1 p.2
    show (mergeK (putK kvs p.1 p.2) r).length ≤ _
    rw [List.length_cons]; lia
theorem carries_of {P : Program} {w : World} : ∀ {kvs : List (Key × V)} {ws : List (Value × Value)}, VV (kvs.map fun kv => (kV kv.1, kv.2)) ws → ∃ rs, Carries (mixKind P w) ws rs ∧ KV kvs rs
  | [], _, r => by rw [List.map_nil] at r; cases r; exact ⟨[], True.intro, .nil⟩
  | p :: kvs, _, r => by
    rw [List.map_cons] at r
    cases r with
    | @cons a b as bs h t =>
      obtain ⟨rs, c, q⟩ := carries_of (P := P) (w := w) t
      obtain ⟨b1, b2⟩ := b
      exact ⟨(p.1, b2) :: rs, ⟨kV_is h.1, rfl, c⟩, .cons ⟨rfl, h.2⟩ q⟩
noncomputable def tDisp (trs : List (TE × TE)) : TE := fun σ H Q => ∀ p, H p = none → tPairs trs σ (upd H p (.dK [])) fun ps H2 => H2 p = some (.dK []) ∧ ∃ kvs : List (Key × V), ps = kvs.map (fun kv => (kV kv.1, kv.2)) ∧ kvs.length ≤ 15 ∧ Q (.ref p) (upd H2 p (.dK (mergeK [] kvs)))
theorem pe_disp {X : Cx} {pos : Pos} {keys : List (Option Expr)} {values : List Expr} {trs : List (TE × TE)} (h : PPs X pos keys values trs) (hall : keys.all (·.isSome) = true) (hl : keys.length = values.length) (h0 : keys ≠ [])
    (h15 : keys.length ≤ 15) : PE X (.Dict keys values pos) (tDisp trs) := by
  intro pins s σ H Q I q
  have hn := I.hok.fresh (Nat.le_refl s.heap.objs.size)
  have I1 := I.laid (a := s.heap.objs.size) (o := .dK []) (h' := s.heap.push { cls := .type "dict", data := .dict #[] }) (t' := s.toks) (fun _ _ q => Heap.get?_push_of_some _ q) (Nat.le_refl _) (dk_empty s.heap I.big)
  refine wpAny_Dict_walk (knd := mixKind X.prog X.w) hall hl h0 h15 (thn (h pins _ σ _ _ I1 (q _ hn)) fun ws s2 ⟨ps, H2, I2, rel, e, kvs, ep, lk, q2⟩ => ?_)
  subst ep
  obtain ⟨rs, c, rk⟩ := carries_of (P := X.prog) (w := X.w) rel
  obtain ⟨z, hd, vs0, r0, dd⟩ := dk_of I2.hok e
  cases r0
  refine ⟨rs, c, dd, fun h' dd' hs => ⟨.ref s.heap.objs.size, _, ?_, rfl, q2⟩⟩
  have hz : (mergeK [] kvs).length ≤ sizeLine := by
    have h1 := length_mergeK kvs []
    rw [List.length_nil] at h1
    rw [sizeLine_eq]; lia
  have he : ∃ q, h'.get? s.heap.objs.size = some q := let ⟨q, _, _, hq, _⟩ := dd'; ⟨q, hq⟩
  exact d_write I2 (by rw [e]; exact True.intro) hs he (dk_new hz hd (rk.merge .nil) dd')
structure M2 (X : Cx) (o : Expr) (m : Str) (apos : Pos) (e f : Expr) (cpos : Pos) : Prop where
  base : attributeBase o m X.env (eval o X.env) = eval o X.env
  few : ((backTo cpos (starEach [e, f] X.env)).all (fun x => !x.1) && (backToKw cpos (keywordEach [] X.env)).all (fun x => x.1.isSome)
    && decide (([e, f] : List Expr).length + ([] : List Keyword).length + (if ([] : List Keyword).isEmpty then 0 else 1) < 30)) = true
  line : (apos.endLine == cpos.line) = true
  trees : backTo cpos (starEach [e, f] X.env) = [(false, eval e X.env), (false, eval f X.env)]
noncomputable def IsD (H : Hp) (a : Addr) : Prop := (∃ kvs, Rd H a (.dK kvs)) ∨ ∃ kvs, Rd H a (.dT kvs)
theorem isD_at {X : Cx} {pins : List (Addr × Obj)} {σ : St} {H : Hp} {s : Shared} {a : Addr} (I : Inv X pins σ H s) (d : IsD H a) :
    s.TypeIs (.ref a) "dict" ∧ (∀ b, Value.ref a = .ref b → ∃ ob, s.heap.get? b = some ob ∧ ob.dict = none) ∧ (a == sysModules) = false := by
  rcases d with ⟨kvs, e⟩ | ⟨kvs, e⟩
  · obtain ⟨_, hd, vs, _, dd⟩ := dk_rd I.hok e
    refine ⟨dd.typeIs, fun b q => ?_, hd⟩
    cases q
    obtain ⟨ob, _, _, h1, h2, _⟩ := dd
    exact ⟨ob, h1, h2.2.1⟩
  · obtain ⟨_, hd, xs, _, dd⟩ := dt_rd I.hok e
    refine ⟨dd.typeIs, fun b q => ?_, hd⟩
    cases q
    obtain ⟨ob, _, _, h1, h2, _⟩ := dd
    exact ⟨ob, h1, h2.2.1⟩
section
variable {X : Cx} {pins : List (Addr × Obj)} {σ : St} {H : Hp} {s : Shared} {a : Addr} {y d : V} {u r : Value} {o : Option V} {A : Around} {E : Value → Shared → Prop}
theorem d_get2 {Q : Value → Shared → Prop} (hu : A.units + 1 < cLine) (I : Inv X pins σ H s) (g : DGet H a y o) (ry : RelV y u) (rd : RelV d r) (h : ∀ w' s', Inv X pins σ H s' → RelV (o.getD d) w' → Q w' s') :
    wpAny (model X.prog X.w) A (call (.builtin "dict.get") [.ref a, u, r]) Q E s := by
  rcases g with ⟨kvs, k, e, ey, l⟩ | ⟨kvs, k, b, e, ey, eb, l⟩
  · subst ey
    obtain ⟨z, hd, vs, rel, dd⟩ := dk_rd I.hok e
    refine call_meetsIn PySem.F.slot_dict_get dd.typeIs PySem.F.entry_dict_get (PySem.F.args_dict_get_3 _ _ _) (meets_dict_get_default (mixKind X.prog X.w) a (kV_is ry) hd r) ⟨_, dd.mapOf, h _ _ (I.tok _) ?_⟩
    rw [l]
    exact (rel.val k).getD rd
  · subst ey
    cases (show u = Value.ref b from ry)
    obtain ⟨z, hd, xs, rel, dd⟩ := dt_rd I.hok e
    refine call_meetsIn PySem.F.slot_dict_get dd.typeIs PySem.F.entry_dict_get (PySem.F.args_dict_get_3 _ _ _) (meetsH_dict_get_default (tupleKind (mixKind X.prog X.w)) a b hd r) ⟨tupleKind_room_in1 hu, k, xs, key_of I.hok eb, dd, h _ _ (I.tok _) ?_⟩
    rw [l]
    exact (rel.val k).getD rd
end
noncomputable def tDGet2 (td ty tx : TE) : TE := fun σ H Q => td σ H fun x H1 => ∃ a, x = .ref a ∧ IsD H1 a ∧ ty σ H1 fun y H2 => tx σ H2 fun z H3 => ∃ o, DGet H3 a y o ∧ Q (o.getD z) H3
section
variable {X : Cx} {o e f : Expr} {apos cpos : Pos} {td ty tx : TE}
theorem pe_dget2 (hu : X.A.units + 1 < cLine) (ho : PE X o td) (he : PE X e ty) (hf : PE X f tx) (m : M2 X o "get" apos e f cpos) : PE X (.Call (.Attribute o "get" apos) [e, f] [] cpos) (tDGet2 td ty tx) := by
  intro pins s σ H Q I h
  refine wpAny_Call_method m.base m.few m.line PySem.F.plainAttrs_dict PySem.F.slot_dict_get PySem.F.type_dict_get (thn (ho pins s σ H _ I h) fun u s1 ⟨x, H1, I1, rx, a, ex, d, q1⟩ => ?_)
  subst ex
  obtain rfl : u = Value.ref a := rx
  obtain ⟨t1, t2, _⟩ := isD_at I1 d
  refine ⟨t1, t2, ?_⟩
  rw [m.trees]
  refine Calls.callWith_builtin rfl (Calls.evalArgs_plain (Calls.spliced_cons (thn (he pins s1 σ H1 _ I1 q1) fun iv s2 ⟨y, H2, I2, ry, q2⟩ =>
    Calls.spliced_cons (thn (hf pins s2 σ H2 _ I2 q2) fun fv s3 ⟨z, H3, I3, rz, ov, g, q3⟩ => Calls.spliced_nil ?_))))
  exact d_get2 hu I3 g ry rz fun w' s4 I4 rw' => ⟨_, H3, I4, rw', q3⟩
end
section
variable {X : Cx} {pins : List (Addr × Obj)} {σ : St} {H : Hp} {s : Shared} {a : Addr} {kvs : List (Key × V)} {A : Around} {E : Value → Shared → Prop}
end
section
variable {X : Cx} {pins : List (Addr × Obj)} {σ : St} {H : Hp} {s : Shared} {a : Addr} {y : V} {u : Value} {A : Around} {E : Value → Shared → Prop}
end
end L2
namespace DD
open PySem
noncomputable abbrev PV := PyData
inductive Sl where
  | un
  | val (p : PV)
  | own (ps : List PV)
noncomputable abbrev Env := List Sl
inductive Op1 where
  | neg | len | isTup | isList | isInt | isBool | isStr | toList | toTuple | toInt | toStr | rev | all | any | isN | notN | srt | sset | enum
  deriving DecidableEq
inductive Op2 where
  | add | sub | mul | fdiv | mod | pow | eq | ne | lt | le | gt | ge | inn | nin | ix | join | idx
  deriving DecidableEq
inductive E where
  | var (i : Nat)
  | peek (i : Nat)
  | con (p : PV)
  | nil
  | cons (h t : E)
  | tup (a : E)
  | lst (a : E)
  | op1 (o : Op1) (a : E)
  | op2 (o : Op2) (a b : E)
  | sl (a lo hi : E)
  | call (f : Nat) (a : E)
  | and (a b : E)
  | or (a b : E)
  | not (a : E)
  | ite (c a b : E)
  | chain (o o' : Op2) (a b c : E)
  | comp (tg : Option Nat) (caps : List Nat) (it cond elt : E)
  | rng (a : E)
  | rng2 (a b : E)
  | dct (ks : List PV) (vs : E)
  | dgt (a k d : E)
  | lrep (a n : E)
  | skey (caps : List Nat) (it key : E)
inductive Tg where
  | one (i : Nat)
  | many (is : List Nat)
inductive S where
  | nx
  | seq (a b : S)
  | set (i : Nat) (e : E)
  | own (i : Nat) (e : E)
  | asg (t : Tg) (e : E)
  | ret (e : E)
  | ife (c : E) (a b : S)
  | loop (t : Tg) (it : E) (body : S)
  | app (i : Nat) (e : E)
  | ext (i : Nat) (e : E)
  | frz (i : Nat)
  | brk
  | cnt
inductive Out where
  | nx (ρ : Env)
  | rt (p : PV)
  | bk (ρ : Env)
  | ct (ρ : Env)
inductive Tag {A : Type} (f : A) : Type where
  | mk
noncomputable def bnd {α β : Type} (x : Option α) (f : α → Option β) (_t : Tag f := Tag.mk) : Option β := match x with
  | none => none
  | some a => f a
@[simp] theorem bnd_none {α β : Type} (f : α → Option β) (t : Tag f) : bnd none f t = none := rfl
@[simp] theorem bnd_some {α β : Type} (a : α) (f : α → Option β) (t : Tag f) : bnd (some a) f t = f a := rfl
theorem bnd_eq {α β : Type} {x : Option α} {f : α → Option β} {b : β} : bnd x f = some b ↔ ∃ a, x = some a ∧ f a = some b := by
  cases x with
  | none => simp
  | some a => simp
noncomputable def tst {α : Type} (t : Bool) (x y : α) (_a : Tag x := Tag.mk) (_b : Tag y := Tag.mk) : α := match t with
  | true => x
  | false => y
@[simp] theorem tst_true {α : Type} (x y : α) (a : Tag x) (b : Tag y) : tst true x y a b = x := rfl
@[simp] theorem tst_false {α : Type} (x y : α) (a : Tag x) (b : Tag y) : tst false x y a b = y := rfl
noncomputable def truthF : PV → Option Bool
  | .none => some false
  | .bool b => some b
  | .int i => some (i != 0)
  | .str x => some (x.length != 0)
  | .list xs => some (!xs.isEmpty)
  | .tuple xs => some (!xs.isEmpty)
  | .dict _ => none
section
set_option autoImplicit true
@[simp] theorem truthF_e1 : truthF (.none) = some false := rfl
@[simp] theorem truthF_e2 : truthF (.bool b) = some b := rfl
@[simp] theorem truthF_e3 : truthF (.int i) = some (i != 0) := rfl
@[simp] theorem truthF_e4 : truthF (.str x) = some (x.length != 0) := rfl
@[simp] theorem truthF_e5 : truthF (.list xs) = some (!xs.isEmpty) := rfl
@[simp] theorem truthF_e6 : truthF (.tuple xs) = some (!xs.isEmpty) := rfl
@[simp] theorem truthF_e7 : truthF (.dict zu) = none := rfl
end
noncomputable def addF : PV → PV → Option PV
  | .int i, .int j => some (.int (i + j))
  | .str x, .str y => if x.length + y.length ≤ 16777216 then some (.str (x ++ y)) else none
  | .tuple xs, .tuple ys => if xs.length + ys.length ≤ 16777216 then some (.tuple (xs ++ ys)) else none
  | .list xs, .list ys => if xs.length + ys.length ≤ 16777216 then some (.list (xs ++ ys)) else none
  | _, _ => none
section
set_option autoImplicit true
@[simp] theorem addF_e1 : addF (.int i) (.int j) = some (.int (i + j)) := rfl
@[simp] theorem addF_e2 : addF (.str x) (.str y) = if x.length + y.length ≤ 16777216 then some (.str (x ++ y)) else none := rfl
@[simp] theorem addF_e3 : addF (.tuple xs) (.tuple ys) = if xs.length + ys.length ≤ 16777216 then some (.tuple (xs ++ ys)) else none := rfl
@[simp] theorem addF_e4 : addF (.list xs) (.list ys) = if xs.length + ys.length ≤ 16777216 then some (.list (xs ++ ys)) else none := rfl
end
noncomputable def subF : PV → PV → Option PV
  | .int i, .int j => some (.int (i - j))
  | _, _ => none
section
set_option autoImplicit true
@[simp] theorem subF_e1 : subF (.int i) (.int j) = some (.int (i - j)) := rfl
end
noncomputable def small (i : Int) : Bool := decide (-(2 ^ 64) < i) && decide (i < 2 ^ 64)
noncomputable def repL {α : Type} (xs : List α) (n : Int) : List α := (List.replicate n.toNat xs).flatten
noncomputable def mulF : PV → PV → Option PV
  | .int i, .int j => if small i || small j then some (.int (i * j)) else none
  | .tuple xs, .int j => if xs.length * j.toNat ≤ 16777216 ∧ -1000000 < j ∧ j < 16777216 then some (.tuple (repL xs j)) else none
  | _, _ => none
section
set_option autoImplicit true
@[simp] theorem mulF_e1 : mulF (.int i) (.int j) = if small i || small j then some (.int (i * j)) else none := rfl
@[simp] theorem mulF_e2 : mulF (.tuple xs) (.int j) = if xs.length * j.toNat ≤ 16777216 ∧ -1000000 < j ∧ j < 16777216 then some (.tuple (repL xs j)) else none := rfl
end
noncomputable def fdivF : PV → PV → Option PV
  | .int i, .int j => if 0 < j ∧ j < 1073741824 then some (.int (i / j)) else none
  | _, _ => none
section
set_option autoImplicit true
@[simp] theorem fdivF_e1 : fdivF (.int i) (.int j) = if 0 < j ∧ j < 1073741824 then some (.int (i / j)) else none := rfl
end
noncomputable def modF : PV → PV → Option PV
  | .int i, .int j => if 0 < j then some (.int (i % j)) else none
  | _, _ => none
section
set_option autoImplicit true
@[simp] theorem modF_e1 : modF (.int i) (.int j) = if 0 < j then some (.int (i % j)) else none := rfl
end
noncomputable def powF : PV → PV → Option PV
  | .int i, .int j => if i = 10 ∧ 0 ≤ j ∧ j ≤ 64 then some (.int (10 ^ j.toNat)) else none
  | _, _ => none
section
set_option autoImplicit true
@[simp] theorem powF_e1 : powF (.int i) (.int j) = if i = 10 ∧ 0 ≤ j ∧ j ≤ 64 then some (.int (10 ^ j.toNat)) else none := rfl
end
noncomputable def isDict : PV → Bool
  | .dict _ => true
  | _ => false
@[simp] theorem isDict_none : isDict .none = false := by first | exact (eq_of_beq (Eq.refl true)) | rfl
@[simp] theorem isDict_bool (b : Bool) : isDict (.bool b) = false := by first | exact (eq_of_beq (Eq.refl true)) | rfl
@[simp] theorem isDict_int (i : Int) : isDict (.int i) = false := by first | exact (eq_of_beq (Eq.refl true)) | rfl
@[simp] theorem isDict_str (x : Str) : isDict (.str x) = false := by first | exact (eq_of_beq (Eq.refl true)) | rfl
@[simp] theorem isDict_list (xs : List PV) : isDict (.list xs) = false := by first | exact (eq_of_beq (Eq.refl true)) | rfl
@[simp] theorem isDict_tuple (xs : List PV) : isDict (.tuple xs) = false := by first | exact (eq_of_beq (Eq.refl true)) | rfl
@[simp] theorem isDict_dict (kvs : List (PV × PV)) : isDict (.dict kvs) = true := by first | exact (eq_of_beq (Eq.refl true)) | rfl
noncomputable def eqF (p q : PV) : Option Bool := if isDict p || isDict q then none else if min p.depth q.depth ≤ 180 then some (PyData.eqv p q) else none
@[simp] noncomputable def intsOf : List PV → Option (List Int)
  | [] => some []
  | .int i :: r => bnd (intsOf r) fun q => some (i :: q)
  | _ => none
noncomputable def lexLt : List Int → List Int → Bool
  | [], [] => false
  | [], _ :: _ => true
  | _ :: _, [] => false
  | x :: xs, y :: ys => if x = y then lexLt xs ys else decide (x < y)
noncomputable def ltF : PV → PV → Option PV
  | .int i, .int j => some (.bool (decide (i < j)))
  | .tuple xs, .tuple ys => bnd (intsOf xs) fun ns => bnd (intsOf ys) fun ms => some (.bool (lexLt ns ms))
  | _, _ => none
section
set_option autoImplicit true
@[simp] theorem ltF_e1 : ltF (.int i) (.int j) = some (.bool (decide (i < j))) := rfl
@[simp] theorem ltF_e2 : ltF (.tuple xs) (.tuple ys) = bnd (intsOf xs) fun ns => bnd (intsOf ys) fun ms => some (.bool (lexLt ns ms)) := rfl
end
noncomputable def cmpI (f : Int → Int → Bool) : PV → PV → Option PV
  | .int i, .int j => some (.bool (f i j))
  | _, _ => none
section
set_option autoImplicit true
@[simp] theorem cmpI_e1 (f : Int → Int → Bool) : cmpI f (.int i) (.int j) = some (.bool (f i j)) := rfl
end
noncomputable def inF (x : PV) : PV → Option Bool
  | .list ys => if isDict x then none else if min (PyData.depthAll ys) x.depth ≤ 180 then some (ys.any fun y => PyData.eqv y x) else none
  | .tuple ys => if isDict x then none else if min (PyData.depthAll ys) x.depth ≤ 180 then some (ys.any fun y => PyData.eqv y x) else none
  | _ => none
noncomputable def ixN (n : Nat) (i : Int) : Option Nat := if 0 ≤ i then (if i < n then some i.toNat else none) else if -(n : Int) ≤ i then some (i + n).toNat else none
noncomputable def atI {α : Type} (xs : List α) (i : Int) : Option α := (ixN xs.length i).bind fun j => xs[j]?
noncomputable def keyEq : PV → PV → Bool
  | .str a, .str b => a == b
  | .int a, .int b => a == b
  | _, _ => false
noncomputable def isKey : PV → Bool
  | .str _ => true
  | .int _ => true
  | _ => false
section
set_option autoImplicit true
@[simp] theorem isKey_e1 : isKey (.str zu) = true := rfl
@[simp] theorem isKey_e2 : isKey (.int zu) = true := rfl
end
noncomputable def dlook (x : PV) : List (PV × PV) → Option PV
  | [] => none
  | (k, v) :: r => if keyEq k x then some v else dlook x r
noncomputable def ixF : PV → PV → Option PV
  | .dict kvs, x => tst (isKey x) (dlook x kvs) none
  | .tuple xs, .int i => atI xs i
  | .list xs, .int i => atI xs i
  | .str x, .int i => bnd (atI x.cps.toList i) fun c => some (.str ⟨#[c]⟩)
  | _, _ => none
section
set_option autoImplicit true
@[simp] theorem ixF_e1 : ixF (.dict kvs) (x) = tst (isKey x) (dlook x kvs) none := rfl
@[simp] theorem ixF_e2 : ixF (.tuple xs) (.int i) = atI xs i := rfl
@[simp] theorem ixF_e3 : ixF (.list xs) (.int i) = atI xs i := rfl
@[simp] theorem ixF_e4 : ixF (.str x) (.int i) = bnd (atI x.cps.toList i) fun c => some (.str ⟨#[c]⟩) := rfl
end
@[simp] noncomputable def strsOf : List PV → Option (List Str)
  | [] => some []
  | .str x :: r => bnd (strsOf r) fun q => some (x :: q)
  | _ => none
noncomputable def joinS (sep : Str) : List Str → Str
  | [] => ⟨#[]⟩
  | [x] => x
  | x :: y :: r => x ++ sep ++ joinS sep (y :: r)
noncomputable def joinF : PV → PV → Option PV
  | .str sep, .list ys => bnd (strsOf ys) fun xs => if (xs.map Str.length).sum + xs.length * sep.length ≤ 16777216 then some (.str (joinS sep xs)) else none
  | _, _ => none
section
set_option autoImplicit true
@[simp] theorem joinF_e1 : joinF (.str sep) (.list ys) = bnd (strsOf ys) fun xs => if (xs.map Str.length).sum + xs.length * sep.length ≤ 16777216 then some (.str (joinS sep xs)) else none := rfl
end
@[simp] noncomputable def tupsOf : List PV → Option (List (List Int))
  | [] => some []
  | .tuple xs :: r => bnd (intsOf xs) fun x => bnd (tupsOf r) fun q => some (x :: q)
  | _ => none
noncomputable def insL {α : Type} (lt : α → α → Bool) (x : α) : List α → List α
  | [] => [x]
  | y :: r => if lt y x then y :: insL lt x r else x :: y :: r
noncomputable def srtL {α : Type} (lt : α → α → Bool) : List α → List α
  | [] => []
  | x :: r => insL lt x (srtL lt r)
noncomputable def ltI (i j : Int) : Bool := decide (i < j)
noncomputable def intsPv (ns : List Int) : List PV := ns.map .int
noncomputable def tupsPv (ns : List (List Int)) : List PV := ns.map fun t => .tuple (intsPv t)
noncomputable def dup {α : Type} [BEq α] : List α → List α
  | [] => []
  | x :: r => if r.contains x then dup r else x :: dup r
noncomputable def full64 : List (List Int) := (List.range 16).flatMap fun k => [[(k / 4 : Nat), (k % 4 : Nat)], [(k / 4 : Nat), (k % 4 + 4 : Nat)], [(k / 4 + 4 : Nat), (k % 4 : Nat)], [(k / 4 + 4 : Nat), (k % 4 + 4 : Nat)]]
noncomputable def srtF : List PV → Option PV
  | [] => some (.list [])
  | .int i :: r => bnd (intsOf (.int i :: r)) fun ns => tst (decide (ns.length < 64)) (some (.list (intsPv (srtL ltI ns)))) none
  | .tuple t :: r => bnd (tupsOf (.tuple t :: r)) fun ns => tst ((decide (ns.length < 64) || decide (ns = full64)) && ns.all fun n => !n.isEmpty) (some (.list (tupsPv (srtL lexLt ns)))) none
  | _ => none
noncomputable def enumF : List PV → Nat → List PV
  | [], _ => []
  | x :: xs, k => .tuple [.int (k : Nat), x] :: enumF xs (k + 1)
noncomputable def srtK (ns : List Int) (xs : List PV) : List PV := (srtL (fun (a b : Int × PV) => ltI a.1 b.1) (ns.zip xs)).map (·.2)
noncomputable def idxL (x : PV) : List PV → Nat → Option Nat
  | [], _ => none
  | y :: r, k => if PyData.eqv y x then some k else idxL x r (k + 1)
noncomputable def idxF : PV → PV → Option PV
  | .list ys, x => if isDict x then none else if min (PyData.depthAll ys) x.depth ≤ 180 then bnd (idxL x ys 0) fun k => some (.int (k : Nat)) else none
  | _, _ => none
@[simp] theorem idxF_e1 (ys : List PV) (x : PV) : idxF (.list ys) x = if isDict x then none else if min (PyData.depthAll ys) x.depth ≤ 180 then bnd (idxL x ys 0) fun k => some (.int (k : Nat)) else none := rfl
noncomputable def ssF : List PV → Option PV
  | [] => some (.list [])
  | .int i :: r => bnd (intsOf (.int i :: r)) fun ns => tst (decide ((dup ns).length < 64)) (some (.list (intsPv (srtL ltI (dup ns))))) none
  | .tuple t :: r => bnd (tupsOf (.tuple t :: r)) fun ns => tst (decide ((dup ns).length < 64) && ns.all fun n => !n.isEmpty) (some (.list (tupsPv (srtL lexLt (dup ns))))) none
  | _ => none
noncomputable def seqOf : PV → Option (List PV)
  | .list xs => some xs
  | .tuple xs => some xs
  | _ => none
section
set_option autoImplicit true
@[simp] theorem seqOf_e1 : seqOf (.list xs) = some xs := rfl
@[simp] theorem seqOf_e2 : seqOf (.tuple xs) = some xs := rfl
end
@[simp] noncomputable def truths : List PV → Option (List Bool)
  | [] => some []
  | .bool b :: r => bnd (truths r) fun q => some (b :: q)
  | _ => none
noncomputable def tupB : PV → Bool
  | .tuple _ => true
  | _ => false
@[simp] theorem tupB_none  : tupB .none = false := by first | exact (eq_of_beq (Eq.refl true)) | rfl
@[simp] theorem tupB_bool (b : Bool) : tupB (.bool b) = false := by first | exact (eq_of_beq (Eq.refl true)) | rfl
@[simp] theorem tupB_int (i : Int) : tupB (.int i) = false := by first | exact (eq_of_beq (Eq.refl true)) | rfl
@[simp] theorem tupB_str (x : Str) : tupB (.str x) = false := by first | exact (eq_of_beq (Eq.refl true)) | rfl
@[simp] theorem tupB_list (xs : List PV) : tupB (.list xs) = false := by first | exact (eq_of_beq (Eq.refl true)) | rfl
@[simp] theorem tupB_tuple (xs : List PV) : tupB (.tuple xs) = true := by first | exact (eq_of_beq (Eq.refl true)) | rfl
noncomputable def lstB : PV → Bool
  | .list _ => true
  | _ => false
@[simp] theorem lstB_none  : lstB .none = false := by first | exact (eq_of_beq (Eq.refl true)) | rfl
@[simp] theorem lstB_bool (b : Bool) : lstB (.bool b) = false := by first | exact (eq_of_beq (Eq.refl true)) | rfl
@[simp] theorem lstB_int (i : Int) : lstB (.int i) = false := by first | exact (eq_of_beq (Eq.refl true)) | rfl
@[simp] theorem lstB_str (x : Str) : lstB (.str x) = false := by first | exact (eq_of_beq (Eq.refl true)) | rfl
@[simp] theorem lstB_list (xs : List PV) : lstB (.list xs) = true := by first | exact (eq_of_beq (Eq.refl true)) | rfl
@[simp] theorem lstB_tuple (xs : List PV) : lstB (.tuple xs) = false := by first | exact (eq_of_beq (Eq.refl true)) | rfl
noncomputable def intB : PV → Bool
  | .int _ => true
  | .bool _ => true
  | _ => false
@[simp] theorem intB_none  : intB .none = false := by first | exact (eq_of_beq (Eq.refl true)) | rfl
@[simp] theorem intB_bool (b : Bool) : intB (.bool b) = true := by first | exact (eq_of_beq (Eq.refl true)) | rfl
@[simp] theorem intB_int (i : Int) : intB (.int i) = true := by first | exact (eq_of_beq (Eq.refl true)) | rfl
@[simp] theorem intB_str (x : Str) : intB (.str x) = false := by first | exact (eq_of_beq (Eq.refl true)) | rfl
@[simp] theorem intB_list (xs : List PV) : intB (.list xs) = false := by first | exact (eq_of_beq (Eq.refl true)) | rfl
@[simp] theorem intB_tuple (xs : List PV) : intB (.tuple xs) = false := by first | exact (eq_of_beq (Eq.refl true)) | rfl
noncomputable def boolB : PV → Bool
  | .bool _ => true
  | _ => false
@[simp] theorem boolB_none  : boolB .none = false := by first | exact (eq_of_beq (Eq.refl true)) | rfl
@[simp] theorem boolB_bool (b : Bool) : boolB (.bool b) = true := by first | exact (eq_of_beq (Eq.refl true)) | rfl
@[simp] theorem boolB_int (i : Int) : boolB (.int i) = false := by first | exact (eq_of_beq (Eq.refl true)) | rfl
@[simp] theorem boolB_str (x : Str) : boolB (.str x) = false := by first | exact (eq_of_beq (Eq.refl true)) | rfl
@[simp] theorem boolB_list (xs : List PV) : boolB (.list xs) = false := by first | exact (eq_of_beq (Eq.refl true)) | rfl
@[simp] theorem boolB_tuple (xs : List PV) : boolB (.tuple xs) = false := by first | exact (eq_of_beq (Eq.refl true)) | rfl
noncomputable def strB : PV → Bool
  | .str _ => true
  | _ => false
@[simp] theorem strB_none  : strB .none = false := by first | exact (eq_of_beq (Eq.refl true)) | rfl
@[simp] theorem strB_bool (b : Bool) : strB (.bool b) = false := by first | exact (eq_of_beq (Eq.refl true)) | rfl
@[simp] theorem strB_int (i : Int) : strB (.int i) = false := by first | exact (eq_of_beq (Eq.refl true)) | rfl
@[simp] theorem strB_str (x : Str) : strB (.str x) = true := by first | exact (eq_of_beq (Eq.refl true)) | rfl
@[simp] theorem strB_list (xs : List PV) : strB (.list xs) = false := by first | exact (eq_of_beq (Eq.refl true)) | rfl
@[simp] theorem strB_tuple (xs : List PV) : strB (.tuple xs) = false := by first | exact (eq_of_beq (Eq.refl true)) | rfl
noncomputable def nonB : PV → Bool
  | .none => true
  | _ => false
@[simp] theorem nonB_none  : nonB .none = true := by first | exact (eq_of_beq (Eq.refl true)) | rfl
@[simp] theorem nonB_bool (b : Bool) : nonB (.bool b) = false := by first | exact (eq_of_beq (Eq.refl true)) | rfl
@[simp] theorem nonB_int (i : Int) : nonB (.int i) = false := by first | exact (eq_of_beq (Eq.refl true)) | rfl
@[simp] theorem nonB_str (x : Str) : nonB (.str x) = false := by first | exact (eq_of_beq (Eq.refl true)) | rfl
@[simp] theorem nonB_list (xs : List PV) : nonB (.list xs) = false := by first | exact (eq_of_beq (Eq.refl true)) | rfl
@[simp] theorem nonB_tuple (xs : List PV) : nonB (.tuple xs) = false := by first | exact (eq_of_beq (Eq.refl true)) | rfl
noncomputable def intStr (i : Int) : Str := (toString i : String)
noncomputable def opF1 : Op1 → PV → Option PV
  | .neg, .int i => some (.int (-i))
  | .len, .tuple xs => some (.int xs.length)
  | .len, .list xs => some (.int xs.length)
  | .len, .str x => some (.int x.length)
  | .isTup, p => tst (isDict p) none (some (.bool (tupB p)))
  | .isList, p => tst (isDict p) none (some (.bool (lstB p)))
  | .isInt, p => tst (isDict p) none (some (.bool (intB p)))
  | .isBool, p => tst (isDict p) none (some (.bool (boolB p)))
  | .isStr, p => tst (isDict p) none (some (.bool (strB p)))
  | .toList, .tuple xs => some (.list xs)
  | .toList, .list xs => some (.list xs)
  | .toTuple, .tuple xs => some (.tuple xs)
  | .toTuple, .list xs => some (.tuple xs)
  | .toInt, .bool b => some (.int (if b then 1 else 0))
  | .toInt, .int i => some (.int i)
  | .toStr, .int i => if i.natAbs < 2 ^ 64 then some (.str (intStr i)) else none
  | .rev, .tuple xs => some (.tuple xs.reverse)
  | .all, .list xs => bnd (truths xs) fun bs => some (.bool (bs.all id))
  | .any, .list xs => bnd (truths xs) fun bs => some (.bool (bs.any id))
  | .srt, .list xs => srtF xs
  | .srt, .tuple xs => srtF xs
  | .sset, .tuple xs => ssF xs
  | .enum, .tuple xs => some (.list (enumF xs 0))
  | .isN, p => some (.bool (nonB p))
  | .notN, p => some (.bool (!nonB p))
  | _, _ => none
section
set_option autoImplicit true
@[simp] theorem opF1_e1 : opF1 (.neg) (.int i) = some (.int (-i)) := rfl
@[simp] theorem opF1_e2 : opF1 (.len) (.tuple xs) = some (.int xs.length) := rfl
@[simp] theorem opF1_e3 : opF1 (.len) (.list xs) = some (.int xs.length) := rfl
@[simp] theorem opF1_e4 : opF1 (.len) (.str x) = some (.int x.length) := rfl
@[simp] theorem opF1_e5 : opF1 (.isTup) (p) = tst (isDict p) none (some (.bool (tupB p))) := rfl
@[simp] theorem opF1_e6 : opF1 (.isList) (p) = tst (isDict p) none (some (.bool (lstB p))) := rfl
@[simp] theorem opF1_e7 : opF1 (.isInt) (p) = tst (isDict p) none (some (.bool (intB p))) := rfl
@[simp] theorem opF1_e8 : opF1 (.isBool) (p) = tst (isDict p) none (some (.bool (boolB p))) := rfl
@[simp] theorem opF1_e9 : opF1 (.isStr) (p) = tst (isDict p) none (some (.bool (strB p))) := rfl
@[simp] theorem opF1_e10 : opF1 (.toList) (.tuple xs) = some (.list xs) := rfl
@[simp] theorem opF1_e11 : opF1 (.toList) (.list xs) = some (.list xs) := rfl
@[simp] theorem opF1_e12 : opF1 (.toTuple) (.tuple xs) = some (.tuple xs) := rfl
@[simp] theorem opF1_e13 : opF1 (.toTuple) (.list xs) = some (.tuple xs) := rfl
@[simp] theorem opF1_e14 : opF1 (.toInt) (.bool b) = some (.int (if b then 1 else 0)) := rfl
@[simp] theorem opF1_e15 : opF1 (.toInt) (.int i) = some (.int i) := rfl
@[simp] theorem opF1_e16 : opF1 (.toStr) (.int i) = if i.natAbs < 2 ^ 64 then some (.str (intStr i)) else none := rfl
@[simp] theorem opF1_e17 : opF1 (.rev) (.tuple xs) = some (.tuple xs.reverse) := rfl
@[simp] theorem opF1_e19 : opF1 (.all) (.list xs) = bnd (truths xs) fun bs => some (.bool (bs.all id)) := rfl
@[simp] theorem opF1_e20 : opF1 (.any) (.list xs) = bnd (truths xs) fun bs => some (.bool (bs.any id)) := rfl
@[simp] theorem opF1_e21 : opF1 (.srt) (.list xs) = srtF xs := rfl
@[simp] theorem opF1_e22 : opF1 (.srt) (.tuple xs) = srtF xs := rfl
@[simp] theorem opF1_e24 : opF1 (.sset) (.tuple xs) = ssF xs := rfl
@[simp] theorem opF1_e27 : opF1 (.enum) (.tuple xs) = some (.list (enumF xs 0)) := rfl
@[simp] theorem opF1_e25 : opF1 (.isN) (p) = some (.bool (nonB p)) := rfl
@[simp] theorem opF1_e26 : opF1 (.notN) (p) = some (.bool (!nonB p)) := rfl
end
@[simp] noncomputable def opF2 : Op2 → PV → PV → Option PV
  | .add => addF
  | .sub => subF
  | .mul => mulF
  | .fdiv => fdivF
  | .mod => modF
  | .pow => powF
  | .eq => fun p q => bnd (eqF p q) fun b => some (.bool b)
  | .ne => fun p q => bnd (eqF p q) fun b => some (.bool (!b))
  | .lt => ltF
  | .le => cmpI fun i j => decide (i ≤ j)
  | .gt => cmpI fun i j => decide (j < i)
  | .ge => cmpI fun i j => decide (j ≤ i)
  | .inn => fun p q => bnd (inF p q) fun b => some (.bool b)
  | .nin => fun p q => bnd (inF p q) fun b => some (.bool (!b))
  | .ix => ixF
  | .join => joinF
  | .idx => idxF
noncomputable def sIx (n d : Nat) : Option Int → Nat
  | none => d
  | some v => if v < 0 then (v + (n : Int)).toNat else min v.toNat n
noncomputable def cut {α : Type} (xs : List α) (lo hi : Option Int) : List α := (xs.drop (sIx xs.length 0 lo)).take (sIx xs.length xs.length hi - sIx xs.length 0 lo)
noncomputable def partF : PV → Option (Option Int)
  | .none => some none
  | .int i => some (some i)
  | _ => none
section
set_option autoImplicit true
@[simp] theorem partF_e1 : partF (.none) = some none := rfl
@[simp] theorem partF_e2 : partF (.int i) = some (some i) := rfl
end
noncomputable def cutF (l h : Option Int) : PV → Option PV
  | .tuple xs => some (.tuple (cut xs l h))
  | .list xs => some (.list (cut xs l h))
  | _ => none
section
set_option autoImplicit true
@[simp] theorem cutF_e1 (l h : Option Int) : cutF l h (.tuple xs) = some (.tuple (cut xs l h)) := rfl
@[simp] theorem cutF_e2 (l h : Option Int) : cutF l h (.list xs) = some (.list (cut xs l h)) := rfl
end
@[simp] noncomputable def slF (x lo hi : PV) : Option PV := bnd (partF lo) fun l => bnd (partF hi) fun h => cutF l h x
@[simp] noncomputable def rngF (lo hi : Int) : Option PV := if -1000000 ≤ lo ∧ lo ≤ 1000000 ∧ -1000000 ≤ hi ∧ hi ≤ 1000000 then some (.list ((List.range (hi - lo).toNat).map fun k => .int (lo + (k : Nat)))) else none
noncomputable def Sl.get : Sl → Option PV
  | .val p => some p
  | _ => none
section
set_option autoImplicit true
@[simp] theorem Sl_get_e1 : Sl.get (.val p) = some p := rfl
end
noncomputable def Sl.look : Sl → Option PV
  | .val p => some p
  | .own ps => some (.list ps)
  | .un => none
section
set_option autoImplicit true
@[simp] theorem Sl_look_e1 : Sl.look (.val p) = some p := rfl
@[simp] theorem Sl_look_e2 : Sl.look (.own ps) = some (.list ps) := rfl
@[simp] theorem Sl_look_e3 : Sl.look (.un) = none := rfl
end
noncomputable def bindT : Option Nat → PV → Option (List Sl)
  | none, p => some [.val p]
  | some n, .tuple xs => if xs.length = n then some (xs.map .val) else none
  | _, _ => none
section
set_option autoImplicit true
@[simp] theorem bindT_e1 : bindT (none) (p) = some [.val p] := rfl
@[simp] theorem bindT_e2 : bindT (some n) (.tuple xs) = if xs.length = n then some (xs.map .val) else none := rfl
end
@[simp] noncomputable def addO : Option PV → List PV → List PV
  | some y, r => y :: r
  | none, r => r
noncomputable def compF (g : PV → Option (Option PV)) : List PV → Option (List PV)
  | [] => some []
  | x :: xs => bnd (g x) fun o => bnd (compF g xs) fun r => some (addO o r)
noncomputable def consF (x : PV) : PV → Option PV
  | .tuple xs => some (.tuple (x :: xs))
  | _ => none
section
set_option autoImplicit true
@[simp] theorem consF_e1 (x : PV) : consF x (.tuple xs) = some (.tuple (x :: xs)) := rfl
end
noncomputable def lrepF : PV → PV → Option PV
  | .list xs, .int j => if xs.length * j.toNat ≤ 16777216 ∧ -1000000 < j ∧ j < 16777216 then some (.list (repL xs j)) else none
  | _, _ => none
@[simp] theorem lrepF_e (xs : List PV) (j : Int) : lrepF (.list xs) (.int j) = if xs.length * j.toNat ≤ 16777216 ∧ -1000000 < j ∧ j < 16777216 then some (.list (repL xs j)) else none := rfl
@[simp] noncomputable def anyD : List PV → Bool
  | [] => false
  | x :: r => isDict x || anyD r
noncomputable def lstF : PV → Option PV
  | .tuple xs => tst (anyD xs) none (some (.list xs))
  | _ => none
section
set_option autoImplicit true
@[simp] theorem lstF_e1 : lstF (.tuple xs) = tst (anyD xs) none (some (.list xs)) := rfl
end
noncomputable def tupF : PV → Option PV
  | .tuple xs => tst (anyD xs) none (some (.tuple xs))
  | _ => none
section
set_option autoImplicit true
@[simp] theorem tupF_e1 : tupF (.tuple xs) = tst (anyD xs) none (some (.tuple xs)) := rfl
end
noncomputable def dctF (ks : List PV) : PV → Option PV
  | .tuple xs => tst (anyD xs || ks.length != xs.length) none (some (.dict (ks.zip xs)))
  | _ => none
section
set_option autoImplicit true
@[simp] theorem dctF_e1 (ks : List PV) : dctF ks (.tuple xs) = tst (anyD xs || ks.length != xs.length) none (some (.dict (ks.zip xs))) := rfl
end
noncomputable def dgtF (x d : PV) : PV → Option PV
  | .dict kvs => tst (isKey x) (some ((dlook x kvs).getD d)) none
  | _ => none
section
set_option autoImplicit true
@[simp] theorem dgtF_e1 (x d : PV) : dgtF x d (.dict kvs) = tst (isKey x) (some ((dlook x kvs).getD d)) none := rfl
end
noncomputable def eltF (y : PV) : Option (Option PV) := tst (isDict y) none (some (some y))
@[simp] theorem eltF_e1 (y : PV) : eltF y = tst (isDict y) none (some (some y)) := rfl
noncomputable def callF (cf : Nat → List PV → Option PV) (f : Nat) : PV → Option PV
  | .tuple xs => cf f xs
  | _ => none
section
set_option autoImplicit true
@[simp] theorem callF_e1 (cf : Nat → List PV → Option PV) (f : Nat) : callF cf f (.tuple xs) = cf f xs := rfl
end
noncomputable def chainF (k : Unit → Option PV) : PV → Option PV
  | .bool true => k ()
  | .bool false => some (.bool false)
  | _ => none
section
set_option autoImplicit true
@[simp] theorem chainF_e1 (k : Unit → Option PV) : chainF k (.bool true) = k () := rfl
@[simp] theorem chainF_e2 (k : Unit → Option PV) : chainF k (.bool false) = some (.bool false) := rfl
end
noncomputable def rngI : PV → PV → Option PV
  | .int m, .int n => rngF m n
  | _, _ => none
section
set_option autoImplicit true
@[simp] theorem rngI_e1 : rngI (.int m) (.int n) = rngF m n := rfl
end
@[simp] noncomputable def evE (cf : Nat → List PV → Option PV) : E → Env → Option PV
  | .var i, ρ => bnd ρ[i]? Sl.get
  | .peek i, ρ => bnd ρ[i]? Sl.look
  | .con p, _ => some p
  | .nil, _ => some (.tuple [])
  | .cons h t, ρ => bnd (evE cf h ρ) fun x => bnd (evE cf t ρ) (consF x)
  | .tup a, ρ => bnd (evE cf a ρ) tupF
  | .lst a, ρ => bnd (evE cf a ρ) lstF
  | .op1 o a, ρ => bnd (evE cf a ρ) (opF1 o)
  | .op2 o a b, ρ => bnd (evE cf a ρ) fun x => bnd (evE cf b ρ) fun y => opF2 o x y
  | .sl a lo hi, ρ => bnd (evE cf a ρ) fun x => bnd (evE cf lo ρ) fun l => bnd (evE cf hi ρ) fun h => slF x l h
  | .call f a, ρ => bnd (evE cf a ρ) (callF cf f)
  | .and a b, ρ => bnd (evE cf a ρ) fun x => bnd (truthF x) fun t => tst t (evE cf b ρ) (some x)
  | .or a b, ρ => bnd (evE cf a ρ) fun x => bnd (truthF x) fun t => tst t (some x) (evE cf b ρ)
  | .not a, ρ => bnd (evE cf a ρ) fun x => bnd (truthF x) fun t => some (.bool (!t))
  | .ite c a b, ρ => bnd (evE cf c ρ) fun x => bnd (truthF x) fun t => tst t (evE cf a ρ) (evE cf b ρ)
  | .chain o o' a b c, ρ => bnd (evE cf a ρ) fun x => bnd (evE cf b ρ) fun y => bnd (opF2 o x y) (chainF fun _ => bnd (evE cf c ρ) fun z => opF2 o' y z)
  | .comp tg caps it cond elt, ρ => bnd (evE cf it ρ) fun s => bnd (seqOf s) fun xs =>
    bnd (compF (fun x => bnd (bindT tg x) fun bs => bnd (evE cf cond (bs ++ caps.map (ρ.getD · .un))) fun c => bnd (truthF c) fun t =>
      tst t (bnd (evE cf elt (bs ++ caps.map (ρ.getD · .un))) eltF) (some none)) xs) fun r => some (.list r)
  | .rng a, ρ => bnd (evE cf a ρ) fun x => rngI (.int 0) x
  | .rng2 a b, ρ => bnd (evE cf a ρ) fun x => bnd (evE cf b ρ) fun y => rngI x y
  | .dct ks vs, ρ => bnd (evE cf vs ρ) (dctF ks)
  | .dgt a k d, ρ => bnd (evE cf a ρ) fun x => bnd (evE cf k ρ) fun y => bnd (evE cf d ρ) fun z => dgtF y z x
  | .lrep a n, ρ => bnd (bnd (evE cf a ρ) lstF) fun x => bnd (evE cf n ρ) fun y => lrepF x y
  | .skey caps it key, ρ => bnd (evE cf it ρ) fun s => bnd (seqOf s) fun xs =>
    bnd (compF (fun x => bnd (evE cf key (.val x :: caps.map (ρ.getD · .un))) eltF) xs) fun ks => bnd (intsOf ks) fun ns => tst (decide (xs.length < 64)) (some (.list (srtK ns xs))) none
@[simp] noncomputable def setMany : List Nat → List PV → Env → Option Env
  | [], [], ρ => some ρ
  | i :: is, x :: xs, ρ => setMany is xs (ρ.set i (.val x))
  | _, _, _ => none
noncomputable def bindS : Tg → PV → Env → Option Env
  | .one i, p, ρ => some (ρ.set i (.val p))
  | .many is, .tuple xs, ρ => setMany is xs ρ
  | .many _, _, _ => none
section
set_option autoImplicit true
@[simp] theorem bindS_e1 : bindS (.one i) (p) (ρ) = some (ρ.set i (.val p)) := rfl
@[simp] theorem bindS_e2 : bindS (.many is) (.tuple xs) (ρ) = setMany is xs ρ := rfl
end
noncomputable def seqO (x : Option Out) (f : Env → Option Out) (_t : Tag f := Tag.mk) : Option Out := match x with
  | none => none
  | some (.nx ρ) => f ρ
  | some o => some o
@[simp] theorem seqO_none (f : Env → Option Out) (t : Tag f) : seqO none f t = none := rfl
@[simp] theorem seqO_nx (ρ : Env) (f : Env → Option Out) (t : Tag f) : seqO (some (.nx ρ)) f t = f ρ := rfl
@[simp] theorem seqO_rt (p : PV) (f : Env → Option Out) (t : Tag f) : seqO (some (.rt p)) f t = some (.rt p) := rfl
@[simp] theorem seqO_bk (ρ : Env) (f : Env → Option Out) (t : Tag f) : seqO (some (.bk ρ)) f t = some (.bk ρ) := rfl
@[simp] theorem seqO_ct (ρ : Env) (f : Env → Option Out) (t : Tag f) : seqO (some (.ct ρ)) f t = some (.ct ρ) := rfl
noncomputable def turnO (x : Option Out) (f : Env → Option Out) (_t : Tag f := Tag.mk) : Option Out := match x with
  | none => none
  | some (.nx ρ) => f ρ
  | some (.ct ρ) => f ρ
  | some (.bk ρ) => some (.nx ρ)
  | some (.rt p) => some (.rt p)
@[simp] theorem turnO_none (f : Env → Option Out) (t : Tag f) : turnO none f t = none := rfl
@[simp] theorem turnO_nx (ρ : Env) (f : Env → Option Out) (t : Tag f) : turnO (some (.nx ρ)) f t = f ρ := rfl
@[simp] theorem turnO_rt (p : PV) (f : Env → Option Out) (t : Tag f) : turnO (some (.rt p)) f t = some (.rt p) := rfl
@[simp] theorem turnO_bk (ρ : Env) (f : Env → Option Out) (t : Tag f) : turnO (some (.bk ρ)) f t = some (.nx ρ) := rfl
@[simp] theorem turnO_ct (ρ : Env) (f : Env → Option Out) (t : Tag f) : turnO (some (.ct ρ)) f t = f ρ := rfl
noncomputable def loopF (tg : Tg) (g : Env → Option Out) : List PV → Env → Option Out
  | [], ρ => some (.nx ρ)
  | x :: xs, ρ => bnd (bindS tg x ρ) fun ρ1 => turnO (g ρ1) fun ρ2 => loopF tg g xs ρ2
noncomputable def ownF (i : Nat) (ρ : Env) : PV → Option Out
  | .list ps => some (.nx (ρ.set i (.own ps)))
  | _ => none
section
set_option autoImplicit true
@[simp] theorem ownF_e1 (i : Nat) (ρ : Env) : ownF i ρ (.list ps) = some (.nx (ρ.set i (.own ps))) := rfl
end
noncomputable def appF (i : Nat) (ρ : Env) (p : PV) : Sl → Option Out
  | .own ps => if ps.length < 1000000 ∧ isDict p = false then some (.nx (ρ.set i (.own (ps ++ [p])))) else none
  | _ => none
section
set_option autoImplicit true
@[simp] theorem appF_e1 (i : Nat) (ρ : Env) (p : PV) : appF i ρ p (.own ps) = if ps.length < 1000000 ∧ isDict p = false then some (.nx (ρ.set i (.own (ps ++ [p])))) else none := rfl
end
noncomputable def extF (i : Nat) (ρ : Env) (xs : List PV) : Sl → Option Out
  | .own ps => if ps.length + xs.length < 1000000 then some (.nx (ρ.set i (.own (ps ++ xs)))) else none
  | _ => none
@[simp] theorem extF_e1 (i : Nat) (ρ : Env) (xs ps : List PV) : extF i ρ xs (.own ps) = if ps.length + xs.length < 1000000 then some (.nx (ρ.set i (.own (ps ++ xs)))) else none := rfl
noncomputable def frzF (i : Nat) (ρ : Env) : Sl → Option Out
  | .own ps => some (.nx (ρ.set i (.val (.list ps))))
  | _ => some (.nx ρ)
section
set_option autoImplicit true
@[simp] theorem frzF_e1 (i : Nat) (ρ : Env) : frzF i ρ (.own ps) = some (.nx (ρ.set i (.val (.list ps)))) := rfl
end
@[simp] noncomputable def evS (cf : Nat → List PV → Option PV) : S → Env → Option Out
  | .nx, ρ => some (.nx ρ)
  | .seq a b, ρ => seqO (evS cf a ρ) fun ρ1 => evS cf b ρ1
  | .set i e, ρ => bnd (evE cf e ρ) fun p => some (.nx (ρ.set i (.val p)))
  | .own i e, ρ => bnd (evE cf e ρ) (ownF i ρ)
  | .asg t e, ρ => bnd (evE cf e ρ) fun p => bnd (bindS t p ρ) fun ρ1 => some (.nx ρ1)
  | .ret e, ρ => bnd (evE cf e ρ) fun p => some (.rt p)
  | .ife c a b, ρ => bnd (evE cf c ρ) fun x => bnd (truthF x) fun t => tst t (evS cf a ρ) (evS cf b ρ)
  | .loop t it body, ρ => bnd (evE cf it ρ) fun s => bnd (seqOf s) fun xs => loopF t (evS cf body) xs ρ
  | .app i e, ρ => bnd (evE cf e ρ) fun p => bnd ρ[i]? (appF i ρ p)
  | .ext i e, ρ => bnd (evE cf e ρ) fun p => bnd (seqOf p) fun xs => bnd ρ[i]? (extF i ρ xs)
  | .frz i, ρ => bnd ρ[i]? (frzF i ρ)
  | .brk, ρ => some (.bk ρ)
  | .cnt, ρ => some (.ct ρ)
structure Fn where
  np : Nat
  ns : Nat
  body : S
noncomputable def outV : Option Out → Option PV
  | some (.rt p) => some p
  | some (.nx _) => some .none
  | _ => none
section
set_option autoImplicit true
@[simp] theorem outV_e1 : outV (some (.rt p)) = some p := rfl
@[simp] theorem outV_e2 : outV (some (.nx zu)) = some .none := rfl
end
@[simp] noncomputable def start (F : Fn) (args : List PV) : Env := args.map .val ++ List.replicate (F.ns - F.np) .un
noncomputable abbrev Tab := Nat → Option Fn
noncomputable def run (T : Tab) : Nat → Nat → List PV → Option PV
  | 0, _, _ => none
  | k + 1, f, args => match T f with
    | none => none
    | some F => if args.length = F.np then outV (evS (run T k) F.body (start F args)) else none
end DD
set_option maxRecDepth 100000
namespace DD
open PySem
theorem run_succ {T : Tab} {k f : Nat} {args : List PV} {F : Fn} (h : T f = some F) (hl : args.length = F.np) :
    run T (k + 1) f args = outV (evS (run T k) F.body (start F args)) := by
  simp only [run, h, hl, if_true]
noncomputable def Le (cf cf' : Nat → List PV → Option PV) : Prop := ∀ f xs p, cf f xs = some p → cf' f xs = some p
theorem bind_le {α β : Type} {x x' : Option α} {g g' : α → Option β} {q : β} (hx : ∀ a, x = some a → x' = some a) (hg : ∀ a, g a = some q → g' a = some q)
    (h : bnd x g = some q) : bnd x' g' = some q := by
  cases hxa : x with
  | none => rw [hxa] at h; cases h
  | some a => rw [hxa] at h; rw [hx a hxa]; exact hg a h
theorem compF_le {g g' : PV → Option (Option PV)} (hg : ∀ x o, g x = some o → g' x = some o) : ∀ (xs r : List PV), compF g xs = some r → compF g' xs = some r
  | [], r, h => h
  | x :: xs, r, h => by
    unfold compF at h ⊢
    refine bind_le (hg x) (fun o h => ?_) h
    exact bind_le (compF_le hg xs) (fun _ h => h) h
theorem evE_le {cf cf' : Nat → List PV → Option PV} (hc : Le cf cf') : ∀ (e : E) (ρ : Env) (p : PV), evE cf e ρ = some p → evE cf' e ρ = some p := by
  intro e
  induction e with
  | var i => intro ρ p h; exact h
  | peek i => intro ρ p h; exact h
  | con q => intro ρ p h; exact h
  | nil => intro ρ p h; exact h
  | cons a t iha iht => intro ρ p h; exact bind_le (iha ρ) (fun x h => bind_le (iht ρ) (fun r h => h) h) h
  | tup a iha => intro ρ p h; exact bind_le (iha ρ) (fun r h => h) h
  | lst a iha => intro ρ p h; exact bind_le (iha ρ) (fun r h => h) h
  | op1 o a iha => intro ρ p h; exact bind_le (iha ρ) (fun r h => h) h
  | op2 o a b iha ihb => intro ρ p h; exact bind_le (iha ρ) (fun x h => bind_le (ihb ρ) (fun r h => h) h) h
  | sl a lo hi iha ihl ihh => intro ρ p h; exact bind_le (iha ρ) (fun x h => bind_le (ihl ρ) (fun r h => bind_le (ihh ρ) (fun r h => h) h) h) h
  | call f a iha =>
    intro ρ p h
    refine bind_le (iha ρ) (fun r h => ?_) h
    cases r with
    | tuple xs => exact hc f xs p h
    | _ => exact h
  | and a b iha ihb =>
    intro ρ p h
    refine bind_le (iha ρ) (fun x h => bind_le (fun _ h => h) (fun t h => ?_) h) h
    cases t with
    | true => exact ihb ρ p h
    | false => exact h
  | or a b iha ihb =>
    intro ρ p h
    refine bind_le (iha ρ) (fun x h => bind_le (fun _ h => h) (fun t h => ?_) h) h
    cases t with
    | true => exact h
    | false => exact ihb ρ p h
  | not a iha => intro ρ p h; exact bind_le (iha ρ) (fun x h => h) h
  | ite c a b ihc iha ihb =>
    intro ρ p h
    refine bind_le (ihc ρ) (fun x h => bind_le (fun _ h => h) (fun t h => ?_) h) h
    cases t with
    | true => exact iha ρ p h
    | false => exact ihb ρ p h
  | chain o o' a b c iha ihb ihc =>
    intro ρ p h
    refine bind_le (iha ρ) (fun x h => bind_le (ihb ρ) (fun y h => bind_le (fun _ h => h) (fun r h => ?_) h) h) h
    cases r with
    | bool t =>
      cases t with
      | true => exact bind_le (ihc ρ) (fun z h => h) h
      | false => exact h
    | _ => exact h
  | comp tg caps it cond elt ihi ihc ihe =>
    intro ρ p h
    refine bind_le (ihi ρ) (fun s h => bind_le (fun _ h => h) (fun xs h => ?_) h) h
    refine bind_le (compF_le (fun x o h => ?_) xs) (fun _ h => h) h
    refine bind_le (fun _ h => h) (fun bs h => ?_) h
    refine bind_le (ihc _) (fun c h => bind_le (fun _ h => h) (fun t h => ?_) h) h
    cases t with
    | true => exact bind_le (ihe _) (fun _ h => h) h
    | false => exact h
  | rng a iha => intro ρ p h; exact bind_le (iha ρ) (fun x h => h) h
  | rng2 a b iha ihb => intro ρ p h; exact bind_le (iha ρ) (fun x h => bind_le (ihb ρ) (fun r h => h) h) h
  | dct ks vs ih => intro ρ p h; exact bind_le (ih ρ) (fun r h => h) h
  | lrep a n iha ihn => intro ρ p h; exact bind_le (fun _ h => bind_le (iha ρ) (fun r h => h) h) (fun x h => bind_le (ihn ρ) (fun r h => h) h) h
  | skey caps it key ihi ihk =>
    intro ρ p h
    refine bind_le (ihi ρ) (fun s h => bind_le (fun _ h => h) (fun xs h => ?_) h) h
    exact bind_le (compF_le (fun x o h => bind_le (ihk _) (fun _ h => h) h) xs) (fun _ h => h) h
  | dgt a k d iha ihk ihd => intro ρ p h; exact bind_le (iha ρ) (fun x h => bind_le (ihk ρ) (fun r h => bind_le (ihd ρ) (fun r h => h) h) h) h
theorem seqO_le {x x' : Option Out} {g g' : Env → Option Out} {q : Out} (hx : ∀ a, x = some a → x' = some a) (hg : ∀ a o, g a = some o → g' a = some o)
    (h : seqO x g = some q) : seqO x' g' = some q := by
  cases hxa : x with
  | none => rw [hxa] at h; cases h
  | some a =>
    rw [hxa] at h; rw [hx a hxa]
    cases a with
    | nx ρ => exact hg ρ q h
    | _ => exact h
theorem turnO_le {x x' : Option Out} {g g' : Env → Option Out} {q : Out} (hx : ∀ a, x = some a → x' = some a) (hg : ∀ a o, g a = some o → g' a = some o)
    (h : turnO x g = some q) : turnO x' g' = some q := by
  cases hxa : x with
  | none => rw [hxa] at h; cases h
  | some a =>
    rw [hxa] at h; rw [hx a hxa]
    cases a with
    | nx ρ => exact hg ρ q h
    | ct ρ => exact hg ρ q h
    | _ => exact h
theorem loopF_le {tg : Tg} {g g' : Env → Option Out} (hg : ∀ ρ o, g ρ = some o → g' ρ = some o) : ∀ (xs : List PV) (ρ : Env) (o : Out), loopF tg g xs ρ = some o → loopF tg g' xs ρ = some o
  | [], ρ, o, h => h
  | x :: xs, ρ, o, h => by
    unfold loopF at h ⊢
    exact bind_le (fun _ h => h) (fun ρ1 h => turnO_le (hg ρ1) (fun ρ2 o h => loopF_le hg xs ρ2 o h) h) h
theorem evS_le {cf cf' : Nat → List PV → Option PV} (hc : Le cf cf') : ∀ (s : S) (ρ : Env) (o : Out), evS cf s ρ = some o → evS cf' s ρ = some o := by
  intro s
  induction s with
  | nx => intro ρ o h; exact h
  | seq a b iha ihb => intro ρ o h; exact seqO_le (iha ρ) ihb h
  | set i e => intro ρ o h; exact bind_le (evE_le hc e ρ) (fun _ h => h) h
  | own i e => intro ρ o h; exact bind_le (evE_le hc e ρ) (fun _ h => h) h
  | asg t e => intro ρ o h; exact bind_le (evE_le hc e ρ) (fun _ h => h) h
  | ret e => intro ρ o h; exact bind_le (evE_le hc e ρ) (fun _ h => h) h
  | ife c a b iha ihb =>
    intro ρ o h
    refine bind_le (evE_le hc c ρ) (fun x h => bind_le (fun _ h => h) (fun t h => ?_) h) h
    cases t with
    | true => exact iha ρ o h
    | false => exact ihb ρ o h
  | loop t it body ih =>
    intro ρ o h
    exact bind_le (evE_le hc it ρ) (fun x h => bind_le (fun _ h => h) (fun xs h => loopF_le ih xs ρ o h) h) h
  | app i e => intro ρ o h; exact bind_le (evE_le hc e ρ) (fun _ h => h) h
  | ext i e => intro ρ o h; exact bind_le (evE_le hc e ρ) (fun _ h => h) h
  | frz i => intro ρ o h; exact h
  | brk => intro ρ o h; exact h
  | cnt => intro ρ o h; exact h
theorem outV_le {x x' : Option Out} {p : PV} (h : ∀ o, x = some o → x' = some o) (hx : outV x = some p) : outV x' = some p := by
  cases e : x with
  | none => rw [e] at hx; cases hx
  | some o => rw [e] at hx; rw [h o e]; exact hx
theorem run_le1 {T : Tab} : ∀ k, Le (run T k) (run T (k + 1))
  | 0 => fun f xs p h => by cases h
  | k + 1 => fun f xs p h => by
    unfold run at h ⊢
    cases e : T f with
    | none => rw [e] at h; cases h
    | some F =>
      rw [e] at h
      dsimp only at h ⊢
      by_cases hl : xs.length = F.np
      · rw [if_pos hl] at h ⊢
        exact outV_le (fun o => evS_le (run_le1 k) F.body _ o) h
      · rw [if_neg hl] at h; cases h
theorem run_le {T : Tab} {k j f : Nat} {xs : List PV} {p : PV} (hk : k ≤ j) (h : run T k f xs = some p) : run T j f xs = some p := by
  induction hk with
  | refl => exact h
  | step _ ih => exact run_le1 _ f xs p ih
end DD
set_option maxRecDepth 100000
namespace DD
open PySem
noncomputable def b0 : S := (.ret (.and (.op1 .isTup (.var 0)) (.op2 .eq (.op1 .len (.var 0)) (.var 1))))
noncomputable abbrev f0 : Fn := ⟨2, 2, b0⟩
noncomputable def b1 : S := (.ret (.and (.op1 .isInt (.var 0)) (.not (.op1 .isBool (.var 0)))))
noncomputable abbrev f1 : Fn := ⟨1, 1, b1⟩
noncomputable def b2 : S := (.ret (.and (.call 0 (.cons (.var 0) (.cons (.con (.int 2)) .nil))) (.and (.op2 .inn (.op2 .ix (.var 0) (.con (.int 0))) (.con (.tuple [(.str "a"), (.str "b")]))) (.op2 .inn (.op2 .ix (.var 0) (.con (.int 1))) (.con (.tuple [(.str "x"), (.str "y")]))))))
noncomputable abbrev f2 : Fn := ⟨1, 1, b2⟩
noncomputable def b3 : S := (.ret (.and (.call 0 (.cons (.var 0) (.cons (.con (.int 3)) .nil))) (.and (.op2 .eq (.op2 .ix (.var 0) (.con (.int 0))) (.con (.str "to"))) (.and (.op2 .inn (.op2 .ix (.var 0) (.con (.int 1))) (.con (.tuple [(.str "x"), (.str "y")]))) (.op2 .inn (.op2 .ix (.var 0) (.con (.int 2))) (.con (.tuple [(.str "x"), (.str "y")])))))))
noncomputable abbrev f3 : Fn := ⟨1, 1, b3⟩
noncomputable def b4 : S := (.ret (.or (.op2 .inn (.var 0) (.con (.tuple [(.str "yes"), (.str "no")]))) (.or (.call 2 (.cons (.var 0) .nil)) (.call 3 (.cons (.var 0) .nil)))))
noncomputable abbrev f4 : Fn := ⟨1, 1, b4⟩
noncomputable def b5 : S := (.seq (.ife (.call 4 (.cons (.var 0) .nil)) (.ret (.con (.bool true))) .nx) (.seq (.ife (.op2 .eq (.var 1) (.con (.int 0))) (.ret (.con (.bool false))) .nx) (.seq (.ife (.and (.call 0 (.cons (.var 0) (.cons (.con (.int 2)) .nil))) (.op2 .eq (.op2 .ix (.var 0) (.con (.int 0))) (.con (.str "not")))) (.ret (.call 5 (.cons (.op2 .ix (.var 0) (.con (.int 1))) (.cons (.op2 .sub (.var 1) (.con (.int 1))) .nil)))) .nx) (.seq (.ife (.and (.call 0 (.cons (.var 0) (.cons (.con (.int 3)) .nil))) (.op2 .inn (.op2 .ix (.var 0) (.con (.int 0))) (.con (.tuple [(.str "both"), (.str "either")])))) (.ret (.and (.call 5 (.cons (.op2 .ix (.var 0) (.con (.int 1))) (.cons (.op2 .sub (.var 1) (.con (.int 1))) .nil))) (.call 5 (.cons (.op2 .ix (.var 0) (.con (.int 2))) (.cons (.op2 .sub (.var 1) (.con (.int 1))) .nil))))) .nx) (.ret (.con (.bool false)))))))
noncomputable abbrev f5 : Fn := ⟨2, 2, b5⟩
noncomputable def b6 : S := (.ret (.call 5 (.cons (.var 0) (.cons (.con (.int 5)) .nil))))
noncomputable abbrev f6 : Fn := ⟨1, 1, b6⟩
noncomputable def b7 : S := (.seq (.ife (.not (.call 0 (.cons (.var 0) (.cons (.con (.int 3)) .nil)))) (.ret (.con (.bool false))) .nx) (.ret (.and (.op2 .inn (.op2 .ix (.var 0) (.con (.int 0))) (.con (.tuple [(.str "each"), (.str "some")]))) (.and (.op2 .inn (.op2 .ix (.var 0) (.con (.int 1))) (.con (.tuple [(.str "each"), (.str "some")]))) (.call 6 (.cons (.op2 .ix (.var 0) (.con (.int 2))) .nil))))))
noncomputable abbrev f7 : Fn := ⟨1, 1, b7⟩
noncomputable def b8 : S := (.ret (.op1 .len (.comp none [] (.var 0) (.op2 .eq (.sl (.var 0) (.con .none) (.con (.int 2))) (.con (.tuple [(.str "some"), (.str "each")]))) (.var 0))))
noncomputable abbrev f8 : Fn := ⟨1, 1, b8⟩
noncomputable def b9 : S := (.seq (.ife (.or (.not (.op1 .isTup (.var 0))) (.op2 .gt (.op1 .len (.var 0)) (.con (.int 4)))) (.ret (.con (.bool false))) .nx) (.seq (.ife (.not (.op1 .all (.comp none [] (.var 0) (.con (.bool true)) (.call 7 (.cons (.var 0) .nil))))) (.ret (.con (.bool false))) .nx) (.ret (.op2 .le (.call 8 (.cons (.var 0) .nil)) (.con (.int 2))))))
noncomputable abbrev f9 : Fn := ⟨1, 1, b9⟩
noncomputable def b10 : S := (.ret (.and (.call 1 (.cons (.var 0) .nil)) (.chain .le .lt (.con (.int 0)) (.var 0) (.var 1))))
noncomputable abbrev f10 : Fn := ⟨2, 2, b10⟩
noncomputable def b11 : S := (.ret (.and (.call 0 (.cons (.var 0) (.cons (.con (.int 2)) .nil))) (.and (.call 10 (.cons (.op2 .ix (.var 0) (.con (.int 0))) (.cons (.var 1) .nil))) (.call 10 (.cons (.op2 .ix (.var 0) (.con (.int 1))) (.cons (.var 1) .nil))))))
noncomputable abbrev f11 : Fn := ⟨2, 2, b11⟩
noncomputable def b12 : S := (.ret (.op1 .all (.comp none [0] (.rng (.op2 .sub (.op1 .len (.var 0)) (.con (.int 1)))) (.con (.bool true)) (.op2 .lt (.op2 .ix (.var 1) (.var 0)) (.op2 .ix (.var 1) (.op2 .add (.var 0) (.con (.int 1))))))))
noncomputable abbrev f12 : Fn := ⟨1, 1, b12⟩
noncomputable def b13 : S := (.seq (.ife (.not (.op1 .isTup (.var 0))) (.ret (.con (.bool false))) .nx) (.ret (.and (.op1 .all (.comp none [1] (.var 0) (.con (.bool true)) (.call 10 (.cons (.var 0) (.cons (.var 1) .nil))))) (.call 12 (.cons (.var 0) .nil)))))
noncomputable abbrev f13 : Fn := ⟨2, 2, b13⟩
noncomputable def b14 : S := (.seq (.ife (.not (.op1 .isTup (.var 0))) (.ret (.con (.bool false))) .nx) (.ret (.and (.op1 .all (.comp none [1] (.var 0) (.con (.bool true)) (.call 11 (.cons (.var 0) (.cons (.var 1) .nil))))) (.call 12 (.cons (.var 0) .nil)))))
noncomputable abbrev f14 : Fn := ⟨2, 2, b14⟩
noncomputable def b15 : S := (.seq (.ife (.not (.call 0 (.cons (.var 0) (.cons (.con (.int 4)) .nil)))) (.ret (.con (.bool false))) .nx) (.seq (.set 1 (.op2 .ix (.var 0) (.con (.int 0)))) (.seq (.ife (.or (.not (.call 1 (.cons (.var 1) .nil))) (.not (.chain .le .le (.con (.int 1)) (.var 1) (.con (.int 4))))) (.ret (.con (.bool false))) .nx) (.ret (.and (.call 13 (.cons (.op2 .ix (.var 0) (.con (.int 1))) (.cons (.var 1) .nil))) (.and (.call 13 (.cons (.op2 .ix (.var 0) (.con (.int 2))) (.cons (.var 1) .nil))) (.call 14 (.cons (.op2 .ix (.var 0) (.con (.int 3))) (.cons (.var 1) .nil)))))))))
noncomputable abbrev f15 : Fn := ⟨1, 2, b15⟩
noncomputable def b16 : S := (.seq (.ife (.op2 .lt (.var 1) (.op1 .len (.var 0))) (.ret (.op2 .ix (.var 0) (.var 1))) .nx) (.ret (.con (.int 0))))
noncomputable abbrev f16 : Fn := ⟨2, 2, b16⟩
noncomputable def b17 : S := (.seq (.set 2 (.op2 .mod (.op2 .mul (.op2 .add (.op2 .add (.call 16 (.cons (.var 0) (.cons (.var 1) .nil))) (.op2 .mul (.con (.int 7919)) (.var 1))) (.con (.int 1))) (.con (.int 48271))) (.con (.int 2147483647)))) (.ret (.op2 .mod (.op2 .add (.op2 .add (.op2 .mul (.var 2) (.var 2)) (.op2 .mul (.con (.int 7)) (.var 2))) (.var 1)) (.con (.int 2147483629)))))
noncomputable abbrev f17 : Fn := ⟨2, 3, b17⟩
noncomputable def b18 : S := (.seq (.set 2 (.op2 .mod (.op2 .mul (.op2 .add (.op2 .add (.var 0) (.op2 .mul (.con (.int 104729)) (.var 1))) (.con (.int 17))) (.con (.int 69621))) (.con (.int 2147483647)))) (.ret (.op2 .mod (.op2 .add (.op2 .add (.op2 .mul (.var 2) (.var 2)) (.op2 .mul (.con (.int 3)) (.var 2))) (.var 1)) (.con (.int 2147483629)))))
noncomputable abbrev f18 : Fn := ⟨2, 3, b18⟩
noncomputable def b19 : S := (.seq (.set 2 (.op2 .mod (.var 0) (.con (.int 10)))) (.seq (.ife (.or (.op2 .eq (.var 1) (.con (.int 0))) (.op2 .lt (.var 2) (.con (.int 3)))) (.seq (.set 3 (.lst (.cons (.tup (.cons (.con (.str "a")) (.cons (.con (.str "x")) .nil))) (.cons (.tup (.cons (.con (.str "a")) (.cons (.con (.str "y")) .nil))) (.cons (.tup (.cons (.con (.str "b")) (.cons (.con (.str "x")) .nil))) (.cons (.tup (.cons (.con (.str "b")) (.cons (.con (.str "y")) .nil))) (.cons (.tup (.cons (.con (.str "to")) (.cons (.con (.str "x")) (.cons (.con (.str "y")) .nil)))) (.cons (.tup (.cons (.con (.str "to")) (.cons (.con (.str "y")) (.cons (.con (.str "x")) .nil)))) (.cons (.tup (.cons (.con (.str "to")) (.cons (.con (.str "x")) (.cons (.con (.str "y")) .nil)))) .nil))))))))) (.ret (.op2 .ix (.op2 .add (.var 3) (.lst (.cons (.tup (.cons (.con (.str "to")) (.cons (.con (.str "x")) (.cons (.con (.str "x")) .nil)))) (.cons (.tup (.cons (.con (.str "to")) (.cons (.con (.str "y")) (.cons (.con (.str "y")) .nil)))) (.cons (.tup (.cons (.con (.str "to")) (.cons (.con (.str "y")) (.cons (.con (.str "x")) .nil)))) (.cons (.con (.str "yes")) (.cons (.con (.str "no")) .nil))))))) (.op2 .mod (.op2 .fdiv (.var 0) (.con (.int 10))) (.con (.int 12)))))) .nx) (.seq (.set 4 (.call 19 (.cons (.call 18 (.cons (.var 0) (.cons (.con (.int 1)) .nil))) (.cons (.op2 .sub (.var 1) (.con (.int 1))) .nil)))) (.seq (.ife (.op2 .eq (.var 2) (.con (.int 3))) (.ret (.tup (.cons (.con (.str "not")) (.cons (.var 4) .nil)))) .nx) (.seq (.set 5 (.call 19 (.cons (.call 18 (.cons (.var 0) (.cons (.con (.int 2)) .nil))) (.cons (.op2 .sub (.var 1) (.con (.int 1))) .nil)))) (.seq (.ife (.and (.op2 .lt (.var 2) (.con (.int 6))) (.op2 .gt (.var 1) (.con (.int 1)))) (.ret (.tup (.cons (.con (.str "either")) (.cons (.tup (.cons (.con (.str "not")) (.cons (.call 19 (.cons (.call 18 (.cons (.var 0) (.cons (.con (.int 1)) .nil))) (.cons (.op2 .sub (.var 1) (.con (.int 2))) .nil))) .nil))) (.cons (.var 5) .nil))))) .nx) (.ret (.tup (.cons (.op2 .ix (.tup (.cons (.con (.str "both")) (.cons (.con (.str "either")) .nil))) (.op2 .mod (.var 2) (.con (.int 2)))) (.cons (.var 4) (.cons (.var 5) .nil)))))))))))
noncomputable abbrev f19 : Fn := ⟨2, 6, b19⟩
noncomputable def b20 : S := (.seq (.set 2 (.op2 .ix (.tup (.cons (.con (.str "each")) (.cons (.con (.str "each")) (.cons (.con (.str "each")) (.cons (.con (.str "some")) .nil))))) (.op2 .mod (.var 0) (.con (.int 4))))) (.seq (.set 3 (.op2 .ix (.tup (.cons (.con (.str "some")) (.cons (.con (.str "each")) (.cons (.con (.str "some")) .nil)))) (.op2 .mod (.op2 .fdiv (.var 0) (.con (.int 4))) (.con (.int 3))))) (.ret (.tup (.cons (.var 2) (.cons (.var 3) (.cons (.call 19 (.cons (.op2 .fdiv (.var 0) (.con (.int 12))) (.cons (.var 1) .nil))) .nil)))))))
noncomputable abbrev f20 : Fn := ⟨2, 4, b20⟩
noncomputable def b21l0 : S := (.seq (.set 4 (.call 20 (.cons (.call 18 (.cons (.var 0) (.cons (.var 3) .nil))) (.cons (.con (.int 3)) .nil)))) (.seq (.set 5 (.comp none [] (.var 2) (.op2 .eq (.sl (.var 0) (.con .none) (.con (.int 2))) (.tup (.cons (.con (.str "some")) (.cons (.con (.str "each")) .nil)))) (.var 0))) (.seq (.ife (.and (.op2 .eq (.sl (.var 4) (.con .none) (.con (.int 2))) (.tup (.cons (.con (.str "some")) (.cons (.con (.str "each")) .nil)))) (.op2 .eq (.op1 .len (.var 5)) (.con (.int 2)))) (.set 4 (.tup (.cons (.con (.str "each")) (.cons (.con (.str "some")) (.cons (.op2 .ix (.var 4) (.con (.int 2))) .nil))))) .nx) (.set 2 (.op2 .add (.var 2) (.tup (.cons (.var 4) .nil)))))))
noncomputable def b21 : S := (.seq (.set 2 (.tup .nil)) (.seq (.loop (.one 3) (.rng (.op2 .mod (.var 0) (.op2 .add (.var 1) (.con (.int 1))))) b21l0) (.ret (.var 2))))
noncomputable abbrev f21 : Fn := ⟨2, 6, b21⟩
noncomputable def b22l0 : S := (.app 3 (.op1 .toTuple (.comp none [0, 4] (.rng (.var 2)) (.op2 .eq (.op2 .mod (.op2 .fdiv (.call 18 (.cons (.var 1) (.cons (.op2 .add (.op2 .mul (.con (.int 10)) (.var 2)) (.var 0)) .nil))) (.con (.int 4))) (.con (.int 2))) (.con (.int 1))) (.var 0))))
noncomputable def b22l1 : S := (.ife (.op2 .lt (.op2 .mod (.op2 .fdiv (.call 18 (.cons (.var 0) (.cons (.op2 .add (.op2 .add (.con (.int 30)) (.op2 .mul (.con (.int 8)) (.var 7))) (.var 8)) .nil))) (.con (.int 4))) (.con (.int 5))) (.var 6)) (.app 5 (.tup (.cons (.var 7) (.cons (.var 8) .nil)))) .nx)
noncomputable def b22l2 : S := (.loop (.one 8) (.rng (.var 2)) b22l1)
noncomputable def b22 : S := (.seq (.set 2 (.op2 .add (.con (.int 1)) (.op2 .mod (.var 0) (.var 1)))) (.seq (.own 3 (.lst .nil)) (.seq (.loop (.one 4) (.tup (.cons (.con (.int 0)) (.cons (.con (.int 1)) .nil))) b22l0) (.seq (.own 5 (.lst .nil)) (.seq (.set 6 (.op2 .add (.con (.int 1)) (.op2 .mod (.op2 .fdiv (.var 0) (.con (.int 24))) (.con (.int 4))))) (.seq (.loop (.one 7) (.rng (.var 2)) b22l2) (.ret (.tup (.cons (.var 2) (.cons (.op2 .ix (.peek 3) (.con (.int 0))) (.cons (.op2 .ix (.peek 3) (.con (.int 1))) (.cons (.op1 .toTuple (.peek 5)) .nil))))))))))))
noncomputable abbrev f22 : Fn := ⟨2, 9, b22⟩
noncomputable def b23 : S := (.seq (.set 1 (.lst (.cons (.op1 .neg (.con (.int 1))) (.cons (.con (.int 0)) (.cons (.con (.int 1)) (.cons (.con (.int 2)) (.cons (.con (.int 4)) (.cons (.con (.bool true)) (.cons (.con (.bool false)) (.cons (.con .none) (.cons (.con (.str "")) (.cons (.con (.str "yes")) (.cons (.con (.str "no")) (.cons (.con (.str "each")) (.cons (.con (.str "some")) (.cons (.tup .nil) (.cons (.lst .nil) (.cons (.tup (.cons (.con (.int 0)) .nil)) (.cons (.tup (.cons (.con (.int 0)) (.cons (.con (.int 0)) .nil))) (.cons (.tup (.cons (.con (.int 1)) (.cons (.con (.int 0)) .nil))) (.cons (.lst (.cons (.con (.int 0)) .nil)) .nil))))))))))))))))))))) (.seq (.set 1 (.op2 .add (.var 1) (.lst (.cons (.tup (.cons (.con (.str "a")) (.cons (.con (.str "x")) .nil))) (.cons (.tup (.cons (.con (.str "to")) (.cons (.con (.str "x")) .nil))) (.cons (.tup (.cons (.con (.str "to")) (.cons (.con (.str "x")) (.cons (.con (.str "z")) .nil)))) (.cons (.tup (.cons (.con (.str "not")) (.cons (.con (.str "yes")) .nil))) (.cons (.tup (.cons (.con (.str "each")) (.cons (.con (.str "some")) (.cons (.con (.str "no")) .nil)))) (.cons (.tup (.cons (.con (.str "a")) (.cons (.con (.str "y")) .nil))) (.cons (.con (.str "x")) .nil)))))))))) (.ret (.op2 .ix (.op2 .add (.var 1) (.lst (.cons (.tup (.cons (.con (.int 0)) (.cons (.con (.bool true)) .nil))) (.cons (.tup (.cons (.con (.int 0)) (.cons (.con (.int 4)) .nil))) (.cons (.tup (.cons (.con (.str "b")) (.cons (.con (.int 0)) .nil))) (.cons (.tup (.cons (.con (.str "both")) (.cons (.con (.str "yes")) .nil))) (.cons (.tup (.cons (.tup (.cons (.con (.int 0)) (.cons (.con (.int 1)) .nil))) .nil)) (.cons (.op2 .pow (.con (.int 10)) (.con (.int 30))) .nil)))))))) (.op2 .mod (.var 0) (.con (.int 32)))))))
noncomputable abbrev f23 : Fn := ⟨1, 2, b23⟩
noncomputable def b24 : S := (.seq (.ife (.and (.op2 .gt (.var 2) (.con (.int 0))) (.and (.op1 .isTup (.var 0)) (.and (.op2 .gt (.op1 .len (.var 0)) (.con (.int 0))) (.op2 .gt (.op2 .mod (.var 1) (.con (.int 6))) (.con (.int 0)))))) (.seq (.set 3 (.op2 .mod (.op2 .fdiv (.var 1) (.con (.int 6))) (.op1 .len (.var 0)))) (.seq (.set 4 (.call 24 (.cons (.op2 .ix (.var 0) (.var 3)) (.cons (.op2 .fdiv (.var 1) (.con (.int 126))) (.cons (.op2 .sub (.var 2) (.con (.int 1))) .nil))))) (.ret (.op2 .add (.op2 .add (.sl (.var 0) (.con .none) (.var 3)) (.tup (.cons (.var 4) .nil))) (.sl (.var 0) (.op2 .add (.var 3) (.con (.int 1))) (.con .none)))))) .nx) (.seq (.ife (.and (.op1 .isTup (.var 0)) (.and (.op2 .gt (.op1 .len (.var 0)) (.con (.int 0))) (.op2 .eq (.op2 .mod (.op2 .fdiv (.var 1) (.con (.int 6))) (.con (.int 2))) (.con (.int 0))))) (.ret (.op2 .ix (.lst (.cons (.op1 .toList (.var 0)) (.cons (.sl (.var 0) (.con .none) (.op1 .neg (.con (.int 1)))) (.cons (.op2 .add (.var 0) (.sl (.var 0) (.op1 .neg (.con (.int 1))) (.con .none))) (.cons (.sl (.var 0) (.con (.int 1)) (.con .none)) (.cons (.op1 .rev (.var 0)) (.cons (.op2 .mul (.var 0) (.con (.int 2))) .nil))))))) (.op2 .mod (.op2 .fdiv (.var 1) (.con (.int 12))) (.con (.int 6))))) .nx) (.seq (.ife (.and (.op1 .isInt (.var 0)) (.op2 .eq (.op2 .mod (.op2 .fdiv (.var 1) (.con (.int 6))) (.con (.int 2))) (.con (.int 0)))) (.ret (.op2 .ix (.lst (.cons (.op1 .toStr (.var 0)) (.cons (.op1 .neg (.var 0)) (.cons (.op2 .add (.var 0) (.con (.int 1))) (.cons (.op2 .eq (.var 0) (.con (.int 1))) (.cons (.op2 .sub (.con (.int 1)) (.var 0)) (.cons (.op2 .add (.var 0) (.con (.int 4))) .nil))))))) (.op2 .mod (.op2 .fdiv (.var 1) (.con (.int 12))) (.con (.int 6))))) .nx) (.ret (.call 23 (.cons (.op2 .fdiv (.var 1) (.con (.int 6))) .nil))))))
noncomputable abbrev f24 : Fn := ⟨3, 5, b24⟩
noncomputable def b25 : S := (.ret (.and (.op1 .isInt (.var 0)) (.and (.not (.op1 .isBool (.var 0))) (.chain .le .le (.con (.int 0)) (.var 0) (.var 1)))))
noncomputable abbrev f25 : Fn := ⟨2, 2, b25⟩
noncomputable def b26 : S := (.seq (.ife (.op1 .isStr (.var 0)) (.ret (.or (.op2 .eq (.var 0) (.con (.str "yes"))) (.op2 .eq (.var 0) (.con (.str "no"))))) .nx) (.seq (.ife (.or (.not (.op1 .isTup (.var 0))) (.or (.op2 .lt (.op1 .len (.var 0)) (.con (.int 2))) (.not (.op1 .isStr (.op2 .ix (.var 0) (.con (.int 0))))))) (.ret (.con (.bool false))) .nx) (.seq (.ife (.op2 .inn (.op2 .ix (.var 0) (.con (.int 0))) (.tup (.cons (.con (.str "a")) (.cons (.con (.str "b")) (.cons (.con (.str "to")) .nil))))) (.seq (.ife (.op2 .ne (.op1 .len (.var 0)) (.op2 .ix (.dct [(.str "a"), (.str "b"), (.str "to")] (.cons (.con (.int 2)) (.cons (.con (.int 2)) (.cons (.con (.int 3)) .nil)))) (.op2 .ix (.var 0) (.con (.int 0))))) (.ret (.con (.bool false))) .nx) (.ret (.op2 .eq (.comp none [] (.sl (.var 0) (.con (.int 1)) (.con .none)) (.or (.not (.op1 .isStr (.var 0))) (.op2 .nin (.var 0) (.tup (.cons (.con (.str "x")) (.cons (.con (.str "y")) .nil))))) (.var 0)) (.lst .nil)))) .nx) (.seq (.ife (.or (.op2 .eq (.var 1) (.con (.int 0))) (.op2 .ne (.op1 .len (.var 0)) (.dgt (.dct [(.str "not"), (.str "both"), (.str "either")] (.cons (.con (.int 2)) (.cons (.con (.int 3)) (.cons (.con (.int 3)) .nil)))) (.op2 .ix (.var 0) (.con (.int 0))) (.con (.int 0))))) (.ret (.con (.bool false))) .nx) (.ret (.op2 .eq (.comp none [1] (.sl (.var 0) (.con (.int 1)) (.con .none)) (.not (.call 26 (.cons (.var 0) (.cons (.op2 .sub (.var 1) (.con (.int 1))) .nil)))) (.var 0)) (.lst .nil)))))))
noncomputable abbrev f26 : Fn := ⟨2, 2, b26⟩
noncomputable def b27l0 : S := (.ife (.or (.not (.op1 .isStr (.var 3))) (.and (.op2 .ne (.var 3) (.con (.str "each"))) (.op2 .ne (.var 3) (.con (.str "some"))))) (.ret (.con (.bool false))) .nx)
noncomputable def b27l1 : S := (.seq (.ife (.or (.not (.op1 .isTup (.var 2))) (.or (.op2 .ne (.op1 .len (.var 2)) (.con (.int 3))) (.not (.call 26 (.cons (.op2 .ix (.var 2) (.con (.int 2))) (.cons (.con (.int 5)) .nil)))))) (.ret (.con (.bool false))) .nx) (.seq (.loop (.one 3) (.sl (.var 2) (.con .none) (.con (.int 2))) b27l0) (.set 1 (.op2 .add (.var 1) (.op1 .toInt (.and (.op2 .eq (.op2 .ix (.var 2) (.con (.int 0))) (.con (.str "some"))) (.op2 .eq (.op2 .ix (.var 2) (.con (.int 1))) (.con (.str "each")))))))))
noncomputable def b27 : S := (.seq (.ife (.or (.not (.op1 .isTup (.var 0))) (.op2 .gt (.op1 .len (.var 0)) (.con (.int 4)))) (.ret (.con (.bool false))) .nx) (.seq (.set 1 (.con (.int 0))) (.seq (.loop (.one 2) (.var 0) b27l1) (.ret (.op2 .le (.var 1) (.con (.int 2)))))))
noncomputable abbrev f27 : Fn := ⟨1, 4, b27⟩
noncomputable def b28l0 : S := (.seq (.ife (.or (.not (.op1 .isTup (.var 1))) (.op2 .ne (.comp none [0] (.var 1) (.not (.call 25 (.cons (.var 0) (.cons (.op2 .sub (.op2 .ix (.var 1) (.con (.int 0))) (.con (.int 1))) .nil)))) (.var 0)) (.lst .nil))) (.ret (.con (.bool false))) .nx) (.ife (.op2 .ne (.op1 .toList (.var 1)) (.op1 .sset (.var 1))) (.ret (.con (.bool false))) .nx))
noncomputable def b28l1 : S := (.seq (.ife (.or (.not (.op1 .isTup (.var 2))) (.op2 .ne (.op1 .len (.var 2)) (.con (.int 2)))) (.ret (.con (.bool false))) .nx) (.ife (.or (.not (.call 25 (.cons (.op2 .ix (.var 2) (.con (.int 0))) (.cons (.op2 .sub (.op2 .ix (.var 0) (.con (.int 0))) (.con (.int 1))) .nil)))) (.not (.call 25 (.cons (.op2 .ix (.var 2) (.con (.int 1))) (.cons (.op2 .sub (.op2 .ix (.var 0) (.con (.int 0))) (.con (.int 1))) .nil))))) (.ret (.con (.bool false))) .nx))
noncomputable def b28 : S := (.seq (.ife (.or (.not (.op1 .isTup (.var 0))) (.or (.op2 .ne (.op1 .len (.var 0)) (.con (.int 4))) (.or (.not (.call 25 (.cons (.op2 .ix (.var 0) (.con (.int 0))) (.cons (.con (.int 4)) .nil)))) (.op2 .eq (.op2 .ix (.var 0) (.con (.int 0))) (.con (.int 0)))))) (.ret (.con (.bool false))) .nx) (.seq (.loop (.one 1) (.sl (.var 0) (.con (.int 1)) (.con (.int 3))) b28l0) (.seq (.ife (.not (.op1 .isTup (.op2 .ix (.var 0) (.con (.int 3))))) (.ret (.con (.bool false))) .nx) (.seq (.loop (.one 2) (.op2 .ix (.var 0) (.con (.int 3))) b28l1) (.ret (.op2 .eq (.op1 .toList (.op2 .ix (.var 0) (.con (.int 3)))) (.op1 .sset (.op2 .ix (.var 0) (.con (.int 3))))))))))
noncomputable abbrev f28 : Fn := ⟨1, 3, b28⟩
noncomputable def b29 : S := (.ret (.and (.op1 .isBool (.var 0)) (.op2 .eq (.var 0) (.var 1))))
noncomputable abbrev f29 : Fn := ⟨2, 2, b29⟩
noncomputable def b30l0 : S := (.set 2 (.op2 .ix (.tup (.cons (.tup (.cons (.con (.str "not")) (.cons (.var 2) .nil))) (.cons (.tup (.cons (.con (.str "both")) (.cons (.var 2) (.cons (.con (.str "yes")) .nil)))) (.cons (.tup (.cons (.con (.str "either")) (.cons (.con (.str "no")) (.cons (.var 2) .nil)))) .nil)))) (.op2 .mod (.op2 .fdiv (.call 18 (.cons (.var 1) (.cons (.var 3) .nil))) (.con (.int 4))) (.con (.int 3)))))
noncomputable def b30 : S := (.seq (.set 1 (.call 17 (.cons (.var 0) (.cons (.con (.int 0)) .nil)))) (.seq (.set 2 (.call 21 (.cons (.call 17 (.cons (.var 0) (.cons (.con (.int 1)) .nil))) (.cons (.con (.int 4)) .nil)))) (.seq (.ife (.op2 .eq (.op2 .mod (.var 1) (.con (.int 7))) (.con (.int 1))) (.set 2 (.sl (.op2 .add (.var 2) (.op2 .mul (.tup (.cons (.tup (.cons (.con (.str "each")) (.cons (.con (.str "each")) (.cons (.con (.str "yes")) .nil)))) .nil)) (.con (.int 5)))) (.con .none) (.op2 .add (.con (.int 4)) (.op2 .mod (.op2 .fdiv (.var 1) (.con (.int 7))) (.con (.int 2)))))) .nx) (.seq (.ife (.op2 .eq (.op2 .mod (.var 1) (.con (.int 7))) (.con (.int 2))) (.set 2 (.op2 .add (.op2 .mul (.tup (.cons (.tup (.cons (.con (.str "some")) (.cons (.con (.str "each")) (.cons (.tup (.cons (.con (.str "a")) (.cons (.con (.str "x")) .nil))) .nil)))) .nil)) (.op2 .add (.con (.int 2)) (.op2 .mod (.op2 .fdiv (.var 1) (.con (.int 7))) (.con (.int 2))))) (.sl (.var 2) (.con .none) (.con (.int 1))))) .nx) (.seq (.ife (.op2 .eq (.op2 .mod (.op2 .fdiv (.var 1) (.con (.int 7))) (.con (.int 2))) (.con (.int 1))) (.set 2 (.call 24 (.cons (.var 2) (.cons (.call 17 (.cons (.var 0) (.cons (.con (.int 2)) .nil))) (.cons (.op2 .mod (.op2 .fdiv (.var 1) (.con (.int 14))) (.con (.int 8))) .nil))))) .nx) (.seq (.ife (.not (.call 29 (.cons (.call 9 (.cons (.var 2) .nil)) (.cons (.call 27 (.cons (.var 2) .nil)) .nil)))) (.ret (.con (.bool false))) .nx) (.seq (.set 2 (.call 19 (.cons (.call 17 (.cons (.var 0) (.cons (.con (.int 3)) .nil))) (.cons (.con (.int 3)) .nil)))) (.seq (.loop (.one 3) (.rng (.op2 .mod (.op2 .fdiv (.var 1) (.con (.int 64))) (.con (.int 5)))) b30l0) (.seq (.ife (.op2 .eq (.op2 .mod (.op2 .fdiv (.var 1) (.con (.int 512))) (.con (.int 2))) (.con (.int 1))) (.set 2 (.call 24 (.cons (.var 2) (.cons (.call 17 (.cons (.var 0) (.cons (.con (.int 4)) .nil))) (.cons (.op2 .mod (.op2 .fdiv (.var 1) (.con (.int 1024))) (.con (.int 6))) .nil))))) .nx) (.seq (.ife (.not (.call 29 (.cons (.call 6 (.cons (.var 2) .nil)) (.cons (.call 26 (.cons (.var 2) (.cons (.con (.int 5)) .nil))) .nil)))) (.ret (.con (.bool false))) .nx) (.seq (.set 2 (.call 22 (.cons (.call 17 (.cons (.var 0) (.cons (.con (.int 5)) .nil))) (.cons (.con (.int 5)) .nil)))) (.seq (.ife (.op2 .eq (.op2 .mod (.op2 .fdiv (.var 1) (.con (.int 4096))) (.con (.int 2))) (.con (.int 1))) (.set 2 (.call 24 (.cons (.var 2) (.cons (.call 17 (.cons (.var 0) (.cons (.con (.int 6)) .nil))) (.cons (.op2 .mod (.op2 .fdiv (.var 1) (.con (.int 8192))) (.con (.int 4))) .nil))))) .nx) (.ret (.call 29 (.cons (.call 15 (.cons (.var 2) .nil)) (.cons (.call 28 (.cons (.var 2) .nil)) .nil))))))))))))))))
noncomputable abbrev f30 : Fn := ⟨1, 4, b30⟩
end DD
namespace K01
open PySem DD
noncomputable def tab : Tab := fun i => List.lookup i [(0, f0), (1, f1), (2, f2), (3, f3), (4, f4), (5, f5), (6, f6), (7, f7), (8, f8), (9, f9), (10, f10), (11, f11), (12, f12), (13, f13), (14, f14), (15, f15), (16, f16), (17, f17), (18, f18), (19, f19), (20, f20), (21, f21), (22, f22), (23, f23), (24, f24), (25, f25), (26, f26), (27, f27), (28, f28), (29, f29), (30, f30)]
end K01
set_option maxRecDepth 100000
set_option linter.unusedSimpArgs false
namespace DD
open PySem
inductive Nm where
  | x | y
noncomputable def Nm.s : Nm → Str
  | .x => "x"
  | .y => "y"
inductive Fm where
  | yes | no | a (n : Nm) | b (n : Nm) | to (m n : Nm) | not (f : Fm) | both (f g : Fm) | either (f g : Fm)
noncomputable def Fm.pv : Fm → PV
  | .yes => .str "yes"
  | .no => .str "no"
  | .a n => .tuple [.str "a", .str n.s]
  | .b n => .tuple [.str "b", .str n.s]
  | .to m n => .tuple [.str "to", .str m.s, .str n.s]
  | .not f => .tuple [.str "not", f.pv]
  | .both f g => .tuple [.str "both", f.pv, g.pv]
  | .either f g => .tuple [.str "either", f.pv, g.pv]
@[simp] theorem isDict_fm (f : Fm) : isDict f.pv = false := by cases f <;> simp [Fm.pv]
noncomputable def Fm.dep : Fm → Nat
  | .yes | .no | .a _ | .b _ | .to _ _ => 0
  | .not f => f.dep + 1
  | .both f g => max f.dep g.dep + 1
  | .either f g => max f.dep g.dep + 1
theorem run_at {T : Tab} {k f : Nat} {args : List PV} {F : Fn} (h : T f = some F) (hl : args.length = F.np) :
    run T (k + 1) f args = outV (evS (run T k) F.body (start F args)) := run_succ h hl
noncomputable def drawnD (n k : Int) : Int := (n + 104729 * k + 17) * 69621 % 2147483647
noncomputable def drawnI (n k : Int) : Int := (drawnD n k * drawnD n k + 3 * drawnD n k + k) % 2147483629
theorem small_mod {n m : Int} (h0 : 0 < m) (h1 : m < 2 ^ 64) : small (n % m) = true := by
  unfold small
  have a := Int.emod_nonneg n (Int.ne_of_gt h0)
  have b := Int.emod_lt_of_pos n h0
  simp only [Bool.and_eq_true, decide_eq_true_eq]
  lia
theorem drawn_run {T : Tab} (h : T 18 = some f18) (k : Nat) (n j : Int) : run T (k + 1) 18 [.int n, .int j] = some (.int (drawnI n j)) := by
  rw [run_at h rfl]
  have e : small (drawnD n j) = true := small_mod (by decide) (by decide)
  unfold drawnD at e
  simp [eqF, inF, b18, drawnI, drawnD, e, show small 104729 = true from by decide, show small 69621 = true from by decide, show small 3 = true from by decide]
theorem leaf_at (i : Int) (h0 : 0 ≤ i) (h1 : i < 12) : ∃ f : Fm, f.dep = 0 ∧ atI [PyData.tuple [.str "a", .str "x"], .tuple [.str "a", .str "y"], .tuple [.str "b", .str "x"], .tuple [.str "b", .str "y"],
    .tuple [.str "to", .str "x", .str "y"], .tuple [.str "to", .str "y", .str "x"], .tuple [.str "to", .str "x", .str "y"], .tuple [.str "to", .str "x", .str "x"], .tuple [.str "to", .str "y", .str "y"], .tuple [.str "to", .str "y", .str "x"],
    .str "yes", .str "no"] i = some f.pv := by
  cases i with
  | negSucc n => exact absurd h0 (Int.negSucc_not_nonneg n).mp
  | ofNat n =>
    have h : n < 12 := Int.ofNat_lt.mp h1
    clear h0 h1
    match n, h with
    | 0, _ => exact ⟨.a .x, rfl, rfl⟩
    | 1, _ => exact ⟨.a .y, rfl, rfl⟩
    | 2, _ => exact ⟨.b .x, rfl, rfl⟩
    | 3, _ => exact ⟨.b .y, rfl, rfl⟩
    | 4, _ => exact ⟨.to .x .y, rfl, rfl⟩
    | 5, _ => exact ⟨.to .y .x, rfl, rfl⟩
    | 6, _ => exact ⟨.to .x .y, rfl, rfl⟩
    | 7, _ => exact ⟨.to .x .x, rfl, rfl⟩
    | 8, _ => exact ⟨.to .y .y, rfl, rfl⟩
    | 9, _ => exact ⟨.to .y .x, rfl, rfl⟩
    | 10, _ => exact ⟨.yes, rfl, rfl⟩
    | 11, _ => exact ⟨.no, rfl, rfl⟩
    | n + 12, h => lia
theorem eqv_int (i j : Int) : PyData.eqv (.int i) (.int j) = decide (i = j) := by simp only [PyData.eqv]; rfl
theorem form_ex {T : Tab} (h18 : T 18 = some f18) (h19 : T 19 = some f19) : ∀ (d : Nat) (n : Int) (k : Nat), ∃ f : Fm, f.dep ≤ d ∧ run T (k + d + 2) 19 [.int n, .int d] = some f.pv := by
  intro d
  induction d using Nat.strongRecOn with
  | _ d ih =>
    intro n k
    rw [run_at h19 rfl]
    obtain ⟨fl, dl, el⟩ := leaf_at (n / 10 % 12) (by lia) (by lia)
    by_cases hk : n % 10 < 3 ∨ d = 0
    · refine ⟨fl, by lia, ?_⟩
      by_cases hd : d = 0
      · subst hd
        simp [eqF, inF, b19, eqv_int, el, PyData.depth]
      · have hk' : n % 10 < 3 := by lia
        simp [eqF, inF, b19, eqv_int, hk', hd, el, PyData.depth]
    · have hd : ¬ d = 0 := by lia
      have hn : ¬ n % 10 < 3 := by lia
      obtain ⟨d', rfl⟩ : ∃ d', d = d' + 1 := ⟨d - 1, by lia⟩
      obtain ⟨g1, q1, r1⟩ := ih d' (by lia) (drawnI n 1) k
      obtain ⟨g2, q2, r2⟩ := ih d' (by lia) (drawnI n 2) k
      have e1 : (((d' + 1 : Nat) : Int) - 1) = (d' : Int) := by lia
      have a1 := drawn_run h18 (k + d' + 1) n 1
      have a2 := drawn_run h18 (k + d' + 1) n 2
      have ek : k + (d' + 1) + 1 = k + d' + 2 := by lia
      rw [ek]
      have hdn : ¬ ((d' : Int) + 1 = 0) := by lia
      by_cases h3 : n % 10 = 3
      · refine ⟨.not g1, by simp only [Fm.dep]; lia, ?_⟩
        simp [eqF, inF, b19, eqv_int, h3, PyData.depth, a1, r1, Fm.pv, hdn]
      · by_cases h6 : n % 10 < 6 ∧ 0 < d'
        · obtain ⟨d2, rfl⟩ : ∃ d2, d' = d2 + 1 := ⟨d' - 1, by lia⟩
          obtain ⟨g3, q3, r3⟩ := ih d2 (by lia) (drawnI n 1) (k + 1)
          have e2 : (((d2 + 1 + 1 : Nat) : Int) - 2) = (d2 : Int) := by lia
          have ek3 : k + 1 + d2 + 2 = k + (d2 + 1) + 2 := by lia
          rw [ek3] at r3
          refine ⟨.either (.not g3) g2, by simp only [Fm.dep]; lia, ?_⟩
          have hd1 : (1 : Int) < (d2 : Int) + 1 + 1 := by lia
          have e1' : (d2 : Int) + 1 + 1 - 1 = (d2 : Int) + 1 := by lia
          have e2' : (d2 : Int) + 1 + 1 - 2 = (d2 : Int) := by lia
          simp only [Int.natCast_add, Int.natCast_one] at r1 r2
          have hdn : ¬ ((d2 : Int) + 1 + 1 = 0) := by lia
          simp [eqF, inF, b19, eqv_int, hn, h3, h6.1, hd1, PyData.depth, a1, a2, r1, r2, r3, Fm.pv, e1', e2', hdn]
        · have hc : n % 10 < 6 → ¬ (1 : Int) < (d' : Int) + 1 := by lia
          rcases (by lia : n % 10 % 2 = 0 ∨ n % 10 % 2 = 1) with hp | hp
          · refine ⟨.both g1 g2, by simp only [Fm.dep]; lia, ?_⟩
            by_cases h66 : n % 10 < 6
            · simp [eqF, inF, b19, eqv_int, hn, h3, h66, hc h66, PyData.depth, a1, a2, r1, r2, Fm.pv, hdn, hp, atI, ixN]
            · simp [eqF, inF, b19, eqv_int, hn, h3, h66, PyData.depth, a1, a2, r1, r2, Fm.pv, hdn, hp, atI, ixN]
          · refine ⟨.either g1 g2, by simp only [Fm.dep]; lia, ?_⟩
            by_cases h66 : n % 10 < 6
            · simp [eqF, inF, b19, eqv_int, hn, h3, h66, hc h66, PyData.depth, a1, a2, r1, r2, Fm.pv, hdn, hp, atI, ixN]
            · simp [eqF, inF, b19, eqv_int, hn, h3, h66, PyData.depth, a1, a2, r1, r2, Fm.pv, hdn, hp, atI, ixN]
end DD
set_option maxRecDepth 100000
set_option linter.unusedSimpArgs false
namespace DD
open PySem
theorem loop_by {tg : Tg} {g : Env → Option Out} (I : Nat → Env → Prop) : ∀ (xs : List PV) (k : Nat), (∀ i x ρ, xs[i]? = some x → I (k + i) ρ → ∃ ρ1 ρ2, bindS tg x ρ = some ρ1 ∧ g ρ1 = some (.nx ρ2) ∧ I (k + i + 1) ρ2) →
    ∀ ρ, I k ρ → ∃ ρ', loopF tg g xs ρ = some (.nx ρ') ∧ I (k + xs.length) ρ'
  | [], k, _, ρ, h => ⟨ρ, rfl, h⟩
  | x :: xs, k, hs, ρ, h => by
    obtain ⟨ρ1, ρ2, e1, e2, h2⟩ := hs 0 x ρ rfl h
    obtain ⟨ρ', e3, h3⟩ := loop_by (tg := tg) (g := g) I xs (k + 1) (fun i y ρ e h => by
      have := hs (i + 1) y ρ (by simpa using e) (by rw [show k + (i + 1) = k + 1 + i from by lia]; exact h)
      rw [show k + (i + 1) + 1 = k + 1 + i + 1 from by lia] at this
      exact this) ρ2 h2
    refine ⟨ρ', ?_, ?_⟩
    · unfold loopF
      rw [e1, bnd_some, e2, turnO_nx]
      exact e3
    · rw [List.length_cons, show k + (xs.length + 1) = k + 1 + xs.length from by lia]
      exact h3
theorem comp_by {α : Type} {g : PV → Option (Option PV)} (c : α → PV) (p : α → Bool) (f : α → PV) : ∀ (xs : List α), (∀ x ∈ xs, g (c x) = some (if p x then some (f x) else none)) → compF g (xs.map c) = some ((xs.filter p).map f)
  | [], _ => rfl
  | x :: xs, h => by
    have h1 := h x List.mem_cons_self
    have h2 := comp_by c p f xs fun y hy => h y (List.mem_cons_of_mem _ hy)
    rw [List.map_cons]
    unfold compF
    rw [h1, h2]
    cases hp : p x <;> simp [eqF, inF, hp]
theorem comp_all {α : Type} {g : PV → Option (Option PV)} (c f : α → PV) (xs : List α) (h : ∀ x ∈ xs, g (c x) = some (some (f x))) : compF g (xs.map c) = some (xs.map f) := by
  have := comp_by (g := g) c (fun _ => true) f xs fun x hx => by simpa using h x hx
  rw [this]; congr 2; exact List.filter_eq_self.mpr fun _ _ => rfl
inductive Qt where
  | each | some
  deriving DecidableEq
noncomputable def Qt.s : Qt → Str
  | .each => "each"
  | .some => "some"
structure Dm where
  one : Qt
  other : Qt
  f : Fm
noncomputable def Dm.pv (d : Dm) : PV := .tuple [.str d.one.s, .str d.other.s, d.f.pv]
@[simp] theorem isDict_dm (d : Dm) : isDict d.pv = false := by first | rfl | simp [eqF, inF, Dm.pv]
noncomputable def Dm.mark (d : Dm) : Bool := decide (d.one = .some) && decide (d.other = .each)
noncomputable def rowPv (r : List Dm) : PV := .tuple (r.map Dm.pv)
@[simp] theorem isDict_row (r : List Dm) : isDict (rowPv r) = false := by first | rfl | simp [eqF, inF, rowPv]
theorem mark_eqv (a b : Qt) : PyData.eqv (.tuple [.str a.s, .str b.s]) (.tuple [.str "some", .str "each"]) = (decide (a = .some) && decide (b = .each)) := by
  cases a <;> cases b <;> decide +kernel
theorem depth_two (a b : Str) : (PyData.tuple [.str a, .str b]).depth = 1 := by first | rfl | simp [eqF, inF, PyData.depth, PyData.depthAll]
theorem demand_ex {T : Tab} (h18 : T 18 = some f18) (h19 : T 19 = some f19) (h20 : T 20 = some f20) (e : Nat) (n : Int) (k : Nat) : ∃ d : Dm, d.f.dep ≤ e ∧ run T (k + e + 3) 20 [.int n, .int e] = some d.pv := by
  rw [run_at h20 rfl]
  obtain ⟨f, hf, rf⟩ := form_ex h18 h19 e (n / 12) k
  have one : ∃ a : Qt, atI [PyData.str "each", .str "each", .str "each", .str "some"] (n % 4) = some (.str a.s) := by
    rcases (by lia : n % 4 = 0 ∨ n % 4 = 1 ∨ n % 4 = 2 ∨ n % 4 = 3) with h | h | h | h <;> rw [h]
    · exact ⟨.each, rfl⟩
    · exact ⟨.each, rfl⟩
    · exact ⟨.each, rfl⟩
    · exact ⟨.some, rfl⟩
  have two : ∃ a : Qt, atI [PyData.str "some", .str "each", .str "some"] (n / 4 % 3) = some (.str a.s) := by
    rcases (by lia : n / 4 % 3 = 0 ∨ n / 4 % 3 = 1 ∨ n / 4 % 3 = 2) with h | h | h <;> rw [h]
    · exact ⟨.some, rfl⟩
    · exact ⟨.each, rfl⟩
    · exact ⟨.some, rfl⟩
  obtain ⟨a, ea⟩ := one
  obtain ⟨b, eb⟩ := two
  refine ⟨⟨a, b, f⟩, hf, ?_⟩
  simp [eqF, inF, b20, ea, eb, rf, Dm.pv]
noncomputable def marks (r : List Dm) : Nat := (r.filter Dm.mark).length
structure RowOk (m e : Nat) (r : List Dm) : Prop where
  len : r.length ≤ m
  dep : ∀ d ∈ r, d.f.dep ≤ e
  two : marks r ≤ 2
theorem cut2 (a b c : PV) : cut [a, b, c] none (some 2) = [a, b] := by
  simp [eqF, inF, cut, sIx]
theorem depth_int (i : Int) : (PyData.int i).depth = 0 := by first | rfl | simp [eqF, inF, PyData.depth]
theorem depth_str (i : Str) : (PyData.str i).depth = 0 := by first | rfl | simp [eqF, inF, PyData.depth]
theorem rng_run {cf : Nat → List PV → Option PV} {a : E} {ρ : Env} {j : Nat} (h : evE cf a ρ = some (.int j)) (hj : j ≤ 1000000) : evE cf (.rng a) ρ = some (.list ((List.range j).map fun k => .int (k : Nat))) := by
  rw [evE, h, bnd_some]
  have c : -1000000 ≤ (0 : Int) ∧ (0 : Int) ≤ 1000000 ∧ -1000000 ≤ (j : Int) ∧ (j : Int) ≤ 1000000 := ⟨by decide, by decide, by lia, by lia⟩
  simp only [rngI, rngF]
  rw [if_pos c]
  simp
theorem loop_run {cf : Nat → List PV → Option PV} {t : Tg} {it : E} {body : S} {ρ : Env} {p : PV} {xs : List PV} {o : Option Out} (h : evE cf it ρ = some p) (hx : seqOf p = some xs) (hl : loopF t (evS cf body) xs ρ = o) : evS cf (.loop t it body) ρ = o := by
  rw [evS, h, bnd_some, hx]; exact hl
theorem marks_snoc (r : List Dm) (d : Dm) : marks (r ++ [d]) = marks r + (if d.mark then 1 else 0) := by
  unfold marks
  rw [List.filter_append, List.length_append]
  cases h : d.mark <;> simp [eqF, inF, h]
theorem mark_is (d : Dm) : PyData.eqv (.tuple [.str d.one.s, .str d.other.s]) (.tuple [.str "some", .str "each"]) = d.mark := mark_eqv d.one d.other
theorem seq_nx {cf : Nat → List PV → Option PV} {a b : S} {ρ ρ1 : Env} {o : Option Out} (h1 : evS cf a ρ = some (.nx ρ1)) (h2 : evS cf b ρ1 = o) : evS cf (.seq a b) ρ = o := by
  rw [evS, h1]; exact h2
theorem seq_rt {cf : Nat → List PV → Option PV} {a b : S} {ρ : Env} {p : PV} (h1 : evS cf a ρ = some (.rt p)) : evS cf (.seq a b) ρ = some (.rt p) := by
  rw [evS, h1]; rfl
theorem set_nx {cf : Nat → List PV → Option PV} {i : Nat} {e : E} {ρ : Env} {p : PV} (h : evE cf e ρ = some p) : evS cf (.set i e) ρ = some (.nx (ρ.set i (.val p))) := by
  rw [evS, h]; rfl
theorem ret_rt {cf : Nat → List PV → Option PV} {e : E} {ρ : Env} {p : PV} (h : evE cf e ρ = some p) : evS cf (.ret e) ρ = some (.rt p) := by
  rw [evS, h]; rfl
theorem ife_t {cf : Nat → List PV → Option PV} {c : E} {a b : S} {ρ : Env} {p : PV} {o : Option Out} (h : evE cf c ρ = some p) (t : truthF p = some true) (h2 : evS cf a ρ = o) : evS cf (.ife c a b) ρ = o := by
  rw [evS, h, bnd_some, t]; exact h2
theorem ife_f {cf : Nat → List PV → Option PV} {c : E} {a b : S} {ρ : Env} {p : PV} {o : Option Out} (h : evE cf c ρ = some p) (t : truthF p = some false) (h2 : evS cf b ρ = o) : evS cf (.ife c a b) ρ = o := by
  rw [evS, h, bnd_some, t]; exact h2
theorem ife_b {cf : Nat → List PV → Option PV} {c : E} {a b : S} {ρ : Env} {t : Bool} {o : Option Out} (h : evE cf c ρ = some (.bool t)) (h1 : t = true → evS cf a ρ = o) (h2 : t = false → evS cf b ρ = o) : evS cf (.ife c a b) ρ = o := by
  cases t with
  | true => exact ife_t h rfl (h1 rfl)
  | false => exact ife_f h rfl (h2 rfl)
theorem row_marks (cf : Nat → List PV → Option PV) (r : List Dm) (ρ : Env) (e : evE cf (.var 2) ρ = some (rowPv r)) :
    evE cf (.comp none [] (.var 2) (.op2 .eq (.sl (.var 0) (.con .none) (.con (.int 2))) (.tup (.cons (.con (.str "some")) (.cons (.con (.str "each")) .nil)))) (.var 0)) ρ = some (.list ((r.filter Dm.mark).map Dm.pv)) := by
  rw [evE, e]
  simp only [rowPv, bnd_some, seqOf]
  rw [comp_by Dm.pv Dm.mark Dm.pv r]
  · rfl
  · intro d _
    simp [eqF, inF, Dm.pv, cut2, depth_two, mark_is]
    cases h : d.mark <;> simp
theorem row_turn {T : Tab} (h18 : T 18 = some f18) (h19 : T 19 = some f19) (h20 : T 20 = some f20) (k : Nat) (n j : Int) (m : PV) (r : List Dm) (hr : marks r ≤ 2) (hl : r.length ≤ 100) (s4 s5 : Sl) :
    ∃ (d : Dm) (t4 t5 : Sl), d.f.dep ≤ 3 ∧ marks (r ++ [d]) ≤ 2 ∧
      evS (run T (k + 6)) b21l0 [.val (.int n), .val m, .val (rowPv r), .val (.int j), s4, s5] = some (.nx [.val (.int n), .val m, .val (rowPv (r ++ [d])), .val (.int j), t4, t5]) := by
  obtain ⟨d, hd, ed⟩ := demand_ex h18 h19 h20 3 (drawnI n j) k
  have ed' : run T (k + 6) 20 [.int (drawnI n j), .int 3] = some d.pv := ed
  have em := row_marks (run T (k + 6)) r [.val (.int n), .val m, .val (rowPv r), .val (.int j), .val d.pv, s5] (by first | rfl | simp)
  have dr := drawn_run h18 (k + 5) n j
  have hll : r.length + 1 ≤ 16777216 := by lia
  have hml : ((r.filter Dm.mark).length : Int) = (marks r : Int) := rfl
  refine ⟨if d.mark = true ∧ marks r = 2 then ⟨.each, .some, d.f⟩ else d, .val (if d.mark = true ∧ marks r = 2 then (⟨.each, .some, d.f⟩ : Dm) else d).pv, .val (.list ((r.filter Dm.mark).map Dm.pv)), ?_, ?_, ?_⟩
  · split <;> exact hd
  · rw [marks_snoc]
    split
    · have : (⟨.each, .some, d.f⟩ : Dm).mark = false := rfl
      rw [this]; simpa using hr
    · rename_i hc
      cases hm : d.mark with
      | false => simpa using hr
      | true => have : marks r ≠ 2 := fun z => hc ⟨hm, z⟩
                simp; lia
  · unfold b21l0
    refine seq_nx (set_nx (p := d.pv) (by first | rfl | simp [eqF, inF, dr, ed'])) ?_
    refine seq_nx (set_nx em) ?_
    have ec : evE (run T (k + 6)) (.and (.op2 .eq (.sl (.var 4) (.con .none) (.con (.int 2))) (.tup (.cons (.con (.str "some")) (.cons (.con (.str "each")) .nil)))) (.op2 .eq (.op1 .len (.var 5)) (.con (.int 2))))
        [.val (.int n), .val m, .val (rowPv r), .val (.int j), .val d.pv, .val (.list ((r.filter Dm.mark).map Dm.pv))] = some (.bool (decide (d.mark = true ∧ marks r = 2))) := by
      cases hm : d.mark with
      | false => simp [eqF, inF, Dm.pv, cut2, depth_two, mark_is, hm]
      | true =>
        have hq : decide (((r.filter Dm.mark).length : Int) = 2) = decide (marks r = 2) := by
          rw [hml]
          by_cases h2 : marks r = 2
          · simp [eqF, inF, h2]
          · have h3 : ¬ ((marks r : Nat) : Int) = 2 := by lia
            simp [eqF, inF, h2, h3]
        simp [eqF, inF, Dm.pv, cut2, depth_two, mark_is, hm, depth_int, eqv_int]; lia
    refine seq_nx (ρ1 := [.val (.int n), .val m, .val (rowPv r), .val (.int j), .val (if d.mark = true ∧ marks r = 2 then (⟨.each, .some, d.f⟩ : Dm) else d).pv, .val (.list ((r.filter Dm.mark).map Dm.pv))]) (ife_b ec (fun ht => ?_) (fun hf => ?_)) ?_
    · have ht' := of_decide_eq_true ht
      rw [if_pos ht']
      refine set_nx (by first | rfl | simp [eqF, inF, Dm.pv, atI, ixN, Qt.s])
    · have hf' := of_decide_eq_false hf
      rw [if_neg hf']
      rfl
    · refine set_nx (p := rowPv (r ++ [if d.mark = true ∧ marks r = 2 then ⟨.each, .some, d.f⟩ else d])) ?_
      simp [eqF, inF, rowPv, hll]
theorem row_ex {T : Tab} (h18 : T 18 = some f18) (h19 : T 19 = some f19) (h20 : T 20 = some f20) (h21 : T 21 = some f21) (m : Nat) (hm : m ≤ 10) (n : Int) (k : Nat) :
    ∃ r : List Dm, RowOk m 3 r ∧ run T (k + 7) 21 [.int n, .int m] = some (rowPv r) := by
  rw [run_at h21 rfl]
  have hm0 : (0 : Int) < (m : Int) + 1 := by lia
  have hn0 : 0 ≤ n % ((m : Int) + 1) := Int.emod_nonneg _ (by lia)
  have hn1 : n % ((m : Int) + 1) < (m : Int) + 1 := Int.emod_lt_of_pos _ hm0
  obtain ⟨j, ej⟩ : ∃ j : Nat, n % ((m : Int) + 1) = (j : Int) := ⟨(n % ((m : Int) + 1)).toNat, by lia⟩
  have hj : j ≤ m := by lia
  obtain ⟨ρ', e1, hI⟩ := loop_by (tg := .one 3) (g := evS (run T (k + 6)) b21l0)
    (fun i ρ => i ≤ m → ∃ r : List Dm, r.length = i ∧ (∀ d ∈ r, d.f.dep ≤ 3) ∧ marks r ≤ 2 ∧ ∃ s3 s4 s5, ρ = [.val (.int n), .val (.int m), .val (rowPv r), s3, s4, s5])
    ((List.range j).map fun k => .int (k : Nat)) 0 (fun i x ρ ex hI => by
      have hi : i < j := by simpa using (List.getElem?_eq_some_iff.mp ex).1
      have ex' : PyData.int (i : Nat) = x := by simpa [hi] using ex
      subst ex'
      by_cases him : 0 + i ≤ m
      · obtain ⟨r, hl, hd, h2, s3, s4, s5, rfl⟩ := hI him
        obtain ⟨d, t4, t5, dd, d2, ee⟩ := row_turn h18 h19 h20 k n (i : Nat) (.int m) r h2 (by lia) s4 s5
        refine ⟨_, _, rfl, ee, fun _ => ⟨r ++ [d], by first | rfl | simp [eqF, inF, hl], fun c hc => ?_, d2, _, _, _, rfl⟩⟩
        rcases List.mem_append.mp hc with hc | hc
        · exact hd c hc
        · rw [List.mem_singleton.mp hc]; exact dd
      · lia) [.val (.int n), .val (.int m), .val (.tuple []), .un, .un, .un] (fun _ => ⟨[], rfl, by simp, by first | rfl | simp [eqF, inF, marks], _, _, _, rfl⟩)
  obtain ⟨r, hl, hd, h2, s3, s4, s5, rfl⟩ := hI (by simp; lia)
  have hl' : r.length ≤ m := by rw [hl]; simp; lia
  refine ⟨r, ⟨hl', hd, h2⟩, ?_⟩
  have body : evS (run T (k + 6)) b21 (start f21 [.int n, .int m]) = some (.rt (rowPv r)) := by
    unfold b21
    refine seq_nx (set_nx (p := .tuple []) (by first | rfl | simp)) ?_
    refine seq_nx (loop_run (rng_run (j := j) ?_ (by lia)) rfl e1) (ret_rt (by first | rfl | simp))
    simp [eqF, inF, hm0, ej]
  exact congrArg outV body
end DD
set_option maxRecDepth 100000
set_option linter.unusedSimpArgs false
namespace DD
open PySem
theorem cell_ex {T : Tab} (h16 : T 16 = some f16) (k : Nat) (ns : List Int) (j : Nat) : ∃ c : Int, run T (k + 1) 16 [.list (ns.map .int), .int j] = some (.int c) := by
  rw [run_at h16 rfl]
  by_cases h : (j : Int) < (ns.length : Int)
  · refine ⟨ns.getD j 0, ?_⟩
    have hj : j < ns.length := by lia
    simp [eqF, inF, b16, h, atI, ixN, hj]
  · have hj : ¬ j < ns.length := by lia
    refine ⟨0, ?_⟩
    simp [eqF, inF, b16, h, hj]
theorem mixed_ex {T : Tab} (h16 : T 16 = some f16) (h17 : T 17 = some f17) (k : Nat) (ns : List Int) (j : Nat) : ∃ c : Int, 0 ≤ c ∧ c < 2147483629 ∧ run T (k + 2) 17 [.list (ns.map .int), .int j] = some (.int c) := by
  obtain ⟨c, hc⟩ := cell_ex h16 k ns j
  rw [run_at h17 rfl]
  have e : small ((c + 7919 * (j : Int) + 1) * 48271 % 2147483647) = true := small_mod (by decide) (by decide)
  refine ⟨((c + 7919 * (j : Int) + 1) * 48271 % 2147483647 * ((c + 7919 * (j : Int) + 1) * 48271 % 2147483647) + 7 * ((c + 7919 * (j : Int) + 1) * 48271 % 2147483647) + j) % 2147483629, Int.emod_nonneg _ (by decide), Int.emod_lt_of_pos _ (by decide), ?_⟩
  simp [eqF, inF, b17, hc, e, show small 7919 = true from by decide, show small 48271 = true from by decide, show small 7 = true from by decide]
end DD
set_option maxRecDepth 100000
set_option linter.unusedSimpArgs false
namespace DD
open PySem
end DD
set_option maxRecDepth 100000
set_option linter.unusedSimpArgs false
namespace DD
open PySem
inductive Pl : PV → Prop where
  | none : Pl .none
  | bool (b : Bool) : Pl (.bool b)
  | int (i : Int) : Pl (.int i)
  | str (x : Str) : Pl (.str x)
  | list {ps : List PV} (h : ∀ p ∈ ps, Pl p) : Pl (.list ps)
  | tuple {ps : List PV} (h : ∀ p ∈ ps, Pl p) : Pl (.tuple ps)
theorem Pl.nd {p : PV} (h : Pl p) : isDict p = false := by cases h <;> rfl
theorem Pl.mem {ps : List PV} (h : Pl (.tuple ps)) : ∀ p ∈ ps, Pl p := by cases h; assumption
@[simp] theorem ite_and (x y : Bool) : (if x = true then some (PyData.bool y) else some (PyData.bool x)) = some (.bool (x && y)) := by cases x <;> rfl
@[simp] theorem ite_and' (x y : Bool) : (if x = true then some (PyData.bool y) else some (PyData.bool false)) = some (.bool (x && y)) := by cases x <;> rfl
@[simp] theorem ite_or (x y : Bool) : (if x = true then some (PyData.bool x) else some (PyData.bool y)) = some (.bool (x || y)) := by cases x <;> rfl
@[simp] theorem ite_or' (x y : Bool) : (if x = true then some (PyData.bool true) else some (PyData.bool y)) = some (.bool (x || y)) := by cases x <;> rfl
noncomputable def isS (s : Str) : PV → Bool
  | .str t => decide (t = s)
  | _ => false
@[simp] theorem isS_e (s t : Str) : isS s (.str t) = decide (t = s) := rfl
theorem beq_dec (s t : Str) : (s == t) = decide (s = t) := by
  by_cases h : s = t
  · simp [h]
  · rw [beq_eq_false_iff_ne.mpr h, decide_eq_false h]
theorem eqv_l (p : PV) (s : Str) : PyData.eqv p (.str s) = isS s p := by cases p <;> simp [PyData.eqv, isS, beq_dec]
theorem eqv_r (p : PV) (s : Str) : PyData.eqv (.str s) p = isS s p := by
  cases p <;> simp [PyData.eqv, isS, beq_dec, eq_comm]
theorem eq_s (p : PV) (s : Str) (h : isDict p = false) : eqF p (.str s) = some (isS s p) := by
  simp [eqF, h, eqv_l, depth_str]
noncomputable def in2 (s t : Str) (p : PV) : Bool := isS s p || isS t p
noncomputable def in3 (s t u : Str) (p : PV) : Bool := isS s p || (isS t p || isS u p)
theorem in_2 (p : PV) (s t : Str) (h : isDict p = false) : inF p (.tuple [.str s, .str t]) = some (in2 s t p) := by
  have e : min (PyData.depthAll [.str s, .str t]) p.depth ≤ 180 := by first | rfl | simp [PyData.depthAll, depth_str]
  simp only [inF, h, e]
  simp [eqv_r, in2]
theorem in_3 (p : PV) (s t u : Str) (h : isDict p = false) : inF p (.tuple [.str s, .str t, .str u]) = some (in3 s t u p) := by
  have e : min (PyData.depthAll [.str s, .str t, .str u]) p.depth ≤ 180 := by first | rfl | simp [PyData.depthAll, depth_str]
  simp only [inF, h, e]
  simp [eqv_r, in3]
theorem eq_ii (i j : Int) : eqF (.int i) (.int j) = some (decide (i = j)) := by first | rfl | simp [eqF, eqv_int, depth_int]
noncomputable abbrev nmB (p : PV) : Bool := in2 "x" "y" p
noncomputable def markFm : PV → Bool
  | .tuple [w, q] => in2 "a" "b" w && nmB q
  | _ => false
noncomputable def arrowFm : PV → Bool
  | .tuple [w, q, r] => isS "to" w && (nmB q && nmB r)
  | _ => false
noncomputable def flatB (p : PV) : Bool := in2 "yes" "no" p || (markFm p || arrowFm p)
noncomputable def deepB (g : PV → Bool) : PV → Bool
  | .tuple [w, q] => isS "not" w && g q
  | .tuple [w, q, r] => in2 "both" "either" w && (g q && g r)
  | _ => false
noncomputable def formB : Nat → PV → Bool
  | 0, p => flatB p
  | d + 1, p => flatB p || deepB (formB d) p
noncomputable def tupN (n : Nat) : PV → Bool
  | .tuple xs => decide (xs.length = n)
  | _ => false
theorem tup0 {T : Tab} (h : T 0 = some f0) (k : Nat) (p : PV) (n : Nat) (hp : isDict p = false) : run T (k + 1) 0 [p, .int n] = some (.bool (tupN n p)) := by
  rw [run_at h rfl]
  cases p with
  | tuple xs =>
    have e : ((xs.length : Int) = (n : Int)) ↔ (xs.length = n) := by lia
    simp [b0, tupN, eq_ii, e]
  | dict kvs => cases hp
  | _ => simp [b0, tupN]
theorem len2 {xs : List PV} (h : xs.length = 2) : ∃ a b, xs = [a, b] := by
  match xs, h with
  | [a, b], _ => exact ⟨a, b, rfl⟩
theorem len3 {xs : List PV} (h : xs.length = 3) : ∃ a b c, xs = [a, b, c] := by
  match xs, h with
  | [a, b, c], _ => exact ⟨a, b, c, rfl⟩
theorem deepB_f {g : PV → Bool} {p : PV} (h2 : tupN 2 p = false) (h3 : tupN 3 p = false) : deepB g p = false := by
  unfold deepB
  split
  · simp [tupN] at h2
  · simp [tupN] at h3
  · rfl
theorem markFm_f {p : PV} (h : tupN 2 p = false) : markFm p = false := by
  unfold markFm
  split
  · simp [tupN] at h
  · rfl
theorem arrowFm_f {p : PV} (h : tupN 3 p = false) : arrowFm p = false := by
  unfold arrowFm
  split
  · simp [tupN] at h
  · rfl
theorem mark2 {T : Tab} (h0 : T 0 = some f0) (h : T 2 = some f2) (k : Nat) (p : PV) (hp : Pl p) : run T (k + 2) 2 [p] = some (.bool (markFm p)) := by
  rw [run_at h rfl]
  have t := tup0 h0 k p 2 hp.nd
  simp only [Int.cast_ofNat_Int] at t
  cases e : tupN 2 p with
  | false => simp [b2, t, e, markFm_f e]
  | true =>
    cases p with
    | tuple xs =>
      obtain ⟨a, b, rfl⟩ := len2 (by simpa [tupN] using e)
      have ha := (hp.mem a (by first | rfl | simp)).nd
      have hb := (hp.mem b (by first | rfl | simp)).nd
      rw [e] at t
      cases e1 : in2 "a" "b" a <;> simp [b2, t, in_2, atI, ixN, ha, hb, markFm, e1]
    | _ => simp [tupN] at e
theorem arrow3 {T : Tab} (h0 : T 0 = some f0) (h : T 3 = some f3) (k : Nat) (p : PV) (hp : Pl p) : run T (k + 2) 3 [p] = some (.bool (arrowFm p)) := by
  rw [run_at h rfl]
  have t := tup0 h0 k p 3 hp.nd
  simp only [Int.cast_ofNat_Int] at t
  cases e : tupN 3 p with
  | false => simp [b3, t, e, arrowFm_f e]
  | true =>
    cases p with
    | tuple xs =>
      obtain ⟨a, b, c, rfl⟩ := len3 (by simpa [tupN] using e)
      have ha := (hp.mem a (by first | rfl | simp)).nd
      have hb := (hp.mem b (by first | rfl | simp)).nd
      have hc := (hp.mem c (by first | rfl | simp)).nd
      rw [e] at t
      cases e1 : isS "to" a <;> cases e2 : in2 "x" "y" b <;> simp [b3, t, in_2, eq_s, atI, ixN, ha, hb, hc, arrowFm, e1, e2]
    | _ => simp [tupN] at e
theorem flat4 {T : Tab} (h0 : T 0 = some f0) (h2 : T 2 = some f2) (h3 : T 3 = some f3) (h : T 4 = some f4) (k : Nat) (p : PV) (hp : Pl p) : run T (k + 3) 4 [p] = some (.bool (flatB p)) := by
  rw [run_at h rfl]
  have t2 := mark2 h0 h2 k p hp
  have t3 := arrow3 h0 h3 k p hp
  unfold flatB
  cases e1 : in2 "yes" "no" p <;> cases e2 : markFm p <;> simp [b4, t2, t3, in_2, hp.nd, e1, e2]
theorem form5 {T : Tab} (h0 : T 0 = some f0) (h2 : T 2 = some f2) (h3 : T 3 = some f3) (h4 : T 4 = some f4) (h : T 5 = some f5) : ∀ (d k : Nat) (p : PV), Pl p → run T (k + d + 4) 5 [p, .int d] = some (.bool (formB d p)) := by
  intro d
  induction d with
  | zero =>
    intro k p hp
    rw [run_at h rfl]
    have t4 := flat4 h0 h2 h3 h4 k p hp
    unfold formB
    cases e1 : flatB p <;> simp [b5, t4, e1, eq_ii]
  | succ d ih =>
    intro k p hp
    rw [show k + (d + 1) + 4 = (k + d + 4) + 1 from by lia, run_at h rfl]
    have t4 := flat4 h0 h2 h3 h4 (k + d + 1) p hp
    have t02 := tup0 h0 (k + d + 3) p 2 hp.nd
    have t03 := tup0 h0 (k + d + 3) p 3 hp.nd
    simp only [Int.cast_ofNat_Int] at t02 t03
    have hd0 : ¬ ((d : Int) + 1 = 0) := by lia
    have hd1 : (d : Int) + 1 - 1 = d := by lia
    unfold formB
    cases e1 : flatB p with
    | true => simp [b5, t4, e1]
    | false =>
      cases e2 : tupN 2 p with
      | true =>
        cases p with
        | tuple xs =>
          obtain ⟨a, b, rfl⟩ := len2 (by simpa [tupN] using e2)
          have ha := (hp.mem a (by first | rfl | simp)).nd
          have ih' := ih k b (hp.mem b (by first | rfl | simp))
          rw [e2] at t02
          have e3 : tupN 3 (.tuple [a, b]) = false := rfl
          rw [e3] at t03
          cases e4 : isS "not" a <;> simp [b5, t4, e1, eq_ii, t02, t03, atI, ixN, eq_s, ha, e4, ih', hd0, hd1, deepB]
        | _ => simp [tupN] at e2
      | false =>
        cases e3 : tupN 3 p with
        | true =>
          cases p with
          | tuple xs =>
            obtain ⟨a, b, c, rfl⟩ := len3 (by simpa [tupN] using e3)
            have ha := (hp.mem a (by first | rfl | simp)).nd
            have ihb := ih k b (hp.mem b (by first | rfl | simp))
            have ihc := ih k c (hp.mem c (by first | rfl | simp))
            rw [e2] at t02
            rw [e3] at t03
            cases e4 : in2 "both" "either" a <;> cases e5 : formB d b <;> simp [b5, t4, e1, eq_ii, t02, t03, atI, ixN, in_2, ha, e4, e5, ihb, ihc, hd0, hd1, deepB]
          | _ => simp [tupN] at e3
        | false =>
          rw [e2] at t02
          rw [e3] at t03
          have e6 := deepB_f (g := formB d) e2 e3
          simp [b5, t4, e1, eq_ii, t02, t03, hd0, e6]
theorem form6 {T : Tab} (h0 : T 0 = some f0) (h2 : T 2 = some f2) (h3 : T 3 = some f3) (h4 : T 4 = some f4) (h5 : T 5 = some f5) (h : T 6 = some f6) (k : Nat) (p : PV) (hp : Pl p) : run T (k + 10) 6 [p] = some (.bool (formB 5 p)) := by
  rw [run_at h rfl]
  have t := form5 h0 h2 h3 h4 h5 5 k p hp
  simp only [Int.cast_ofNat_Int] at t
  simp [b6, t]
end DD
set_option maxRecDepth 100000
set_option linter.unusedSimpArgs false
namespace DD
open PySem
theorem in2_str {s t : Str} {p : PV} (h : strB p = false) : in2 s t p = false := by cases p <;> first | rfl | cases h
theorem isS_str {s : Str} {p : PV} (h : strB p = false) : isS s p = false := by cases p <;> first | rfl | cases h
theorem eq_nilL (ys : List PV) : eqF (.list ys) (.list []) = some ys.isEmpty := by
  have d : min (PyData.depth (.list ys)) (PyData.depth (.list [])) ≤ 180 := by
    have : PyData.depth (.list []) = 1 := by first | rfl | simp [PyData.depth, PyData.depthAll]
    rw [this]; lia
  unfold eqF
  rw [if_neg (by first | rfl | simp), if_pos d]
  cases ys <;> simp [PyData.eqv, PyData.eqvAll]
theorem cut1 (a : PV) (r : List PV) : cut (a :: r) (some 1) none = r := by
  simp [cut, sIx]
theorem at0 (a : PV) (r : List PV) : atI (a :: r) 0 = some a := by
  have : ixN (a :: r).length 0 = some 0 := by
    unfold ixN
    rw [if_pos (by lia), if_pos (by first | rfl | simp)]; rfl
  unfold atI
  rw [this]; rfl
theorem flatB_nt {p : PV} (h1 : strB p = false) (h2 : tupB p = false) : flatB p = false := by
  cases p with
  | str _ => cases h1
  | tuple _ => cases h2
  | _ => rfl
theorem formB_w {d : Nat} {a : PV} {r : List PV} (h : strB a = false) : formB d (.tuple (a :: r)) = false := by
  have i2 : ∀ s t, in2 s t a = false := fun _ _ => in2_str h
  have i1 : ∀ s, isS s a = false := fun _ => isS_str h
  have f : flatB (.tuple (a :: r)) = false := by
    have z : in2 "yes" "no" (.tuple (a :: r)) = false := rfl
    match r with
    | [] => rfl
    | [_] => simp [flatB, markFm, arrowFm, i2, i1, z]
    | [_, _] => simp [flatB, markFm, arrowFm, i2, i1, z]
    | _ :: _ :: _ :: _ => rfl
  have g : ∀ g, deepB g (.tuple (a :: r)) = false := by
    intro g
    match r with
    | [] => rfl
    | [_] => simp [deepB, i1]
    | [_, _] => simp [deepB, i2]
    | _ :: _ :: _ :: _ => rfl
  cases d <;> simp [formB, f, g]
theorem words : ¬ ("a" : Str) = "b" ∧ ¬ ("a" : Str) = "to" ∧ ¬ ("b" : Str) = "a" ∧ ¬ ("b" : Str) = "to" ∧ ¬ ("to" : Str) = "a" ∧ ¬ ("to" : Str) = "b" ∧
    ¬ ("a" : Str) = "not" ∧ ¬ ("a" : Str) = "both" ∧ ¬ ("a" : Str) = "either" ∧ ¬ ("b" : Str) = "not" ∧ ¬ ("b" : Str) = "both" ∧ ¬ ("b" : Str) = "either" ∧
    ¬ ("to" : Str) = "not" ∧ ¬ ("to" : Str) = "both" ∧ ¬ ("to" : Str) = "either" ∧
    ¬ ("not" : Str) = "a" ∧ ¬ ("not" : Str) = "b" ∧ ¬ ("not" : Str) = "to" ∧ ¬ ("not" : Str) = "both" ∧ ¬ ("not" : Str) = "either" ∧
    ¬ ("both" : Str) = "a" ∧ ¬ ("both" : Str) = "b" ∧ ¬ ("both" : Str) = "to" ∧ ¬ ("both" : Str) = "not" ∧ ¬ ("both" : Str) = "either" ∧
    ¬ ("either" : Str) = "a" ∧ ¬ ("either" : Str) = "b" ∧ ¬ ("either" : Str) = "to" ∧ ¬ ("either" : Str) = "not" ∧ ¬ ("either" : Str) = "both" := by
  have key : ∀ s t : Str, (s == t) = false → ¬ s = t := fun s t h e => by subst e; simp at h
  refine ⟨?_, ?_, ?_, ?_, ?_, ?_, ?_, ?_, ?_, ?_, ?_, ?_, ?_, ?_, ?_, ?_, ?_, ?_, ?_, ?_, ?_, ?_, ?_, ?_, ?_, ?_, ?_, ?_, ?_, ?_⟩ <;> exact key _ _ (by decide +kernel)
theorem comp_self {cf : Nat → List PV → Option PV} {caps : List Nat} {it cond : E} {ρ : Env} {s : PV} {xs : List PV} (P : PV → Bool) (h : evE cf it ρ = some s) (hx : seqOf s = some xs) (hd : ∀ x ∈ xs, isDict x = false)
    (hc : ∀ x ∈ xs, evE cf cond (.val x :: caps.map (ρ.getD · .un)) = some (.bool (P x))) : evE cf (.comp none caps it cond (.var 0)) ρ = some (.list (xs.filter P)) := by
  rw [evE, h, bnd_some, hx, bnd_some]
  have key := comp_by (g := fun x => bnd (bindT none x) fun bs => bnd (evE cf cond (bs ++ caps.map (ρ.getD · .un))) fun c => bnd (truthF c) fun t => tst t (bnd (evE cf (.var 0) (bs ++ caps.map (ρ.getD · .un))) eltF) (some none)) id P id xs fun x hxm => by
    have c := hc x hxm
    simp only [id, bindT_e1, bnd_some, List.cons_append, List.nil_append, c, truthF_e2]
    cases e : P x <;> simp [hd x hxm]
  rw [List.map_id] at key
  rw [key, bnd_some, List.map_id]
theorem isE_filter (P : PV → Bool) : ∀ xs : List PV, (xs.filter fun x => !P x).isEmpty = xs.all P
  | [] => rfl
  | x :: xs => by
    have := isE_filter P xs
    cases h : P x <;> simp_all
noncomputable def lookB (d : Nat) (g : PV → Bool) (p : PV) : Bool := flatB p || (decide (0 < d) && deepB g p)
theorem lookB_nt {d : Nat} {g : PV → Bool} {p : PV} (h1 : strB p = false) (h2 : tupB p = false) : lookB d g p = false := by
  have h3 : deepB g p = false := by
    cases p with
    | tuple _ => cases h2
    | _ => rfl
  simp [lookB, flatB_nt h1 h2, h3]
theorem lookB_w {d : Nat} {g : PV → Bool} {a : PV} {r : List PV} (h : strB a = false) : lookB d g (.tuple (a :: r)) = false := by
  have f : flatB (.tuple (a :: r)) = false := by have := formB_w (d := 0) (r := r) h; simpa [formB] using this
  have f1 : deepB g (.tuple (a :: r)) = false := by
    have i2 : ∀ s t, in2 s t a = false := fun _ _ => in2_str h
    have i1 : ∀ s, isS s a = false := fun _ => isS_str h
    match r with
    | [] => rfl
    | [_] => simp [deepB, i1]
    | [_, _] => simp [deepB, i2]
    | _ :: _ :: _ :: _ => rfl
  simp [lookB, f, f1]
theorem in3_e (s t u w : Str) : in3 s t u (.str w) = (decide (w = s) || (decide (w = t) || decide (w = u))) := rfl
theorem in2_e (s t w : Str) : in2 s t (.str w) = (decide (w = s) || decide (w = t)) := rfl
theorem look26 {T : Tab} (h : T 26 = some f26) (d k : Nat) (p : PV) (hp : Pl p) (g : PV → Bool) (hg : 0 < d → ∀ q, Pl q → run T k 26 [q, .int (d - 1)] = some (.bool (g q))) : run T (k + 1) 26 [p, .int d] = some (.bool (lookB d g p)) := by
  rw [run_at h rfl]
  have key : evS (run T k) b26 [.val p, .val (.int d)] = some (.rt (.bool (lookB d g p))) := by
    unfold b26
    cases hs : strB p with
    | true =>
      cases p with
      | str s =>
        refine seq_rt (ife_t (p := .bool true) (by first | rfl | simp) rfl (ret_rt ?_))
        have : lookB d g (.str s) = in2 "yes" "no" (.str s) := by first | rfl | simp [lookB, flatB, markFm, arrowFm, deepB]
        rw [this]
        by_cases e1 : s = "yes"
        · simp [eq_s, e1, in2]
        · simp [eq_s, e1, in2]
      | _ => cases hs
    | false =>
      refine seq_nx (ife_f (p := .bool false) (by first | rfl | simp [hp.nd, hs]) rfl rfl) ?_
      cases ht : tupB p with
      | false =>
        rw [lookB_nt hs ht]
        exact seq_rt (ife_t (p := .bool true) (by first | rfl | simp [hp.nd, ht]) rfl (ret_rt (by first | rfl | simp)))
      | true =>
        cases p with
        | tuple xs =>
          match xs, hp with
          | [], hp =>
            have : lookB d g (.tuple []) = false := by first | rfl | simp [lookB, flatB, markFm, arrowFm, deepB, in2, isS]
            rw [this]
            exact seq_rt (ife_t (p := .bool true) (by first | rfl | simp) rfl (ret_rt (by first | rfl | simp)))
          | [a], hp =>
            have : lookB d g (.tuple [a]) = false := by first | rfl | simp [lookB, flatB, markFm, arrowFm, deepB, in2, isS]
            rw [this]
            exact seq_rt (ife_t (p := .bool true) (by first | rfl | simp) rfl (ret_rt (by first | rfl | simp)))
          | a :: b :: r, hp =>
            have ha := (hp.mem a (by first | rfl | simp)).nd
            have hlt : ¬ ((r.length : Int) + 1 + 1 < 2) := by lia
            cases hw : strB a with
            | false =>
              rw [lookB_w hw]
              exact seq_rt (ife_t (p := .bool true) (by first | rfl | simp [hlt, at0, ha, hw]) rfl (ret_rt (by first | rfl | simp)))
            | true =>
              cases a with
              | str w =>
                refine seq_nx (ife_f (p := .bool false) (by first | rfl | simp [hlt, at0]) rfl rfl) ?_
                have hr : ∀ x ∈ b :: r, isDict x = false := fun x hx => (hp.mem x (List.mem_cons_of_mem _ hx)).nd
                have c1 : evE (run T k) (.comp none [] (.sl (.var 0) (.con (.int 1)) (.con .none)) (.or (.not (.op1 .isStr (.var 0))) (.op2 .nin (.var 0) (.tup (.cons (.con (.str "x")) (.cons (.con (.str "y")) .nil))))) (.var 0))
                    [.val (.tuple (.str w :: b :: r)), .val (.int d)] = some (.list ((b :: r).filter fun x => !nmB x)) := by
                  refine comp_self (s := .tuple (b :: r)) (fun x => !nmB x) (by first | rfl | simp [slF, cut1]) (by first | rfl | simp) hr fun x hx => ?_
                  have hxd := hr x hx
                  cases e2 : strB x with
                  | false =>
                    have e3 : in2 "x" "y" x = false := in2_str e2
                    simp [hxd, e2, e3]
                  | true => simp [hxd, e2, in_2]
                have r1 : evE (run T k) (.op2 .eq (.comp none [] (.sl (.var 0) (.con (.int 1)) (.con .none)) (.or (.not (.op1 .isStr (.var 0))) (.op2 .nin (.var 0) (.tup (.cons (.con (.str "x")) (.cons (.con (.str "y")) .nil))))) (.var 0)) (.lst .nil))
                    [.val (.tuple (.str w :: b :: r)), .val (.int d)] = some (.bool ((b :: r).all nmB)) := by
                  rw [evE, c1, bnd_some]
                  simp only [evE, bnd_some, lstF_e1, anyD, tst_false, opF2, eq_nilL, isE_filter]
                have r2 : 0 < d → evE (run T k) (.op2 .eq (.comp none [1] (.sl (.var 0) (.con (.int 1)) (.con .none)) (.not (.call 26 (.cons (.var 0) (.cons (.op2 .sub (.var 1) (.con (.int 1))) .nil)))) (.var 0)) (.lst .nil))
                    [.val (.tuple (.str w :: b :: r)), .val (.int d)] = some (.bool ((b :: r).all g)) := by
                  intro hd
                  have c2 : evE (run T k) (.comp none [1] (.sl (.var 0) (.con (.int 1)) (.con .none)) (.not (.call 26 (.cons (.var 0) (.cons (.op2 .sub (.var 1) (.con (.int 1))) .nil)))) (.var 0))
                      [.val (.tuple (.str w :: b :: r)), .val (.int d)] = some (.list ((b :: r).filter fun x => !g x)) := by
                    refine comp_self (s := .tuple (b :: r)) (fun x => !g x) (by first | rfl | simp [slF, cut1]) (by first | rfl | simp) hr fun x hx => ?_
                    have := hg hd x (hp.mem x (List.mem_cons_of_mem _ hx))
                    simp [this]
                  rw [evE, c2, bnd_some]
                  simp only [evE, bnd_some, lstF_e1, anyD, tst_false, opF2, eq_nilL, isE_filter]
                have W := words
                by_cases wa : w = "a"
                · subst wa
                  rcases r with _ | ⟨c, r⟩
                  · have z : lookB d g (.tuple [.str "a", b]) = [b].all nmB := by first | rfl | simp [lookB, flatB, markFm, arrowFm, deepB, in2_e, W, in2, isS]
                    rw [z]
                    refine seq_rt (ife_t (p := .bool true) (by first | rfl | simp [in_3, in3_e, at0]) rfl (seq_nx (ife_f (p := .bool false) (by first | rfl | simp [at0, dlook, keyEq, W, eq_ii]) rfl rfl) (ret_rt r1)))
                  · have z : lookB d g (.tuple (.str "a" :: b :: c :: r)) = false := by
                      rcases r with _ | ⟨e, r⟩ <;> simp [lookB, flatB, markFm, arrowFm, deepB, in2_e, W, in2, isS]
                    rw [z]
                    have hl : ¬ ((r.length : Int) + 1 + 1 + 1 = 2) := by lia
                    exact seq_rt (ife_t (p := .bool true) (by first | rfl | simp [in_3, in3_e, at0]) rfl (seq_rt (ife_t (p := .bool true) (by first | rfl | simp [at0, dlook, keyEq, W, eq_ii, hl]) rfl (ret_rt (by first | rfl | simp)))))
                · by_cases wb : w = "b"
                  · subst wb
                    rcases r with _ | ⟨c, r⟩
                    · have z : lookB d g (.tuple [.str "b", b]) = [b].all nmB := by first | rfl | simp [lookB, flatB, markFm, arrowFm, deepB, in2_e, W, in2, isS]
                      rw [z]
                      refine seq_rt (ife_t (p := .bool true) (by first | rfl | simp [in_3, in3_e, at0]) rfl (seq_nx (ife_f (p := .bool false) (by first | rfl | simp [at0, dlook, keyEq, W, eq_ii]) rfl rfl) (ret_rt r1)))
                    · have z : lookB d g (.tuple (.str "b" :: b :: c :: r)) = false := by
                        rcases r with _ | ⟨e, r⟩ <;> simp [lookB, flatB, markFm, arrowFm, deepB, in2_e, W, in2, isS]
                      rw [z]
                      have hl : ¬ ((r.length : Int) + 1 + 1 + 1 = 2) := by lia
                      exact seq_rt (ife_t (p := .bool true) (by first | rfl | simp [in_3, in3_e, at0]) rfl (seq_rt (ife_t (p := .bool true) (by first | rfl | simp [at0, dlook, keyEq, W, eq_ii, hl]) rfl (ret_rt (by first | rfl | simp)))))
                  · by_cases wt : w = "to"
                    · subst wt
                      rcases r with _ | ⟨c, r⟩
                      · have z : lookB d g (.tuple [.str "to", b]) = false := by first | rfl | simp [lookB, flatB, markFm, arrowFm, deepB, in2_e, W, in2, isS]
                        rw [z]
                        exact seq_rt (ife_t (p := .bool true) (by first | rfl | simp [in_3, in3_e, at0]) rfl (seq_rt (ife_t (p := .bool true) (by first | rfl | simp [at0, dlook, keyEq, W, eq_ii]) rfl (ret_rt (by first | rfl | simp)))))
                      · rcases r with _ | ⟨e, r⟩
                        · have z : lookB d g (.tuple [.str "to", b, c]) = [b, c].all nmB := by first | rfl | simp [lookB, flatB, markFm, arrowFm, deepB, in2_e, W, in2, isS]
                          rw [z]
                          refine seq_rt (ife_t (p := .bool true) (by first | rfl | simp [in_3, in3_e, at0]) rfl (seq_nx (ife_f (p := .bool false) (by first | rfl | simp [at0, dlook, keyEq, W, eq_ii]) rfl rfl) (ret_rt r1)))
                        · have z : lookB d g (.tuple (.str "to" :: b :: c :: e :: r)) = false := by first | rfl | simp [lookB, flatB, markFm, arrowFm, deepB, in2, isS]
                          rw [z]
                          have hl : ¬ ((r.length : Int) + 1 + 1 + 1 + 1 = 3) := by lia
                          exact seq_rt (ife_t (p := .bool true) (by first | rfl | simp [in_3, in3_e, at0]) rfl (seq_rt (ife_t (p := .bool true) (by first | rfl | simp [at0, dlook, keyEq, W, eq_ii, hl]) rfl (ret_rt (by first | rfl | simp)))))
                    · refine seq_nx (ife_f (p := .bool false) (by first | rfl | simp [in_3, in3_e, at0, wa, wb, wt]) rfl rfl) ?_
                      have fl : flatB (.tuple (.str w :: b :: r)) = false := by
                        rcases r with _ | ⟨c, _ | ⟨e, r⟩⟩ <;> simp [flatB, markFm, arrowFm, in2_e, wa, wb, wt, in2, isS]
                      by_cases hd : 0 < d
                      · have hd0 : ¬ (d = 0) := by lia
                        by_cases wn : w = "not"
                        · subst wn
                          rcases r with _ | ⟨c, r⟩
                          · have z : lookB d g (.tuple [.str "not", b]) = [b].all g := by first | rfl | simp [lookB, fl, deepB, in2_e, W, hd]
                            rw [z]
                            exact seq_nx (ife_f (p := .bool false) (by first | rfl | simp [at0, dlook, keyEq, eq_ii, hd0, W]) rfl rfl) (ret_rt (r2 hd))
                          · rcases r with _ | ⟨e, r⟩
                            · have z : lookB d g (.tuple [.str "not", b, c]) = false := by first | rfl | simp [lookB, fl, deepB, in2_e, W, in2, isS, wa, wb, wt]
                              rw [z]
                              exact seq_rt (ife_t (p := .bool true) (by first | rfl | simp [at0, dlook, keyEq, eq_ii, hd0, W]) rfl (ret_rt (by first | rfl | simp)))
                            · have z : lookB d g (.tuple (.str "not" :: b :: c :: e :: r)) = false := by first | rfl | simp [lookB, fl, deepB, in2_e, W, in2, isS, wa, wb, wt]
                              rw [z]
                              have hl : ¬ ((r.length : Int) + 1 + 1 + 1 + 1 = 2) := by lia
                              exact seq_rt (ife_t (p := .bool true) (by first | rfl | simp [at0, dlook, keyEq, eq_ii, hd0, W, hl]) rfl (ret_rt (by first | rfl | simp)))
                        · by_cases wo : w = "both"
                          · subst wo
                            rcases r with _ | ⟨c, _ | ⟨e, r⟩⟩
                            · have z : lookB d g (.tuple [.str "both", b]) = false := by first | rfl | simp [lookB, fl, deepB, in2_e, W, in2, isS, wa, wb, wt]
                              rw [z]
                              exact seq_rt (ife_t (p := .bool true) (by first | rfl | simp [at0, dlook, keyEq, eq_ii, hd0, W]) rfl (ret_rt (by first | rfl | simp)))
                            · have z : lookB d g (.tuple [.str "both", b, c]) = [b, c].all g := by first | rfl | simp [lookB, fl, deepB, in2_e, W, hd]
                              rw [z]
                              exact seq_nx (ife_f (p := .bool false) (by first | rfl | simp [at0, dlook, keyEq, eq_ii, hd0, W]) rfl rfl) (ret_rt (r2 hd))
                            · have z : lookB d g (.tuple (.str "both" :: b :: c :: e :: r)) = false := by first | rfl | simp [lookB, fl, deepB, in2_e, W, in2, isS, wa, wb, wt]
                              rw [z]
                              have hl : ¬ ((r.length : Int) + 1 + 1 + 1 + 1 = 3) := by lia
                              exact seq_rt (ife_t (p := .bool true) (by first | rfl | simp [at0, dlook, keyEq, eq_ii, hd0, W, hl]) rfl (ret_rt (by first | rfl | simp)))
                          · by_cases we : w = "either"
                            · subst we
                              rcases r with _ | ⟨c, _ | ⟨e, r⟩⟩
                              · have z : lookB d g (.tuple [.str "either", b]) = false := by first | rfl | simp [lookB, fl, deepB, in2_e, W, in2, isS, wa, wb, wt]
                                rw [z]
                                exact seq_rt (ife_t (p := .bool true) (by first | rfl | simp [at0, dlook, keyEq, eq_ii, hd0, W]) rfl (ret_rt (by first | rfl | simp)))
                              · have z : lookB d g (.tuple [.str "either", b, c]) = [b, c].all g := by first | rfl | simp [lookB, fl, deepB, in2_e, W, hd]
                                rw [z]
                                exact seq_nx (ife_f (p := .bool false) (by first | rfl | simp [at0, dlook, keyEq, eq_ii, hd0, W]) rfl rfl) (ret_rt (r2 hd))
                              · have z : lookB d g (.tuple (.str "either" :: b :: c :: e :: r)) = false := by first | rfl | simp [lookB, fl, deepB, in2_e, W, in2, isS, wa, wb, wt]
                                rw [z]
                                have hl : ¬ ((r.length : Int) + 1 + 1 + 1 + 1 = 3) := by lia
                                exact seq_rt (ife_t (p := .bool true) (by first | rfl | simp [at0, dlook, keyEq, eq_ii, hd0, W, hl]) rfl (ret_rt (by first | rfl | simp)))
                            · have wn' : ¬ ("not" : Str) = w := fun e => wn e.symm
                              have wo' : ¬ ("both" : Str) = w := fun e => wo e.symm
                              have we' : ¬ ("either" : Str) = w := fun e => we e.symm
                              have dz : deepB g (.tuple (.str w :: b :: r)) = false := by
                                rcases r with _ | ⟨c, _ | ⟨e, r⟩⟩ <;> simp [deepB, in2_e, wn, wo, we]
                              have z : lookB d g (.tuple (.str w :: b :: r)) = false := by first | rfl | simp [lookB, fl, dz]
                              rw [z]
                              have hl : ¬ ((r.length : Int) + 1 + 1 = 0) := by lia
                              exact seq_rt (ife_t (p := .bool true) (by first | rfl | simp [at0, dlook, keyEq, eq_ii, hd0, wn', wo', we', hl]) rfl (ret_rt (by first | rfl | simp)))
                      · have hd0 : d = 0 := by lia
                        have z : lookB d g (.tuple (.str w :: b :: r)) = false := by first | rfl | simp [lookB, fl, hd]
                        rw [z]
                        exact seq_rt (ife_t (p := .bool true) (by first | rfl | simp [eq_ii, hd0]) rfl (ret_rt (by first | rfl | simp)))
              | _ => cases hw
        | _ => cases ht
  exact congrArg outV key
theorem lookB_form (d : Nat) (p : PV) : lookB d (formB (d - 1)) p = formB d p := by
  cases d with
  | zero => simp [lookB, formB]
  | succ d => simp [lookB, formB]
theorem law26 {T : Tab} (h : T 26 = some f26) : ∀ (d k : Nat) (p : PV), Pl p → run T (k + d + 1) 26 [p, .int d] = some (.bool (formB d p)) := by
  intro d
  induction d with
  | zero =>
    intro k p hp
    rw [← lookB_form]
    exact look26 h 0 k p hp _ fun z => absurd z (by lia)
  | succ d ih =>
    intro k p hp
    rw [← lookB_form]
    refine look26 h (d + 1) (k + (d + 1)) p hp _ fun _ q hq => ?_
    have e : ((d + 1 : Nat) : Int) - 1 = (d : Int) := by lia
    rw [e, show k + (d + 1) = k + d + 1 from by lia]
    exact ih k q hq
end DD
set_option maxRecDepth 100000
set_option linter.unusedSimpArgs false
namespace DD
open PySem
structure Strict {α : Type} (lt : α → α → Bool) : Prop where
  irr : ∀ a, lt a a = false
  tr : ∀ a b c, lt a b = true → lt b c = true → lt a c = true
  tot : ∀ a b, lt a b = false → lt b a = false → a = b
noncomputable def adj {α : Type} (lt : α → α → Bool) : List α → Bool
  | x :: y :: r => lt x y && adj lt (y :: r)
  | _ => true
theorem adj_iff {α : Type} {lt : α → α → Bool} (S : Strict lt) : ∀ xs : List α, adj lt xs = true ↔ xs.Pairwise (fun a b => lt a b = true)
  | [] => by simp [adj]
  | [x] => by simp [adj]
  | x :: y :: r => by
    have ih := adj_iff S (y :: r)
    rw [adj, Bool.and_eq_true, ih, List.pairwise_cons (a := x)]
    refine ⟨fun ⟨h1, h2⟩ => ⟨fun z hz => ?_, h2⟩, fun ⟨h1, h2⟩ => ⟨h1 y List.mem_cons_self, h2⟩⟩
    rcases List.mem_cons.mp hz with e | e
    · rw [e]; exact h1
    · exact S.tr x y z h1 ((List.pairwise_cons.mp h2).1 z e)
theorem mem_insL {α : Type} {lt : α → α → Bool} {x z : α} : ∀ xs : List α, z ∈ insL lt x xs ↔ z = x ∨ z ∈ xs
  | [] => by simp [insL]
  | y :: r => by
    rw [insL]
    split
    · rw [List.mem_cons, mem_insL r, List.mem_cons]
      constructor
      · rintro (h | h | h)
        · exact .inr (.inl h)
        · exact .inl h
        · exact .inr (.inr h)
      · rintro (h | h | h)
        · exact .inr (.inl h)
        · exact .inl h
        · exact .inr (.inr h)
    · simp
theorem mem_srtL {α : Type} {lt : α → α → Bool} {z : α} : ∀ xs : List α, z ∈ srtL lt xs ↔ z ∈ xs
  | [] => by simp [srtL]
  | x :: r => by rw [srtL, mem_insL, mem_srtL r, List.mem_cons]
theorem insL_pw {α : Type} {lt : α → α → Bool} (S : Strict lt) {x : α} : ∀ xs : List α, xs.Pairwise (fun a b => lt a b = true) → x ∉ xs → (insL lt x xs).Pairwise (fun a b => lt a b = true)
  | [], _, _ => by simp [insL]
  | y :: r, h, hx => by
    rw [List.pairwise_cons] at h
    rw [insL]
    have hne : x ≠ y := fun e => hx (by rw [e]; exact List.mem_cons_self)
    split
    · rename_i hlt
      rw [List.pairwise_cons]
      refine ⟨fun z hz => ?_, insL_pw S r h.2 fun m => hx (List.mem_cons_of_mem _ m)⟩
      rcases (mem_insL r).mp hz with e | e
      · rw [e]; exact hlt
      · exact h.1 z e
    · rename_i hlt
      have hxy : lt x y = true := by
        cases e : lt x y with
        | true => rfl
        | false => exact absurd (S.tot x y e (by simpa using hlt)) hne
      rw [List.pairwise_cons, List.pairwise_cons]
      refine ⟨fun z hz => ?_, h.1, h.2⟩
      rcases List.mem_cons.mp hz with e | e
      · rw [e]; exact hxy
      · exact S.tr x y z hxy (h.1 z e)
theorem srtL_pw {α : Type} {lt : α → α → Bool} (S : Strict lt) : ∀ xs : List α, xs.Nodup → (srtL lt xs).Pairwise (fun a b => lt a b = true)
  | [], _ => by simp [srtL]
  | x :: r, h => by
    rw [List.nodup_cons] at h
    rw [srtL]
    exact insL_pw S _ (srtL_pw S r h.2) fun m => h.1 ((mem_srtL r).mp m)
theorem srtL_self {α : Type} {lt : α → α → Bool} (S : Strict lt) : ∀ xs : List α, xs.Pairwise (fun a b => lt a b = true) → srtL lt xs = xs
  | [], _ => rfl
  | [x], _ => rfl
  | x :: y :: r, h => by
    rw [srtL, srtL_self S (y :: r) (List.pairwise_cons.mp h).2, insL]
    have hxy := (List.pairwise_cons.mp h).1 y List.mem_cons_self
    have : lt y x = false := by
      cases e : lt y x with
      | false => rfl
      | true => have := S.tr x y x hxy e; rw [S.irr] at this; cases this
    rw [this]; rfl
theorem mem_dup {α : Type} [BEq α] [LawfulBEq α] {z : α} : ∀ xs : List α, z ∈ dup xs ↔ z ∈ xs
  | [] => by simp [dup]
  | x :: r => by
    rw [dup]
    split
    · rename_i h
      rw [mem_dup r, List.mem_cons]
      refine ⟨.inr, ?_⟩
      rintro (e | e)
      · rw [e]; simpa using h
      · exact e
    · rw [List.mem_cons, mem_dup r, List.mem_cons]
theorem nodup_dup {α : Type} [BEq α] [LawfulBEq α] : ∀ xs : List α, (dup xs).Nodup
  | [] => by simp [dup]
  | x :: r => by
    rw [dup]
    split
    · exact nodup_dup r
    · rename_i h
      rw [List.nodup_cons, mem_dup]
      exact ⟨by simpa using h, nodup_dup r⟩
theorem dup_self {α : Type} [BEq α] [LawfulBEq α] : ∀ xs : List α, xs.Nodup → dup xs = xs
  | [], _ => rfl
  | x :: r, h => by
    rw [List.nodup_cons] at h
    rw [dup, if_neg (by simpa using h.1), dup_self r h.2]
theorem sset_iff {α : Type} [BEq α] [LawfulBEq α] {lt : α → α → Bool} (S : Strict lt) (xs : List α) : xs = srtL lt (dup xs) ↔ adj lt xs = true := by
  rw [adj_iff S]
  refine ⟨fun h => ?_, fun h => ?_⟩
  · rw [h]; exact srtL_pw S _ (nodup_dup xs)
  · have nd : xs.Nodup := List.Pairwise.imp (fun {a b} hab e => by rw [e, S.irr] at hab; cases hab) h
    rw [dup_self xs nd, srtL_self S xs h]
theorem strictI : Strict ltI := by
  refine ⟨fun a => ?_, fun a b c h1 h2 => ?_, fun a b h1 h2 => ?_⟩
  · simp [ltI]
  · simp only [ltI, decide_eq_true_eq] at *; lia
  · simp only [ltI, decide_eq_false_iff_not] at *; lia
theorem lex_irr : ∀ a : List Int, lexLt a a = false
  | [] => rfl
  | x :: xs => by rw [lexLt, if_pos rfl]; exact lex_irr xs
theorem lex_tr : ∀ a b c : List Int, lexLt a b = true → lexLt b c = true → lexLt a c = true
  | [], [], c, h, _ => by simp [lexLt] at h
  | [], _ :: _, [], _, h => by simp [lexLt] at h
  | [], _ :: _, _ :: _, _, _ => rfl
  | _ :: _, [], _, h, _ => by simp [lexLt] at h
  | _ :: _, _ :: _, [], _, h => by simp [lexLt] at h
  | x :: xs, y :: ys, z :: zs, h1, h2 => by
    rw [lexLt] at h1 h2 ⊢
    have ih := lex_tr xs ys zs
    by_cases e1 : x = y
    · subst e1
      rw [if_pos rfl] at h1
      by_cases e2 : x = z
      · subst e2
        rw [if_pos rfl] at h2
        rw [if_pos rfl]
        exact ih h1 h2
      · rw [if_neg e2] at h2 ⊢
        exact h2
    · rw [if_neg e1] at h1
      have h1' := of_decide_eq_true h1
      by_cases e2 : y = z
      · subst e2
        rw [if_neg e1]; exact h1
      · rw [if_neg e2] at h2
        have h2' := of_decide_eq_true h2
        rw [if_neg (by lia)]
        exact decide_eq_true (by lia)
theorem lex_tot : ∀ a b : List Int, lexLt a b = false → lexLt b a = false → a = b
  | [], [], _, _ => rfl
  | [], _ :: _, h, _ => by simp [lexLt] at h
  | _ :: _, [], _, h => by simp [lexLt] at h
  | x :: xs, y :: ys, h1, h2 => by
    rw [lexLt] at h1 h2
    by_cases e : x = y
    · subst e
      rw [if_pos rfl] at h1 h2
      rw [lex_tot xs ys h1 h2]
    · rw [if_neg e] at h1
      rw [if_neg (fun q => e q.symm)] at h2
      have := of_decide_eq_false h1
      have := of_decide_eq_false h2
      lia
theorem strictL : Strict lexLt := ⟨lex_irr, lex_tr, lex_tot⟩
theorem len_le_of_sub {α : Type} [DecidableEq α] : ∀ (l r : List α), l.Nodup → (∀ x ∈ l, x ∈ r) → l.length ≤ r.length
  | [], r, _, _ => Nat.zero_le _
  | a :: l, r, hn, hs => by
    rw [List.nodup_cons] at hn
    have ha := hs a List.mem_cons_self
    have ih := len_le_of_sub l (r.erase a) hn.2 fun x hx => (List.mem_erase_of_ne (fun e => hn.1 (by rw [← e]; exact hx))).mpr (hs x (List.mem_cons_of_mem _ hx))
    rw [List.length_erase_of_mem ha] at ih
    have : 0 < r.length := List.length_pos_of_mem ha
    simp only [List.length_cons]; lia
end DD
set_option maxRecDepth 100000
set_option linter.unusedSimpArgs false
namespace DD
open PySem
noncomputable def dmB : PV → Bool
  | .tuple [a, b, f] => in2 "each" "some" a && (in2 "each" "some" b && formB 5 f)
  | _ => false
noncomputable def markB : PV → Bool
  | .tuple (a :: b :: _) => isS "some" a && isS "each" b
  | _ => false
noncomputable def rowB : PV → Bool
  | .tuple xs => decide (xs.length ≤ 4) && (xs.all dmB && decide ((xs.filter markB).length ≤ 2))
  | _ => false
theorem dmB_f {p : PV} (h : tupN 3 p = false) : dmB p = false := by
  unfold dmB
  split
  · simp [tupN] at h
  · rfl
theorem eq_two (a b : PV) (ha : isDict a = false) (hb : isDict b = false) (s t : Str) : eqF (.tuple [a, b]) (.tuple [.str s, .str t]) = some (isS s a && isS t b) := by
  have d : min (PyData.depth (.tuple [a, b])) (PyData.depth (.tuple [.str s, .str t])) ≤ 180 := by rw [depth_two]; lia
  unfold eqF
  rw [if_neg (by first | rfl | simp), if_pos d]
  simp [PyData.eqv, PyData.eqvAll, eqv_l]
structure ThK (T : Tab) : Prop where
  h0 : T 0 = some f0
  h1 : T 1 = some f1
  h2 : T 2 = some f2
  h3 : T 3 = some f3
  h4 : T 4 = some f4
  h5 : T 5 = some f5
  h6 : T 6 = some f6
  h7 : T 7 = some f7
  h8 : T 8 = some f8
  h9 : T 9 = some f9
  h10 : T 10 = some f10
  h11 : T 11 = some f11
  h12 : T 12 = some f12
  h13 : T 13 = some f13
  h14 : T 14 = some f14
  h15 : T 15 = some f15
theorem demand7 {T : Tab} (H : ThK T) (k : Nat) (p : PV) (hp : Pl p) : run T (k + 11) 7 [p] = some (.bool (dmB p)) := by
  rw [run_at H.h7 rfl]
  have t := tup0 H.h0 (k + 9) p 3 hp.nd
  simp only [Int.cast_ofNat_Int] at t
  cases e : tupN 3 p with
  | false => rw [e] at t; simp [b7, t, dmB_f e]
  | true =>
    cases p with
    | tuple xs =>
      obtain ⟨a, b, f, rfl⟩ := len3 (by simpa [tupN] using e)
      have ha := (hp.mem a (by first | rfl | simp)).nd
      have hb := (hp.mem b (by first | rfl | simp)).nd
      have t6 := form6 H.h0 H.h2 H.h3 H.h4 H.h5 H.h6 k f (hp.mem f (by first | rfl | simp))
      rw [e] at t
      cases e1 : in2 "each" "some" a <;> cases e2 : in2 "each" "some" b <;> simp [b7, t, dmB, atI, ixN, in_2, ha, hb, e1, e2, t6]
    | _ => simp [tupN] at e
theorem dmB_tup {p : PV} (h : dmB p = true) : ∃ a b f, p = .tuple [a, b, f] := by
  unfold dmB at h
  split at h
  · exact ⟨_, _, _, rfl⟩
  · cases h
theorem count8 {T : Tab} (H : ThK T) (k : Nat) (xs : List PV) (hp : Pl (.tuple xs)) (hd : ∀ x ∈ xs, dmB x = true) : run T (k + 1) 8 [.tuple xs] = some (.int (xs.filter markB).length) := by
  rw [run_at H.h8 rfl]
  have c : evE (run T k) (.comp none [] (.var 0) (.op2 .eq (.sl (.var 0) (.con .none) (.con (.int 2))) (.con (.tuple [(.str "some"), (.str "each")]))) (.var 0)) [.val (.tuple xs)] = some (.list (xs.filter markB)) := by
    refine comp_self (s := .tuple xs) markB (by first | rfl | simp) (by first | rfl | simp) (fun x hx => (hp.mem x hx).nd) fun x hx => ?_
    obtain ⟨a, b, f, rfl⟩ := dmB_tup (hd x hx)
    have hx' := hp.mem _ hx
    have ha := (hx'.mem a (by first | rfl | simp)).nd
    have hb := (hx'.mem b (by first | rfl | simp)).nd
    simp [slF, cut2, eq_two, ha, hb, markB]
  have : evS (run T k) b8 [.val (.tuple xs)] = some (.rt (.int (xs.filter markB).length)) := by
    unfold b8
    refine ret_rt ?_
    rw [evE, c]; simp
  exact congrArg outV this
theorem truths_map {α : Type} (f : α → Bool) (xs : List α) : truths (xs.map fun x => PyData.bool (f x)) = some (xs.map f) := by
  induction xs with
  | nil => rfl
  | cons x xs ih => simp [ih]
theorem all_map {α : Type} (f : α → Bool) (xs : List α) : (xs.map f).all id = xs.all f := by simp
theorem comp_map {cf : Nat → List PV → Option PV} {caps : List Nat} {it elt : E} {ρ : Env} {s : PV} {xs : List PV} (F : PV → PV) (h : evE cf it ρ = some s) (hx : seqOf s = some xs)
    (hc : ∀ x ∈ xs, evE cf elt (.val x :: caps.map (ρ.getD · .un)) = some (F x)) (hd : ∀ x ∈ xs, isDict (F x) = false) : evE cf (.comp none caps it (.con (.bool true)) elt) ρ = some (.list (xs.map F)) := by
  rw [evE, h, bnd_some, hx, bnd_some]
  have key := comp_all (g := fun x => bnd (bindT none x) fun bs => bnd (evE cf (.con (.bool true)) (bs ++ caps.map (ρ.getD · .un))) fun c => bnd (truthF c) fun t => tst t (bnd (evE cf elt (bs ++ caps.map (ρ.getD · .un))) eltF) (some none)) id F xs fun x hxm => by
    have c := hc x hxm
    simp only [id, bindT_e1, bnd_some, List.cons_append, List.nil_append, evE, c, truthF_e2, tst_true, eltF_e1, hd x hxm, tst_false]
  rw [List.map_id] at key
  rw [key, bnd_some]
theorem allof {cf : Nat → List PV → Option PV} {caps : List Nat} {it elt : E} {ρ : Env} {s : PV} {xs : List PV} (F : PV → Bool) (h : evE cf it ρ = some s) (hx : seqOf s = some xs)
    (hc : ∀ x ∈ xs, evE cf elt (.val x :: caps.map (ρ.getD · .un)) = some (.bool (F x))) : evE cf (.op1 .all (.comp none caps it (.con (.bool true)) elt)) ρ = some (.bool (xs.all F)) := by
  rw [evE, comp_map (fun x => .bool (F x)) h hx hc fun _ _ => isDict_bool _, bnd_some]
  simp [truths_map]
theorem row9 {T : Tab} (H : ThK T) (k : Nat) (p : PV) (hp : Pl p) : run T (k + 12) 9 [p] = some (.bool (rowB p)) := by
  rw [run_at H.h9 rfl]
  cases e : tupB p with
  | false =>
    have : rowB p = false := by cases p <;> first | rfl | cases e
    simp [b9, hp.nd, e, this]
  | true =>
    cases p with
    | tuple xs =>
      by_cases hl : xs.length ≤ 4
      · have hl' : ¬ ((4 : Int) < (xs.length : Int)) := by lia
        have ha : evE (run T (k + 11)) (.op1 .all (.comp none [] (.var 0) (.con (.bool true)) (.call 7 (.cons (.var 0) .nil)))) [.val (.tuple xs)] = some (.bool (xs.all dmB)) :=
          allof (s := .tuple xs) dmB (by first | rfl | simp) (by first | rfl | simp) fun x hx => by first | rfl | simp [demand7 H k x (hp.mem x hx)]
        have key : evS (run T (k + 11)) b9 [.val (.tuple xs)] = some (.rt (.bool (rowB (.tuple xs)))) := by
          unfold b9
          refine seq_nx (ife_f (p := .bool false) (by first | rfl | simp [hl']) rfl rfl) ?_
          cases ea : xs.all dmB with
          | false =>
            have : rowB (.tuple xs) = false := by first | rfl | simp [rowB, ea]
            rw [this]
            rw [ea] at ha
            exact seq_rt (ife_t (p := .bool true) (by rw [evE, ha]; simp) rfl (ret_rt (by first | rfl | simp)))
          | true =>
            rw [ea] at ha
            refine seq_nx (ife_f (p := .bool false) (by rw [evE, ha]; simp) rfl rfl) (ret_rt ?_)
            have c8 := count8 H (k + 10) xs hp (by simpa using ea)
            have : rowB (.tuple xs) = decide ((xs.filter markB).length ≤ 2) := by first | rfl | simp [rowB, ea, hl]
            rw [this]
            have c9 : (((xs.filter markB).length : Int) ≤ 2) ↔ (xs.filter markB).length ≤ 2 := by lia
            simp [c8, c9]
        exact congrArg outV key
      · have hl' : ((4 : Int) < (xs.length : Int)) := by lia
        simp [b9, hl', rowB, hl]
    | _ => cases e
theorem word27 (cf : Nat → List PV → Option PV) (th m p : Sl) (a : PV) (ha : isDict a = false) : evS cf b27l0 [th, m, p, .val a] = if in2 "each" "some" a = true then some (.nx [th, m, p, .val a]) else some (.rt (.bool false)) := by
  cases e : strB a with
  | false =>
    have := in2_str (s := "each") (t := "some") e
    simp [b27l0, ha, e, this]
  | true =>
    cases a with
    | str w =>
      by_cases e1 : w = "each"
      · simp [b27l0, e1, eq_s, in2_e]
      · by_cases e2 : w = "some"
        · have : ¬ (("some" : Str) = "each") := e2 ▸ e1
          simp [b27l0, e2, eq_s, in2_e, this]
        · simp [b27l0, e1, e2, eq_s, in2_e]
    | _ => cases e
theorem turn27 {T : Tab} (h26 : T 26 = some f26) (k : Nat) (th : Sl) (m : Int) (p : PV) (hp : Pl p) (s3 : Sl) :
    (dmB p = true → ∃ t3, evS (run T (k + 6)) b27l1 [th, .val (.int m), .val p, s3] = some (.nx [th, .val (.int (m + if markB p then 1 else 0)), .val p, t3])) ∧
    (dmB p = false → evS (run T (k + 6)) b27l1 [th, .val (.int m), .val p, s3] = some (.rt (.bool false))) := by
  unfold b27l1
  cases et : tupB p with
  | false =>
    have e : dmB p = false := by cases p <;> first | rfl | cases et
    refine ⟨fun z => absurd (z.symm.trans e) (by decide), fun _ => ?_⟩
    exact seq_rt (ife_t (p := .bool true) (by first | rfl | simp [hp.nd, et]) rfl (ret_rt (by first | rfl | simp)))
  | true =>
    cases p with
    | tuple xs =>
      by_cases hl : xs.length = 3
      · obtain ⟨a, b, f, rfl⟩ := len3 hl
        have ha := (hp.mem a (by first | rfl | simp)).nd
        have hb := (hp.mem b (by first | rfl | simp)).nd
        have hf := law26 h26 5 k f (hp.mem f (by first | rfl | simp))
        simp only [Int.cast_ofNat_Int] at hf
        cases ef : formB 5 f with
        | false =>
          rw [ef] at hf
          have e : dmB (.tuple [a, b, f]) = false := by first | rfl | simp [dmB, ef]
          refine ⟨fun z => absurd (z.symm.trans e) (by decide), fun _ => ?_⟩
          exact seq_rt (ife_t (p := .bool true) (by first | rfl | simp [eq_ii, atI, ixN, hf]) rfl (ret_rt (by first | rfl | simp)))
        | true =>
          rw [ef] at hf
          have wa := fun q => word27 (run T (k + 6)) th (.val (.int m)) q a ha
          have wb := fun q => word27 (run T (k + 6)) th (.val (.int m)) q b hb
          have i1 : evS (run T (k + 6)) (.ife (.or (.not (.op1 .isTup (.var 2))) (.or (.op2 .ne (.op1 .len (.var 2)) (.con (.int 3))) (.not (.call 26 (.cons (.op2 .ix (.var 2) (.con (.int 2))) (.cons (.con (.int 5)) .nil)))))) (.ret (.con (.bool false))) .nx)
              [th, .val (.int m), .val (.tuple [a, b, f]), s3] = some (.nx [th, .val (.int m), .val (.tuple [a, b, f]), s3]) := ife_f (p := .bool false) (by first | rfl | simp [eq_ii, atI, ixN, hf]) rfl rfl
          have it : evE (run T (k + 6)) (.sl (.var 2) (.con .none) (.con (.int 2))) [th, .val (.int m), .val (.tuple [a, b, f]), s3] = some (.tuple [a, b]) := by first | rfl | simp [slF, cut2]
          cases ea : in2 "each" "some" a with
          | false =>
            have e : dmB (.tuple [a, b, f]) = false := by first | rfl | simp [dmB, ea]
            refine ⟨fun z => absurd (z.symm.trans e) (by decide), fun _ => ?_⟩
            refine seq_nx i1 (seq_rt (loop_run it rfl ?_))
            simp [loopF, wa, ea]
          | true =>
            cases eb : in2 "each" "some" b with
            | false =>
              have e : dmB (.tuple [a, b, f]) = false := by first | rfl | simp [dmB, ea, eb]
              refine ⟨fun z => absurd (z.symm.trans e) (by decide), fun _ => ?_⟩
              refine seq_nx i1 (seq_rt (loop_run it rfl ?_))
              simp [loopF, wa, ea, wb, eb]
            | true =>
              have e : dmB (.tuple [a, b, f]) = true := by first | rfl | simp [dmB, ea, eb, ef]
              refine ⟨fun _ => ⟨.val b, ?_⟩, fun z => absurd (z.symm.trans e) (by decide)⟩
              refine seq_nx i1 (seq_nx (ρ1 := [th, .val (.int m), .val (.tuple [a, b, f]), .val b]) (loop_run it rfl ?_) ?_)
              · simp [loopF, wa, ea, wb, eb]
              · cases e1 : isS "some" a <;> cases e2 : isS "each" b <;> simp [atI, ixN, eq_s, ha, hb, e1, e2, markB]
      · have e : dmB (.tuple xs) = false := dmB_f (by simpa [tupN] using hl)
        have hl' : ¬ ((xs.length : Int) = 3) := by lia
        refine ⟨fun z => absurd (z.symm.trans e) (by decide), fun _ => ?_⟩
        exact seq_rt (ife_t (p := .bool true) (by first | rfl | simp [eq_ii, hl']) rfl (ret_rt (by first | rfl | simp)))
    | _ => cases et
theorem loop27 {T : Tab} (h26 : T 26 = some f26) (k : Nat) (th : Sl) : ∀ (xs : List PV), (∀ x ∈ xs, Pl x) → ∀ (m : Int) (s2 s3 : Sl),
    (xs.all dmB = true → ∃ t2 t3, loopF (.one 2) (evS (run T (k + 6)) b27l1) xs [th, .val (.int m), s2, s3] = some (.nx [th, .val (.int (m + ((xs.filter markB).length : Nat))), t2, t3])) ∧
    (xs.all dmB = false → loopF (.one 2) (evS (run T (k + 6)) b27l1) xs [th, .val (.int m), s2, s3] = some (.rt (.bool false)))
  | [], _, m, s2, s3 => ⟨fun _ => ⟨s2, s3, by first | rfl | simp [loopF]⟩, fun z => by simp at z⟩
  | x :: xs, hx, m, s2, s3 => by
    obtain ⟨t1, t2⟩ := turn27 h26 k th m x (hx x List.mem_cons_self) s3
    cases e : dmB x with
    | false =>
      refine ⟨fun z => by first | rfl | simp [e] at z, fun _ => ?_⟩
      rw [loopF]
      simp [t2 e]
    | true =>
      obtain ⟨u3, e3⟩ := t1 e
      obtain ⟨i1, i2⟩ := loop27 h26 k th xs (fun y hy => hx y (List.mem_cons_of_mem _ hy)) (m + if markB x then 1 else 0) (.val x) u3
      refine ⟨fun z => ?_, fun z => ?_⟩
      · obtain ⟨v2, v3, e4⟩ := i1 (by simpa [e] using z)
        refine ⟨v2, v3, ?_⟩
        rw [loopF]
        simp only [bindS, List.set_cons_succ, List.set_cons_zero, bnd_some, e3, turnO_nx, e4]
        cases em : markB x <;> simp [em]
        lia
      · rw [loopF]
        simp only [bindS, List.set_cons_succ, List.set_cons_zero, bnd_some, e3, turnO_nx, i2 (by simpa [e] using z)]
theorem law27 {T : Tab} (h26 : T 26 = some f26) (h : T 27 = some f27) (k : Nat) (p : PV) (hp : Pl p) : run T (k + 7) 27 [p] = some (.bool (rowB p)) := by
  rw [run_at h rfl]
  cases e : tupB p with
  | false =>
    have : rowB p = false := by cases p <;> first | rfl | cases e
    simp [b27, hp.nd, e, this]
  | true =>
    cases p with
    | tuple xs =>
      by_cases hl : xs.length ≤ 4
      · have hl' : ¬ ((4 : Int) < (xs.length : Int)) := by lia
        obtain ⟨i1, i2⟩ := loop27 h26 k (.val (.tuple xs)) xs hp.mem 0 .un .un
        have key : evS (run T (k + 6)) b27 [.val (.tuple xs), .un, .un, .un] = some (.rt (.bool (rowB (.tuple xs)))) := by
          unfold b27
          refine seq_nx (ife_f (p := .bool false) (by first | rfl | simp [hl']) rfl rfl) (seq_nx (set_nx (p := .int 0) (by first | rfl | simp)) ?_)
          cases ea : xs.all dmB with
          | false =>
            have : rowB (.tuple xs) = false := by first | rfl | simp [rowB, ea]
            rw [this]
            exact seq_rt (loop_run (p := .tuple xs) (by first | rfl | simp) (by first | rfl | simp) (i2 ea))
          | true =>
            obtain ⟨t2, t3, e1⟩ := i1 ea
            have : rowB (.tuple xs) = decide ((xs.filter markB).length ≤ 2) := by first | rfl | simp [rowB, ea, hl]
            rw [this]
            refine seq_nx (loop_run (p := .tuple xs) (by first | rfl | simp) (by first | rfl | simp) e1) (ret_rt ?_)
            have c9 : (((xs.filter markB).length : Int) ≤ 2) ↔ (xs.filter markB).length ≤ 2 := by lia
            simp [c9]
        exact congrArg outV key
      · have hl' : ((4 : Int) < (xs.length : Int)) := by lia
        simp [b27, hl', rowB, hl]
    | _ => cases e
end DD
set_option maxRecDepth 100000
set_option linter.unusedSimpArgs false
set_option linter.unusedVariables false
namespace DD
open PySem
noncomputable def numB (n : Int) : PV → Bool
  | .int i => decide (0 ≤ i) && decide (i < n)
  | _ => false
noncomputable def toI : PV → Int
  | .int i => i
  | _ => 0
noncomputable def wholeB : PV → Bool
  | .int _ => true
  | _ => false
theorem whole1 {T : Tab} (H : ThK T) (k : Nat) (p : PV) (hp : isDict p = false) : run T (k + 1) 1 [p] = some (.bool (wholeB p)) := by
  rw [run_at H.h1 rfl]
  cases p with
  | dict _ => cases hp
  | _ => simp [b1, wholeB]
theorem below10 {T : Tab} (H : ThK T) (k : Nat) (p : PV) (hp : isDict p = false) (n : Int) : run T (k + 2) 10 [p, .int n] = some (.bool (numB n p)) := by
  rw [run_at H.h10 rfl]
  have w := whole1 H k p hp
  cases p with
  | int i =>
    by_cases h0 : 0 ≤ i
    · simp [b10, w, wholeB, numB, h0]
    · simp [b10, w, wholeB, numB, h0]
  | dict _ => cases hp
  | _ => simp [b10, w, wholeB, numB]
theorem number25 {T : Tab} (h : T 25 = some f25) (k : Nat) (p : PV) (hp : isDict p = false) (n : Int) : run T (k + 1) 25 [p, .int n] = some (.bool (numB (n + 1) p)) := by
  rw [run_at h rfl]
  cases p with
  | int i =>
    have e : i ≤ n ↔ i < n + 1 := by lia
    by_cases h0 : 0 ≤ i
    · simp [b25, numB, h0, e]
    · simp [b25, numB, h0]
  | dict _ => cases hp
  | _ => simp [b25, numB]
theorem adj_all {α : Type} (lt : α → α → Bool) (d : α) : ∀ xs : List α, (List.range (xs.length - 1)).all (fun k => lt (xs.getD k d) (xs.getD (k + 1) d)) = adj lt xs
  | [] => by first | rfl | simp [adj]
  | [x] => by first | rfl | simp [adj]
  | x :: y :: r => by
    have ih := adj_all lt d (y :: r)
    rw [adj, ← ih]
    rw [show (x :: y :: r).length - 1 = ((y :: r).length - 1) + 1 from by simp, List.range_succ_eq_map, List.all_cons, List.all_map]
    simp
    rfl
theorem rises12 {T : Tab} (H : ThK T) {α : Type} (c : α → PV) (lt : α → α → Bool) (d : α) (hlt : ∀ a b, ltF (c a) (c b) = some (.bool (lt a b))) (k : Nat) (xs : List α) (hx : xs.length ≤ 1000000) :
    run T (k + 1) 12 [.tuple (xs.map c)] = some (.bool (adj lt xs)) := by
  rw [run_at H.h12 rfl]
  have it : evE (run T k) (.rng (.op2 .sub (.op1 .len (.var 0)) (.con (.int 1)))) [.val (.tuple (xs.map c))] = some (.list ((List.range (xs.length - 1)).map fun k => .int (k : Nat))) := by
    have h1 : (-1000000 : Int) ≤ (xs.length : Int) - 1 ∧ (xs.length : Int) - 1 ≤ 1000000 := by lia
    have h2 : ((xs.length : Int) - 1).toNat = xs.length - 1 := by lia
    simp [rngF, h1, h2]
  have key : evE (run T k) (.op1 .all (.comp none [0] (.rng (.op2 .sub (.op1 .len (.var 0)) (.con (.int 1)))) (.con (.bool true)) (.op2 .lt (.op2 .ix (.var 1) (.var 0)) (.op2 .ix (.var 1) (.op2 .add (.var 0) (.con (.int 1))))))) [.val (.tuple (xs.map c))]
      = some (.bool (adj lt xs)) := by
    rw [allof (s := .list ((List.range (xs.length - 1)).map fun k => .int (k : Nat))) (fun p => lt (xs.getD (toI p).toNat d) (xs.getD ((toI p).toNat + 1) d)) it rfl fun p hp => ?_]
    · rw [List.all_map]
      have := adj_all lt d xs
      rw [← this]
      congr 2
    · obtain ⟨j, hj, rfl⟩ := List.mem_map.mp hp
      have hj' : j < xs.length - 1 := List.mem_range.mp hj
      have a0 : atI (xs.map c) (j : Int) = some (c (xs.getD j d)) := by
        have hjl : j < xs.length := by lia
        have e : ixN (xs.map c).length (j : Int) = some j := by
          unfold ixN
          rw [if_pos (by lia), if_pos (by simp; lia)]; simp
        unfold atI
        rw [e]
        simp [hjl]
      have a1 : atI (xs.map c) ((j : Int) + 1) = some (c (xs.getD (j + 1) d)) := by
        have hjl : j + 1 < xs.length := by lia
        have e : ixN (xs.map c).length ((j : Int) + 1) = some (j + 1) := by
          unfold ixN
          rw [if_pos (by lia), if_pos (by simp; lia)]; simp
        unfold atI
        rw [e]
        simp [hjl]
      simp [a0, a1, hlt, toI]
  have : evS (run T k) b12 [.val (.tuple (xs.map c))] = some (.rt (.bool (adj lt xs))) := ret_rt key
  exact congrArg outV this
theorem ints_back {n : Int} : ∀ xs : List PV, xs.all (numB n) = true → xs = (xs.map toI).map PyData.int
  | [], _ => rfl
  | p :: xs, h => by
    rw [List.all_cons, Bool.and_eq_true] at h
    have ih := ints_back xs h.2
    cases p with
    | int i => simp only [List.map_cons, toI]; rw [← ih]
    | _ => simp [numB] at h
noncomputable def arB (n : Int) : PV → Bool
  | .tuple [a, b] => numB n a && numB n b
  | _ => false
noncomputable def toP : PV → List Int
  | .tuple [a, b] => [toI a, toI b]
  | _ => []
noncomputable abbrev encP (t : List Int) : PV := .tuple (intsPv t)
theorem tups_back {n : Int} : ∀ xs : List PV, xs.all (arB n) = true → xs = (xs.map toP).map encP
  | [], _ => rfl
  | p :: xs, h => by
    rw [List.all_cons, Bool.and_eq_true] at h
    have ih := tups_back xs h.2
    have hp := h.1
    unfold arB at hp
    split at hp
    · rename_i a b
      rw [Bool.and_eq_true] at hp
      cases a with
      | int i =>
        cases b with
        | int j => simp only [List.map_cons, toP, toI, encP, intsPv, List.map_nil]; rw [← ih]
        | _ => simp [numB] at hp
      | _ => simp [numB] at hp
    · cases hp
theorem intsOf_map (ns : List Int) : intsOf (ns.map PyData.int) = some ns := by
  induction ns with
  | nil => rfl
  | cons n ns ih => simp [ih]
theorem intsOf_pv (ns : List Int) : intsOf (intsPv ns) = some ns := intsOf_map ns
theorem tupsOf_map (ts : List (List Int)) : tupsOf (ts.map encP) = some ts := by
  induction ts with
  | nil => rfl
  | cons t ts ih => simp [ih, intsOf_pv]
theorem lt_int (a b : Int) : ltF (.int a) (.int b) = some (.bool (ltI a b)) := by first | rfl | simp [ltI]
theorem lt_tup (a b : List Int) : ltF (encP a) (encP b) = some (.bool (lexLt a b)) := by first | rfl | simp [intsOf_pv]
noncomputable def markedB (n : Int) : PV → Bool
  | .tuple xs => xs.all (numB n) && adj ltI (xs.map toI)
  | _ => false
noncomputable def arrowsB (n : Int) : PV → Bool
  | .tuple xs => xs.all (arB n) && adj lexLt (xs.map toP)
  | _ => false
noncomputable def short : PV → Prop
  | .tuple xs => xs.length ≤ 1000000
  | _ => True
theorem marked13 {T : Tab} (H : ThK T) (k : Nat) (p : PV) (hp : Pl p) (hs : short p) (n : Int) : run T (k + 3) 13 [p, .int n] = some (.bool (markedB n p)) := by
  rw [run_at H.h13 rfl]
  cases e : tupB p with
  | false =>
    have : markedB n p = false := by cases p <;> first | rfl | cases e
    simp [b13, hp.nd, e, this]
  | true =>
    cases p with
    | tuple xs =>
      have ha : evE (run T (k + 2)) (.op1 .all (.comp none [1] (.var 0) (.con (.bool true)) (.call 10 (.cons (.var 0) (.cons (.var 1) .nil))))) [.val (.tuple xs), .val (.int n)] = some (.bool (xs.all (numB n))) :=
        allof (s := .tuple xs) (numB n) (by first | rfl | simp) (by first | rfl | simp) fun x hx => by first | rfl | simp [below10 H k x (hp.mem x hx).nd n]
      have key : evS (run T (k + 2)) b13 [.val (.tuple xs), .val (.int n)] = some (.rt (.bool (markedB n (.tuple xs)))) := by
        unfold b13
        refine seq_nx (ife_f (p := .bool false) (by first | rfl | simp) rfl rfl) (ret_rt ?_)
        rw [evE, ha]
        cases ea : xs.all (numB n) with
        | false => simp [markedB, ea]
        | true =>
          have r := rises12 H PyData.int ltI 0 lt_int (k + 1) (xs.map toI) (by simpa [short] using hs)
          rw [← ints_back xs ea] at r
          simp [markedB, ea, r]
      exact congrArg outV key
    | _ => cases e
theorem arrow11 {T : Tab} (H : ThK T) (k : Nat) (p : PV) (hp : Pl p) (n : Int) : run T (k + 3) 11 [p, .int n] = some (.bool (arB n p)) := by
  rw [run_at H.h11 rfl]
  have t := tup0 H.h0 (k + 1) p 2 hp.nd
  simp only [Int.cast_ofNat_Int] at t
  cases e : tupN 2 p with
  | false =>
    have : arB n p = false := by
      unfold arB
      split
      · simp [tupN] at e
      · rfl
    rw [e] at t
    simp [b11, t, this]
  | true =>
    cases p with
    | tuple xs =>
      obtain ⟨a, b, rfl⟩ := len2 (by simpa [tupN] using e)
      have ha := below10 H k a (hp.mem a (by first | rfl | simp)).nd n
      have hb := below10 H k b (hp.mem b (by first | rfl | simp)).nd n
      rw [e] at t
      cases e1 : numB n a <;> simp [b11, t, atI, ixN, ha, hb, e1, arB]
    | _ => simp [tupN] at e
theorem arrows14 {T : Tab} (H : ThK T) (k : Nat) (p : PV) (hp : Pl p) (hs : short p) (n : Int) : run T (k + 4) 14 [p, .int n] = some (.bool (arrowsB n p)) := by
  rw [run_at H.h14 rfl]
  cases e : tupB p with
  | false =>
    have : arrowsB n p = false := by cases p <;> first | rfl | cases e
    simp [b14, hp.nd, e, this]
  | true =>
    cases p with
    | tuple xs =>
      have ha : evE (run T (k + 3)) (.op1 .all (.comp none [1] (.var 0) (.con (.bool true)) (.call 11 (.cons (.var 0) (.cons (.var 1) .nil))))) [.val (.tuple xs), .val (.int n)] = some (.bool (xs.all (arB n))) :=
        allof (s := .tuple xs) (arB n) (by first | rfl | simp) (by first | rfl | simp) fun x hx => by first | rfl | simp [arrow11 H k x (hp.mem x hx) n]
      have key : evS (run T (k + 3)) b14 [.val (.tuple xs), .val (.int n)] = some (.rt (.bool (arrowsB n (.tuple xs)))) := by
        unfold b14
        refine seq_nx (ife_f (p := .bool false) (by first | rfl | simp) rfl rfl) (ret_rt ?_)
        rw [evE, ha]
        cases ea : xs.all (arB n) with
        | false => simp [arrowsB, ea]
        | true =>
          have r := rises12 H encP lexLt [] lt_tup (k + 2) (xs.map toP) (by simpa [short] using hs)
          rw [← tups_back xs ea] at r
          simp [arrowsB, ea, r]
      exact congrArg outV key
    | _ => cases e
noncomputable def worldB : PV → Bool
  | .tuple [.int n, a, b, c] => (decide (1 ≤ n) && decide (n ≤ 4)) && (markedB n a && (markedB n b && arrowsB n c))
  | _ => false
theorem len4 {xs : List PV} (h : xs.length = 4) : ∃ a b c d, xs = [a, b, c, d] := by
  match xs, h with
  | [a, b, c, d], _ => exact ⟨a, b, c, d, rfl⟩
theorem worldB_f {p : PV} (h : tupN 4 p = false) : worldB p = false := by
  unfold worldB
  split
  · simp [tupN] at h
  · rfl
theorem worldB_m {m a b c : PV} (h : wholeB m = false) : worldB (.tuple [m, a, b, c]) = false := by
  cases m with
  | int i => cases h
  | _ => rfl
theorem world15 {T : Tab} (H : ThK T) (k : Nat) (p : PV) (hp : Pl p) (hs : ∀ x, (∃ xs, p = .tuple xs ∧ x ∈ xs) → short x) : run T (k + 5) 15 [p] = some (.bool (worldB p)) := by
  rw [run_at H.h15 rfl]
  have t := tup0 H.h0 (k + 3) p 4 hp.nd
  simp only [Int.cast_ofNat_Int] at t
  cases e : tupN 4 p with
  | false => rw [e] at t; simp [b15, t, worldB_f e]
  | true =>
    rw [e] at t
    cases p with
    | tuple xs =>
      obtain ⟨m, a, b, c, rfl⟩ := len4 (by simpa [tupN] using e)
      have w := whole1 H (k + 3) m (hp.mem m (by first | rfl | simp)).nd
      cases em : wholeB m with
      | false => rw [em] at w; simp [b15, t, atI, ixN, w, worldB_m em]
      | true =>
        cases m with
        | int n =>
          have ma := marked13 H (k + 1) a (hp.mem a (by first | rfl | simp)) (hs a ⟨_, rfl, by simp⟩) n
          have mb := marked13 H (k + 1) b (hp.mem b (by first | rfl | simp)) (hs b ⟨_, rfl, by simp⟩) n
          have mc := arrows14 H k c (hp.mem c (by first | rfl | simp)) (hs c ⟨_, rfl, by simp⟩) n
          by_cases h1 : 1 ≤ n
          · by_cases h4 : n ≤ 4
            · cases e1 : markedB n a <;> cases e2 : markedB n b <;> simp [b15, t, atI, ixN, w, wholeB, h1, h4, ma, mb, mc, e1, e2, worldB]
            · simp [b15, t, atI, ixN, w, wholeB, h1, h4, worldB]
          · simp [b15, t, atI, ixN, w, wholeB, h1, worldB]
        | _ => cases em
    | _ => simp [tupN] at e
end DD
set_option maxRecDepth 100000
set_option linter.unusedSimpArgs false
set_option linter.unusedVariables false
namespace DD
open PySem
theorem depthAll_ints (ns : List Int) : PyData.depthAll (ns.map PyData.int) = 0 := by
  induction ns with
  | nil => simp [PyData.depthAll]
  | cons n ns ih => simp [PyData.depthAll, PyData.depth, ih]
theorem depthAll_tups (ts : List (List Int)) : PyData.depthAll (ts.map encP) ≤ 1 := by
  induction ts with
  | nil => simp [PyData.depthAll]
  | cons t ts ih =>
    have : PyData.depth (encP t) = 1 := by first | rfl | simp [PyData.depth, intsPv, depthAll_ints]
    simp only [List.map_cons, PyData.depthAll, this]
    lia
theorem eqvAll_ints : ∀ ns ms : List Int, PyData.eqvAll (ns.map PyData.int) (ms.map PyData.int) = decide (ns = ms)
  | [], [] => by first | rfl | simp [PyData.eqvAll]
  | [], _ :: _ => by first | rfl | simp [PyData.eqvAll]
  | _ :: _, [] => by first | rfl | simp [PyData.eqvAll]
  | n :: ns, m :: ms => by
    have ih := eqvAll_ints ns ms
    simp [PyData.eqvAll, ih, eqv_int]
theorem eqvAll_tups : ∀ ns ms : List (List Int), PyData.eqvAll (ns.map encP) (ms.map encP) = decide (ns = ms)
  | [], [] => by first | rfl | simp [PyData.eqvAll]
  | [], _ :: _ => by first | rfl | simp [PyData.eqvAll]
  | _ :: _, [] => by first | rfl | simp [PyData.eqvAll]
  | n :: ns, m :: ms => by
    have ih := eqvAll_tups ns ms
    simp [PyData.eqvAll, ih, PyData.eqv, intsPv, eqvAll_ints]
theorem eq_ints (ns ms : List Int) : eqF (.list (ns.map PyData.int)) (.list (ms.map PyData.int)) = some (decide (ns = ms)) := by
  have d : min (PyData.depth (.list (ns.map PyData.int))) (PyData.depth (.list (ms.map PyData.int))) ≤ 180 := by
    simp only [PyData.depth, depthAll_ints]; lia
  unfold eqF
  rw [if_neg (by first | rfl | simp), if_pos d]
  simp only [PyData.eqv, eqvAll_ints]
theorem eq_tups (ns ms : List (List Int)) : eqF (.list (ns.map encP)) (.list (ms.map encP)) = some (decide (ns = ms)) := by
  have d : min (PyData.depth (.list (ns.map encP))) (PyData.depth (.list (ms.map encP))) ≤ 180 := by
    have := depthAll_tups ns
    simp only [PyData.depth]; lia
  unfold eqF
  rw [if_neg (by first | rfl | simp), if_pos d]
  simp only [PyData.eqv, eqvAll_tups]
theorem sset_ints (ns : List Int) (hd : (dup ns).length < 64) : ssF (ns.map PyData.int) = some (.list ((srtL ltI (dup ns)).map PyData.int)) := by
  cases ns with
  | nil => rfl
  | cons n ns =>
    have := intsOf_map (n :: ns)
    rw [List.map_cons] at this
    rw [List.map_cons, ssF, this, bnd_some, decide_eq_true hd]; rfl
theorem sset_tups (ns : List (List Int)) (hd : (dup ns).length < 64) (hne : ns.all (fun n => !n.isEmpty) = true) : ssF (ns.map encP) = some (.list ((srtL lexLt (dup ns)).map encP)) := by
  cases ns with
  | nil => rfl
  | cons n ns =>
    have := tupsOf_map (n :: ns)
    rw [List.map_cons] at this
    rw [List.map_cons, encP, ssF, ← encP, this, bnd_some, decide_eq_true hd, hne]; rfl
theorem sset_dec {α : Type} [BEq α] [LawfulBEq α] [DecidableEq α] {lt : α → α → Bool} (S : Strict lt) (xs : List α) : decide (xs = srtL lt (dup xs)) = adj lt xs := by
  have := sset_iff S xs
  cases e : adj lt xs with
  | true => exact decide_eq_true (this.mpr e)
  | false => exact decide_eq_false fun h => by rw [this.mp h] at e; cases e
noncomputable def four : List Int := [0, 1, 2, 3]
theorem in_four {i : Int} (h0 : 0 ≤ i) (h1 : i < 4) : i ∈ four := by
  simp only [four, List.mem_cons, List.not_mem_nil, or_false]
  lia
theorem numB_four {n : Int} (hn : n < 5) {p : PV} (h : numB n p = true) : ∃ i, p = .int i ∧ i ∈ four := by
  cases p with
  | int i =>
    obtain ⟨h1, h2⟩ := (Bool.and_eq_true _ _).mp (show (decide (0 ≤ i) && decide (i < n)) = true from h)
    have h1 := of_decide_eq_true h1
    have h2 := of_decide_eq_true h2
    exact ⟨i, rfl, in_four h1 (by lia)⟩
  | _ => exact nomatch (show false = true from h)
theorem few_ints {n : Int} (hn : n < 5) (xs : List PV) (h : xs.all (numB n) = true) : (dup (xs.map toI)).length < 64 := by
  have := len_le_of_sub (dup (xs.map toI)) four (nodup_dup _) fun x hx => by
    rw [mem_dup] at hx
    obtain ⟨p, hp, rfl⟩ := List.mem_map.mp hx
    obtain ⟨i, rfl, hi⟩ := numB_four hn (List.all_eq_true.mp h p hp)
    exact hi
  exact Nat.lt_of_le_of_lt this (by decide)
noncomputable def sixteen : List (List Int) := four.flatMap fun i => four.map fun j => [i, j]
theorem arB_four {n : Int} (hn : n < 5) {p : PV} (h : arB n p = true) : ∃ i j : Int, toP p = [i, j] ∧ i ∈ four ∧ j ∈ four := by
  cases p with
  | tuple xs =>
    cases xs with
    | nil => exact nomatch (show false = true from h)
    | cons a xs =>
      cases xs with
      | nil => exact nomatch (show false = true from h)
      | cons b xs =>
        cases xs with
        | nil =>
          obtain ⟨ha, hb⟩ := (Bool.and_eq_true _ _).mp (show (numB n a && numB n b) = true from h)
          obtain ⟨i, rfl, hi⟩ := numB_four hn ha
          obtain ⟨j, rfl, hj⟩ := numB_four hn hb
          exact ⟨i, j, rfl, hi, hj⟩
        | cons _ _ => exact nomatch (show false = true from h)
  | _ => exact nomatch (show false = true from h)
theorem few_tups {n : Int} (hn : n < 5) (xs : List PV) (h : xs.all (arB n) = true) : (dup (xs.map toP)).length < 64 ∧ (xs.map toP).all (fun n => !n.isEmpty) = true := by
  constructor
  · have := len_le_of_sub (dup (xs.map toP)) sixteen (nodup_dup _) fun x hx => by
      rw [mem_dup] at hx
      obtain ⟨p, hp, rfl⟩ := List.mem_map.mp hx
      obtain ⟨i, j, e, h1, h2⟩ := arB_four hn (List.all_eq_true.mp h p hp)
      rw [e]
      exact List.mem_flatMap.mpr ⟨i, h1, List.mem_map.mpr ⟨j, h2, rfl⟩⟩
    exact Nat.lt_of_le_of_lt this (by decide)
  · rw [List.all_map, List.all_eq_true]
    intro p hp
    obtain ⟨i, j, e, _⟩ := arB_four hn (List.all_eq_true.mp h p hp)
    show (!(toP p).isEmpty) = true
    rw [e]; rfl
theorem same_ints {n : Int} (hn : n < 5) (xs : List PV) (h : xs.all (numB n) = true) (cf : Nat → List PV → Option PV) (e : E) (ρ : Env) (he : evE cf e ρ = some (.tuple xs)) :
    ∃ p, evE cf (.op1 .toList e) ρ = some p ∧ ∃ q, evE cf (.op1 .sset e) ρ = some q ∧ eqF p q = some (adj ltI (xs.map toI)) := by
  have b := ints_back xs h
  refine ⟨.list xs, by rw [evE, he]; rfl, ?_⟩
  have s := sset_ints (xs.map toI) (few_ints hn xs h)
  rw [← b] at s
  refine ⟨_, by rw [evE, he]; exact s, ?_⟩
  have := eq_ints (xs.map toI) (srtL ltI (dup (xs.map toI)))
  rw [← b, sset_dec strictI] at this
  exact this
theorem same_tups {n : Int} (hn : n < 5) (xs : List PV) (h : xs.all (arB n) = true) (cf : Nat → List PV → Option PV) (e : E) (ρ : Env) (he : evE cf e ρ = some (.tuple xs)) :
    ∃ p, evE cf (.op1 .toList e) ρ = some p ∧ ∃ q, evE cf (.op1 .sset e) ρ = some q ∧ eqF p q = some (adj lexLt (xs.map toP)) := by
  have b := tups_back xs h
  refine ⟨.list xs, by rw [evE, he]; rfl, ?_⟩
  have s := sset_tups (xs.map toP) (few_tups hn xs h).1 (few_tups hn xs h).2
  rw [← b] at s
  refine ⟨_, by rw [evE, he]; exact s, ?_⟩
  have := eq_tups (xs.map toP) (srtL lexLt (dup (xs.map toP)))
  rw [← b, sset_dec strictL] at this
  exact this
theorem turn28a {T : Tab} (h25 : T 25 = some f25) (k : Nat) (n : Int) (hn : n < 5) (r : List PV) (s : PV) (hs : Pl s) (s2 : Sl) :
    evS (run T (k + 1)) b28l0 [.val (.tuple (.int n :: r)), .val s, s2] = if markedB n s = true then some (.nx [.val (.tuple (.int n :: r)), .val s, s2]) else some (.rt (.bool false)) := by
  unfold b28l0
  cases et : tupB s with
  | false =>
    have : markedB n s = false := by cases s <;> first | rfl | cases et
    rw [this]
    exact seq_rt (ife_t (p := .bool true) (by first | rfl | simp [hs.nd, et]) rfl (ret_rt (by first | rfl | simp)))
  | true =>
    cases s with
    | tuple xs =>
      have c : evE (run T (k + 1)) (.comp none [0] (.var 1) (.not (.call 25 (.cons (.var 0) (.cons (.op2 .sub (.op2 .ix (.var 1) (.con (.int 0))) (.con (.int 1))) .nil)))) (.var 0))
          [.val (.tuple (.int n :: r)), .val (.tuple xs), s2] = some (.list (xs.filter fun x => !numB n x)) := by
        refine comp_self (s := .tuple xs) (fun x => !numB n x) (by first | rfl | simp) (by first | rfl | simp) (fun x hx => (hs.mem x hx).nd) fun x hx => ?_
        have q := number25 h25 k x (hs.mem x hx).nd (n - 1)
        rw [Int.sub_add_cancel] at q
        simp [at0, q]
      have c1 : evE (run T (k + 1)) (.op2 .ne (.comp none [0] (.var 1) (.not (.call 25 (.cons (.var 0) (.cons (.op2 .sub (.op2 .ix (.var 1) (.con (.int 0))) (.con (.int 1))) .nil)))) (.var 0)) (.lst .nil))
          [.val (.tuple (.int n :: r)), .val (.tuple xs), s2] = some (.bool (!xs.all (numB n))) := by
        rw [evE, c, bnd_some]
        simp only [evE, bnd_some, lstF_e1, anyD, tst_false, opF2, eq_nilL, isE_filter]
      have c2 : evE (run T (k + 1)) (.or (.not (.op1 .isTup (.var 1))) (.op2 .ne (.comp none [0] (.var 1) (.not (.call 25 (.cons (.var 0) (.cons (.op2 .sub (.op2 .ix (.var 1) (.con (.int 0))) (.con (.int 1))) .nil)))) (.var 0)) (.lst .nil)))
          [.val (.tuple (.int n :: r)), .val (.tuple xs), s2] = some (.bool (!xs.all (numB n))) := by
        rw [evE, c1]; simp
      cases ea : xs.all (numB n) with
      | false =>
        rw [ea] at c2
        have : markedB n (.tuple xs) = false := by first | rfl | simp [markedB, ea]
        rw [this]
        exact seq_rt (ife_t c2 rfl (ret_rt (by first | rfl | simp)))
      | true =>
        rw [ea] at c2
        refine seq_nx (ife_f c2 rfl rfl) ?_
        obtain ⟨p, e1, q, e2, e3⟩ := same_ints hn xs ea (run T (k + 1)) (.var 1) [.val (.tuple (.int n :: r)), .val (.tuple xs), s2] (by first | rfl | simp)
        have m : markedB n (.tuple xs) = adj ltI (xs.map toI) := by first | rfl | simp [markedB, ea]
        have t : evE (run T (k + 1)) (.op2 .ne (.op1 .toList (.var 1)) (.op1 .sset (.var 1))) [.val (.tuple (.int n :: r)), .val (.tuple xs), s2] = some (.bool (!adj ltI (xs.map toI))) := by
          rw [evE, e1, bnd_some, e2, bnd_some]
          simp [e3]
        rw [m]
        cases ej : adj ltI (xs.map toI) with
        | true => rw [ej] at t; exact ife_f t rfl rfl
        | false => rw [ej] at t; exact ife_t t rfl (ret_rt (by first | rfl | simp))
    | _ => cases et
theorem turn28b {T : Tab} (h25 : T 25 = some f25) (k : Nat) (n : Int) (r : List PV) (s : PV) (hs : Pl s) (s1 : Sl) :
    evS (run T (k + 1)) b28l1 [.val (.tuple (.int n :: r)), s1, .val s] = if arB n s = true then some (.nx [.val (.tuple (.int n :: r)), s1, .val s]) else some (.rt (.bool false)) := by
  unfold b28l1
  cases et : tupB s with
  | false =>
    have : arB n s = false := by cases s <;> first | rfl | cases et
    rw [this]
    exact seq_rt (ife_t (p := .bool true) (by first | rfl | simp [hs.nd, et]) rfl (ret_rt (by first | rfl | simp)))
  | true =>
    cases s with
    | tuple xs =>
      by_cases hl : xs.length = 2
      · obtain ⟨a, b, rfl⟩ := len2 hl
        have qa := number25 h25 k a (hs.mem a (by first | rfl | simp)).nd (n - 1)
        have qb := number25 h25 k b (hs.mem b (by first | rfl | simp)).nd (n - 1)
        rw [Int.sub_add_cancel] at qa qb
        cases ea : numB n a <;> cases eb : numB n b <;> simp [eq_ii, atI, ixN, qa, qb, ea, eb, arB]
      · have : arB n (.tuple xs) = false := by
          unfold arB
          split
          · rename_i a b e; cases e; simp at hl
          · rfl
        rw [this]
        have hl' : ¬ ((xs.length : Int) = 2) := by lia
        exact seq_rt (ife_t (p := .bool true) (by first | rfl | simp [eq_ii, hl']) rfl (ret_rt (by first | rfl | simp)))
    | _ => cases et
theorem loop_look {g : Env → Option Out} {ρ0 : Sl → Env} {i : Nat} (P : PV → Bool) (hset : ∀ s x, (ρ0 s).set i (.val x) = ρ0 (.val x)) : ∀ (xs : List PV), (∀ x ∈ xs, g (ρ0 (.val x)) = if P x = true then some (.nx (ρ0 (.val x))) else some (.rt (.bool false))) → ∀ s,
    (xs.all P = true → ∃ t, loopF (.one i) g xs (ρ0 s) = some (.nx (ρ0 t))) ∧ (xs.all P = false → loopF (.one i) g xs (ρ0 s) = some (.rt (.bool false)))
  | [], _, s => ⟨fun _ => ⟨s, rfl⟩, fun z => by simp at z⟩
  | x :: xs, h, s => by
    have hx := h x List.mem_cons_self
    obtain ⟨i1, i2⟩ := loop_look P hset xs (fun y hy => h y (List.mem_cons_of_mem _ hy)) (.val x)
    cases e : P x with
    | false =>
      rw [e] at hx
      refine ⟨fun z => by first | rfl | simp [e] at z, fun _ => ?_⟩
      rw [loopF]
      simp [hset, hx]
    | true =>
      rw [e] at hx
      simp only [if_true] at hx
      refine ⟨fun z => ?_, fun z => ?_⟩
      · obtain ⟨t, et⟩ := i1 (by simpa [e] using z)
        refine ⟨t, ?_⟩
        rw [loopF]
        simp [hset, hx, et]
      · rw [loopF]
        simp [hset, hx, i2 (by simpa [e] using z)]
theorem law28 {T : Tab} (h25 : T 25 = some f25) (h : T 28 = some f28) (k : Nat) (p : PV) (hp : Pl p) : run T (k + 2) 28 [p] = some (.bool (worldB p)) := by
  rw [run_at h rfl]
  have key : evS (run T (k + 1)) b28 [.val p, .un, .un] = some (.rt (.bool (worldB p))) := by
    unfold b28
    cases et : tupB p with
    | false =>
      have : worldB p = false := by cases p <;> first | rfl | cases et
      rw [this]
      exact seq_rt (ife_t (p := .bool true) (by first | rfl | simp [hp.nd, et]) rfl (ret_rt (by first | rfl | simp)))
    | true =>
      cases p with
      | tuple xs =>
        by_cases hl : xs.length = 4
        · obtain ⟨m, a, b, c, rfl⟩ := len4 hl
          have hm := (hp.mem m (by first | rfl | simp)).nd
          have q4 := number25 h25 k m hm 4
          cases em : numB (4 + 1) m with
          | false =>
            have : worldB (.tuple [m, a, b, c]) = false := by
              cases m with
              | int n =>
                simp only [numB, Bool.and_eq_false_iff, decide_eq_false_iff_not] at em
                have : ¬ (1 ≤ n ∧ n ≤ 4) := by lia
                simp only [worldB, Bool.and_eq_false_iff, decide_eq_false_iff_not]
                left; lia
              | _ => rfl
            rw [this]
            rw [em] at q4
            exact seq_rt (ife_t (p := .bool true) (by first | rfl | simp [eq_ii, atI, ixN, q4]) rfl (ret_rt (by first | rfl | simp)))
          | true =>
            rw [em] at q4
            cases m with
            | int n =>
              have hn : 0 ≤ n ∧ n < 4 + 1 := by simpa [numB] using em
              by_cases h0 : n = 0
              · subst h0
                have : worldB (.tuple [.int 0, a, b, c]) = false := by first | rfl | simp [worldB]
                rw [this]
                exact seq_rt (ife_t (p := .bool true) (by first | rfl | simp [eq_ii, atI, ixN, q4]) rfl (ret_rt (by first | rfl | simp)))
              · refine seq_nx (ife_f (p := .bool false) (by first | rfl | simp [eq_ii, atI, ixN, q4, h0]) rfl rfl) ?_
                have hw : worldB (.tuple [.int n, a, b, c]) = (markedB n a && (markedB n b && arrowsB n c)) := by
                  have h1 : 1 ≤ n := by lia
                  have h4 : n ≤ 4 := by lia
                  simp [worldB, h1, h4]
                have ta := fun s2 => turn28a h25 k n (by lia) [a, b, c] a (hp.mem a (by first | rfl | simp)) s2
                have tb := fun s2 => turn28a h25 k n (by lia) [a, b, c] b (hp.mem b (by first | rfl | simp)) s2
                have it : evE (run T (k + 1)) (.sl (.var 0) (.con (.int 1)) (.con (.int 3))) [.val (.tuple [.int n, a, b, c]), .un, .un] = some (.tuple [a, b]) := by first | rfl | simp [slF, cut, sIx]
                rw [hw]
                obtain ⟨i1, i2⟩ := loop_look (g := evS (run T (k + 1)) b28l0) (ρ0 := fun s => [.val (.tuple [.int n, a, b, c]), s, .un]) (i := 1) (markedB n) (fun _ _ => rfl) [a, b] (by
                  intro x hx
                  rcases List.mem_cons.mp hx with e | e
                  · rw [e]; exact ta _
                  · rw [List.mem_singleton.mp e]; exact tb _) .un
                cases eab : [a, b].all (markedB n) with
                | false =>
                  have : (markedB n a && (markedB n b && arrowsB n c)) = false := by
                    simp only [List.all_cons, List.all_nil, Bool.and_true] at eab
                    cases h1 : markedB n a <;> cases h2 : markedB n b <;> simp_all
                  rw [this]
                  exact seq_rt (loop_run it rfl (i2 eab))
                | true =>
                  obtain ⟨t1, e1⟩ := i1 eab
                  have hab : (markedB n a && (markedB n b && arrowsB n c)) = arrowsB n c := by
                    simp only [List.all_cons, List.all_nil, Bool.and_true, Bool.and_eq_true] at eab
                    simp [eab.1, eab.2]
                  rw [hab]
                  refine seq_nx (loop_run it rfl e1) ?_
                  have hc := hp.mem c (by first | rfl | simp)
                  have a3 : evE (run T (k + 1)) (.op2 .ix (.var 0) (.con (.int 3))) [.val (.tuple [.int n, a, b, c]), t1, .un] = some c := by first | rfl | simp [atI, ixN]
                  cases etc : tupB c with
                  | false =>
                    have : arrowsB n c = false := by cases c <;> first | rfl | cases etc
                    rw [this]
                    exact seq_rt (ife_t (p := .bool true) (by first | rfl | simp [atI, ixN, hc.nd, etc]) rfl (ret_rt (by first | rfl | simp)))
                  | true =>
                    cases c with
                    | tuple cs =>
                      refine seq_nx (ife_f (p := .bool false) (by first | rfl | simp [atI, ixN]) rfl rfl) ?_
                      obtain ⟨j1, j2⟩ := loop_look (g := evS (run T (k + 1)) b28l1) (ρ0 := fun s => [.val (.tuple [.int n, a, b, .tuple cs]), t1, s]) (i := 2) (arB n) (fun _ _ => rfl) cs (fun x hx => turn28b h25 k n [a, b, .tuple cs] x (hc.mem x hx) t1) .un
                      cases ec : cs.all (arB n) with
                      | false =>
                        have : arrowsB n (.tuple cs) = false := by first | rfl | simp [arrowsB, ec]
                        rw [this]
                        exact seq_rt (loop_run a3 rfl (j2 ec))
                      | true =>
                        obtain ⟨t2, e2⟩ := j1 ec
                        refine seq_nx (loop_run a3 rfl e2) (ret_rt ?_)
                        obtain ⟨p1, f1, q1, f2, f3⟩ := same_tups (by lia) cs ec (run T (k + 1)) (.op2 .ix (.var 0) (.con (.int 3))) [.val (.tuple [.int n, a, b, .tuple cs]), t1, t2] (by first | rfl | simp [atI, ixN])
                        rw [evE, f1, bnd_some, f2, bnd_some]
                        simp [f3, arrowsB, ec]
                    | _ => cases etc
            | _ => simp [numB] at em
        · have : worldB (.tuple xs) = false := worldB_f (by simpa [tupN] using hl)
          rw [this]
          have hl' : ¬ ((xs.length : Int) = 4) := by lia
          exact seq_rt (ife_t (p := .bool true) (by first | rfl | simp [eq_ii, hl']) rfl (ret_rt (by first | rfl | simp)))
      | _ => cases et
  exact congrArg outV key
end DD
set_option maxRecDepth 100000
set_option linter.unusedSimpArgs false
set_option linter.unusedVariables false
namespace DD
open PySem
structure Wd where
  n : Nat
  a : List Nat
  b : List Nat
  e : List (Nat × Nat)
noncomputable def nPv (k : Nat) : PV := .int (k : Nat)
noncomputable def pPv (p : Nat × Nat) : PV := .tuple [nPv p.1, nPv p.2]
noncomputable def Wd.pv (w : Wd) : PV := .tuple [nPv w.n, .tuple (w.a.map nPv), .tuple (w.b.map nPv), .tuple (w.e.map pPv)]
noncomputable def rowOf (n : Nat) (pe : Nat → Nat → Bool) (x : Nat) : List (Nat × Nat) := ((List.range n).filter (pe x)).map fun y => (x, y)
noncomputable def mkW (n : Nat) (pa pb : Nat → Bool) (pe : Nat → Nat → Bool) : Wd := ⟨n, (List.range n).filter pa, (List.range n).filter pb, (List.range n).flatMap (rowOf n pe)⟩
@[simp] theorem isDict_n (k : Nat) : isDict (nPv k) = false := rfl
@[simp] theorem isDict_p (p : Nat × Nat) : isDict (pPv p) = false := rfl
theorem own_nx {cf : Nat → List PV → Option PV} {i : Nat} {e : E} {ρ : Env} {ps : List PV} (h : evE cf e ρ = some (.list ps)) : evS cf (.own i e) ρ = some (.nx (ρ.set i (.own ps))) := by
  rw [evS, h]; rfl
theorem app_nx {cf : Nat → List PV → Option PV} {i : Nat} {e : E} {ρ : Env} {ps : List PV} {p : PV} (h : evE cf e ρ = some p) (hi : ρ[i]? = some (.own ps)) (hl : ps.length < 1000000) (hd : isDict p = false) : evS cf (.app i e) ρ = some (.nx (ρ.set i (.own (ps ++ [p])))) := by
  rw [evS, h, bnd_some, hi, bnd_some, appF, if_pos ⟨hl, hd⟩]
theorem comp_range {cf : Nat → List PV → Option PV} {caps : List Nat} {it cond : E} {ρ : Env} {n : Nat} (P : Nat → Bool) (h : evE cf it ρ = some (.list ((List.range n).map nPv)))
    (hc : ∀ k, k < n → evE cf cond (.val (nPv k) :: caps.map (ρ.getD · .un)) = some (.bool (P k))) : evE cf (.comp none caps it cond (.var 0)) ρ = some (.list (((List.range n).filter P).map nPv)) := by
  rw [comp_self (s := .list ((List.range n).map nPv)) (fun p => P (toI p).toNat) h rfl (fun x hx => by obtain ⟨k, _, rfl⟩ := List.mem_map.mp hx; rfl) fun x hx => by
    obtain ⟨k, hk, rfl⟩ := List.mem_map.mp hx
    exact hc k (List.mem_range.mp hk)]
  rw [List.filter_map]; rfl
theorem rng_n {cf : Nat → List PV → Option PV} {a : E} {ρ : Env} {j : Nat} (h : evE cf a ρ = some (nPv j)) (hj : j ≤ 1000000) : evE cf (.rng a) ρ = some (.list ((List.range j).map nPv)) := rng_run h hj
theorem rng_get {n i : Nat} {x : PV} (h : ((List.range n).map nPv)[i]? = some x) : i < n ∧ x = nPv i := by
  have hi : i < n := by simpa using (List.getElem?_eq_some_iff.mp h).1
  refine ⟨hi, ?_⟩
  have : ((List.range n).map nPv)[i]? = some (nPv i) := by first | rfl | simp [hi]
  rw [this] at h
  exact (Option.some.inj h).symm
theorem rowOf_len (n : Nat) (pe : Nat → Nat → Bool) (x : Nat) : (rowOf n pe x).length ≤ n := by
  unfold rowOf
  rw [List.length_map]
  exact Nat.le_trans (List.length_filter_le _ _) (by first | rfl | simp)
theorem rows_len (n : Nat) (pe : Nat → Nat → Bool) : ∀ l : List Nat, (l.flatMap (rowOf n pe)).length ≤ l.length * n
  | [] => by simp
  | x :: l => by
    have := rows_len n pe l
    have := rowOf_len n pe x
    rw [List.flatMap_cons, List.length_append, List.length_cons, Nat.succ_mul]
    lia
theorem world22 {T : Tab} (h18 : T 18 = some f18) (h : T 22 = some f22) (k : Nat) (num : Int) (m : Nat) (hm : 1 ≤ m) (hm2 : m ≤ 100) :
    ∃ n pa pb pe, 1 ≤ n ∧ n ≤ m ∧ run T (k + 2) 22 [.int num, .int m] = some (mkW n pa pb pe).pv := by
  rw [run_at h rfl]
  have hm0 : (0 : Int) < (m : Int) := by lia
  have g0 := Int.emod_nonneg num (show (m : Int) ≠ 0 by lia)
  have g1 := Int.emod_lt_of_pos num hm0
  obtain ⟨n, en⟩ : ∃ n : Nat, 1 + num % (m : Int) = (n : Int) := ⟨(1 + num % (m : Int)).toNat, by lia⟩
  have hn1 : 1 ≤ n := by lia
  have hn2 : n ≤ m := by lia
  let mk : Int → Nat → Bool := fun at' x => decide (drawnI num (10 * at' + x) / 4 % 2 = 1)
  let sh : Int := 1 + num / 24 % 4
  let pe : Nat → Nat → Bool := fun x y => decide (drawnI num (30 + 8 * x + y) / 4 % 5 < sh)
  refine ⟨n, mk 0, mk 1, pe, hn1, hn2, ?_⟩
  have sm10 : small 10 = true := by decide
  have sm8 : small 8 = true := by decide
  -- one of the two lists of marks
  have turn0 : ∀ (at' : Int) (ps : List PV) (hp : ps.length < 100) (s5 s6 s7 s8 : Sl), evS (run T (k + 1)) b22l0 [.val (.int num), .val (.int m), .val (nPv n), .own ps, .val (.int at'), s5, s6, s7, s8] =
      some (.nx [.val (.int num), .val (.int m), .val (nPv n), .own (ps ++ [.tuple (((List.range n).filter (mk at')).map nPv)]), .val (.int at'), s5, s6, s7, s8]) := by
    intro at' ps hp s5 s6 s7 s8
    unfold b22l0
    have c : evE (run T (k + 1)) (.comp none [0, 4] (.rng (.var 2)) (.op2 .eq (.op2 .mod (.op2 .fdiv (.call 18 (.cons (.var 1) (.cons (.op2 .add (.op2 .mul (.con (.int 10)) (.var 2)) (.var 0)) .nil))) (.con (.int 4))) (.con (.int 2))) (.con (.int 1))) (.var 0))
        [.val (.int num), .val (.int m), .val (nPv n), .own ps, .val (.int at'), s5, s6, s7, s8] = some (.list (((List.range n).filter (mk at')).map nPv)) := by
      refine comp_range (mk at') (rng_n (by first | rfl | simp) (by lia)) fun x hx => ?_
      have d := drawn_run h18 k num (10 * at' + x)
      simp [nPv, sm10, d, eq_ii, mk]
    exact app_nx (p := .tuple (((List.range n).filter (mk at')).map nPv)) (by rw [evE, c]; rfl) rfl (by lia) rfl
  -- the arrows from one thing
  have turn1 : ∀ (x : Nat) (ps : List (Nat × Nat)) (hp : ps.length ≤ 100 * 100) (s3 s4 : Sl) (s8 : Sl), ∃ t8, evS (run T (k + 1)) b22l2 [.val (.int num), .val (.int m), .val (nPv n), s3, s4, .own (ps.map pPv), .val (.int sh), .val (nPv x), s8] =
      some (.nx [.val (.int num), .val (.int m), .val (nPv n), s3, s4, .own ((ps ++ rowOf n pe x).map pPv), .val (.int sh), .val (nPv x), t8]) := by
    intro x ps hp s3 s4 s8
    unfold b22l2
    obtain ⟨ρ', e1, hI⟩ := loop_by (tg := .one 8) (g := evS (run T (k + 1)) b22l1)
      (fun i ρ => i ≤ n → ∃ t8, ρ = [.val (.int num), .val (.int m), .val (nPv n), s3, s4, .own ((ps ++ ((List.range i).filter (pe x)).map fun y => (x, y)).map pPv), .val (.int sh), .val (nPv x), t8])
      ((List.range n).map nPv) 0 (fun i y ρ ey hI => by
        obtain ⟨hi, rfl⟩ := rng_get ey
        obtain ⟨t8, rfl⟩ := hI (by lia)
        have d := drawn_run h18 k num (30 + 8 * (x : Int) + (0 + i : Nat))
        have hlen : (List.map (fun y => (x, y)) (List.filter (pe x) (List.range (0 + i)))).length ≤ 100 := by
          rw [List.length_map]
          exact Nat.le_trans (List.length_filter_le _ _) (by simp; lia)
        have dd := drawn_run h18 k num (30 + 8 * (x : Int) + (i : Nat))
        have hps : ((ps ++ List.map (fun y => (x, y)) (List.filter (pe x) (List.range (0 + i)))).map pPv).length < 1000000 := by
          rw [List.length_map, List.length_append]; lia
        refine ⟨_, [.val (.int num), .val (.int m), .val (nPv n), s3, s4, .own ((ps ++ ((List.range (0 + i + 1)).filter (pe x)).map fun y => (x, y)).map pPv), .val (.int sh), .val (nPv x), .val (nPv i)], rfl, ?_, fun _ => ⟨.val (nPv i), rfl⟩⟩
        have hstep : ps ++ ((List.range (0 + i + 1)).filter (pe x)).map (fun y => (x, y)) = (ps ++ ((List.range (0 + i)).filter (pe x)).map fun y => (x, y)) ++ (if pe x i = true then [(x, i)] else []) := by
          rw [List.range_succ, Nat.zero_add, List.filter_append, List.map_append, ← List.append_assoc]
          cases ec : pe x i <;> simp [ec]
        rw [hstep]
        revert hps
        generalize (ps ++ ((List.range (0 + i)).filter (pe x)).map fun y => (x, y)) = A
        intro hps
        show evS (run T (k + 1)) b22l1 [.val (.int num), .val (.int m), .val (nPv n), s3, s4, .own (A.map pPv), .val (.int sh), .val (nPv x), .val (nPv i)] = _
        unfold b22l1
        have c : evE (run T (k + 1)) (.op2 .lt (.op2 .mod (.op2 .fdiv (.call 18 (.cons (.var 0) (.cons (.op2 .add (.op2 .add (.con (.int 30)) (.op2 .mul (.con (.int 8)) (.var 7))) (.var 8)) .nil))) (.con (.int 4))) (.con (.int 5))) (.var 6))
            [.val (.int num), .val (.int m), .val (nPv n), s3, s4, .own (A.map pPv), .val (.int sh), .val (nPv x), .val (nPv i)] = some (.bool (pe x i)) := by
          simp [nPv, sm8, dd, pe]
        cases ec : pe x i with
        | false =>
          rw [ec] at c
          rw [if_neg (by decide), List.append_nil]
          exact ife_f c rfl rfl
        | true =>
          rw [ec] at c
          rw [if_pos rfl, List.map_append]
          exact ife_t c rfl (app_nx (p := pPv (x, i)) (by first | rfl | simp [pPv]) rfl hps rfl))
      [.val (.int num), .val (.int m), .val (nPv n), s3, s4, .own (ps.map pPv), .val (.int sh), .val (nPv x), s8] (fun _ => ⟨s8, by simp⟩)
    obtain ⟨t8, rfl⟩ := hI (by first | rfl | simp)
    refine ⟨t8, loop_run (rng_n (j := n) (by first | rfl | simp) (by lia)) rfl ?_⟩
    rw [e1]
    simp [rowOf]
  have body : evS (run T (k + 1)) b22 [.val (.int num), .val (.int m), .un, .un, .un, .un, .un, .un, .un] = some (.rt (mkW n (mk 0) (mk 1) pe).pv) := by
    unfold b22
    refine seq_nx (set_nx (p := nPv n) (by first | rfl | simp [hm0, show 0 < m from by lia, en, nPv])) ?_
    refine seq_nx (own_nx (ps := []) (by first | rfl | simp)) ?_
    refine seq_nx (ρ1 := [.val (.int num), .val (.int m), .val (nPv n), .own [.tuple (((List.range n).filter (mk 0)).map nPv), .tuple (((List.range n).filter (mk 1)).map nPv)], .val (.int 1), .un, .un, .un, .un]) (loop_run (p := .tuple [.int 0, .int 1]) (xs := [.int 0, .int 1]) (by first | rfl | simp) rfl ?_) ?_
    · have t0 := turn0 0 [] (by first | rfl | simp) .un .un .un .un
      have t1 := turn0 1 [.tuple (((List.range n).filter (mk 0)).map nPv)] (by first | rfl | simp) .un .un .un .un
      simp only [loopF, bindS, List.set_cons_succ, List.set_cons_zero, bnd_some, t0, turnO_nx, List.nil_append]
      rw [t1]
      rfl
    refine seq_nx (own_nx (ps := []) (by first | rfl | simp)) ?_
    refine seq_nx (set_nx (p := .int sh) (by first | rfl | simp [sh])) ?_
    obtain ⟨ρ', e1, hI⟩ := loop_by (tg := .one 7) (g := evS (run T (k + 1)) b22l2)
      (fun i ρ => i ≤ n → ∃ t7 t8, ρ = [.val (.int num), .val (.int m), .val (nPv n), .own [.tuple (((List.range n).filter (mk 0)).map nPv), .tuple (((List.range n).filter (mk 1)).map nPv)], .val (.int 1), .own (((List.range i).flatMap (rowOf n pe)).map pPv), .val (.int sh), t7, t8])
      ((List.range n).map nPv) 0 (fun i x ρ ex hI => by
        obtain ⟨hi, rfl⟩ := rng_get ex
        obtain ⟨t7, t8, rfl⟩ := hI (by lia)
        have hlen : ((List.range (0 + i)).flatMap (rowOf n pe)).length ≤ 100 * 100 := by
          refine Nat.le_trans (rows_len n pe _) ?_
          rw [List.length_range]
          exact Nat.mul_le_mul (by lia) (by lia)
        obtain ⟨u8, et⟩ := turn1 i ((List.range (0 + i)).flatMap (rowOf n pe)) hlen (.own [.tuple (((List.range n).filter (mk 0)).map nPv), .tuple (((List.range n).filter (mk 1)).map nPv)]) (.val (.int 1)) t8
        refine ⟨_, _, rfl, et, fun _ => ⟨.val (nPv i), u8, ?_⟩⟩
        have hr : List.range (0 + i + 1) = List.range (0 + i) ++ [i] := by rw [List.range_succ, Nat.zero_add]
        rw [hr, List.flatMap_append]
        simp)
      [.val (.int num), .val (.int m), .val (nPv n), .own [.tuple (((List.range n).filter (mk 0)).map nPv), .tuple (((List.range n).filter (mk 1)).map nPv)], .val (.int 1), .own [], .val (.int sh), .un, .un] (fun _ => ⟨.un, .un, by simp⟩)
    obtain ⟨t7, t8, rfl⟩ := hI (by first | rfl | simp)
    refine seq_nx (loop_run (rng_n (j := n) (by first | rfl | simp) (by lia)) rfl e1) (ret_rt ?_)
    simp [atI, ixN, mkW, Wd.pv]
  exact congrArg outV body
end DD
set_option maxRecDepth 100000
set_option linter.unusedSimpArgs false
set_option linter.unusedVariables false
namespace DD
open PySem
inductive Sm (n : Nat) : PV → Prop where
  | none : Sm n .none
  | bool (b : Bool) : Sm n (.bool b)
  | int (i : Int) : Sm n (.int i)
  | str (x : Str) : Sm n (.str x)
  | list {ps : List PV} (h : ∀ p ∈ ps, Sm n p) (hl : ps.length ≤ n) : Sm n (.list ps)
  | tuple {ps : List PV} (h : ∀ p ∈ ps, Sm n p) (hl : ps.length ≤ n) : Sm n (.tuple ps)
theorem Sm.pl {n : Nat} {p : PV} (h : Sm n p) : Pl p := by
  induction h with
  | none => exact .none
  | bool b => exact .bool b
  | int i => exact .int i
  | str x => exact .str x
  | list h hl ih => exact .list ih
  | tuple h hl ih => exact .tuple ih
theorem Sm.short {n : Nat} {p : PV} (h : Sm n p) (hn : n ≤ 1000000) : short p := by
  cases h with
  | tuple h hl => exact Nat.le_trans hl hn
  | _ => trivial
inductive Si : PV → Prop where
  | int (i : Int) (h : -1000 ≤ i ∧ i ≤ 1000) : Si (.int i)
  | str (x : Str) : Si (.str x)
  | tuple {ps : List PV} (h : ∀ p ∈ ps, Si p) (hl : ps.length ≤ 1000) : Si (.tuple ps)
theorem Si.sm {p : PV} (h : Si p) : Sm 3000 p := by
  induction h with
  | int i h => exact .int i
  | str x => exact .str x
  | tuple h hl ih => exact .tuple ih (by lia)
mutual
noncomputable def smB : PV → Bool
  | .list ps => smsB ps && decide (ps.length ≤ 3000)
  | .tuple ps => smsB ps && decide (ps.length ≤ 3000)
  | .dict _ => false
  | _ => true
noncomputable def smsB : List PV → Bool
  | [] => true
  | p :: ps => smB p && smsB ps
end
mutual
theorem smB_ok : ∀ p : PV, smB p = true → Sm 3000 p
  | .none, _ => .none
  | .bool b, _ => .bool b
  | .int i, _ => .int i
  | .str x, _ => .str x
  | .list ps, h => by
    rw [smB, Bool.and_eq_true] at h
    exact .list (smsB_ok ps h.1) (of_decide_eq_true h.2)
  | .tuple ps, h => by
    rw [smB, Bool.and_eq_true] at h
    exact .tuple (smsB_ok ps h.1) (of_decide_eq_true h.2)
  | .dict _, h => by first | rfl | simp [smB] at h
theorem smsB_ok : ∀ ps : List PV, smsB ps = true → ∀ p ∈ ps, Sm 3000 p
  | [], _ => fun _ h => by cases h
  | p :: ps, h => by
    rw [smsB, Bool.and_eq_true] at h
    intro q hq
    rcases List.mem_cons.mp hq with e | e
    · rw [e]; exact smB_ok p h.1
    · exact smsB_ok ps h.2 q e
end
theorem at_ex {α : Type} (xs : List α) (i : Int) (h0 : 0 ≤ i) (h1 : i < xs.length) : ∃ x, x ∈ xs ∧ atI xs i = some x := by
  have hi : i.toNat < xs.length := by lia
  refine ⟨xs[i.toNat], List.getElem_mem hi, ?_⟩
  unfold atI ixN
  rw [if_pos h0, if_pos h1]
  simp [hi]
noncomputable def oddL : List PV := [.int (-1), .int 0, .int 1, .int 2, .int 4, .bool true, .bool false, .none, .str "", .str "yes", .str "no", .str "each", .str "some", .tuple [], .list [], .tuple [.int 0], .tuple [.int 0, .int 0], .tuple [.int 1, .int 0], .list [.int 0],
  .tuple [.str "a", .str "x"], .tuple [.str "to", .str "x"], .tuple [.str "to", .str "x", .str "z"], .tuple [.str "not", .str "yes"], .tuple [.str "each", .str "some", .str "no"], .tuple [.str "a", .str "y"], .str "x",
  .tuple [.int 0, .bool true], .tuple [.int 0, .int 4], .tuple [.str "b", .int 0], .tuple [.str "both", .str "yes"], .tuple [.tuple [.int 0, .int 1]], .int 1000000000000000000000000000000]
theorem odd23 {T : Tab} (h : T 23 = some f23) (k : Nat) (n : Int) : ∃ q, Sm 3000 q ∧ run T (k + 1) 23 [.int n] = some q := by
  obtain ⟨q, hq, e⟩ := at_ex oddL (n % 32) (by lia) (by have : oddL.length = 32 := rfl; lia)
  refine ⟨q, smsB_ok oddL (by first | rfl | simp [oddL, smB, smsB]) q hq, ?_⟩
  rw [run_at h rfl]
  unfold oddL at e
  simp [b23, e]
theorem same29 {T : Tab} (h : T 29 = some f29) (k : Nat) (a b : Bool) : run T (k + 1) 29 [.bool a, .bool b] = some (.bool (decide (a = b))) := by
  rw [run_at h rfl]
  have : eqF (.bool a) (.bool b) = some (decide (a = b)) := by
    unfold eqF
    rw [if_neg (by first | rfl | simp), if_pos (by first | rfl | simp [PyData.depth])]
    simp only [PyData.eqv]
    cases a <;> cases b <;> rfl
  simp [b29, this]
theorem six (n : Int) : 0 ≤ n % 6 ∧ n % 6 < 6 := by lia
theorem Sm.cut {n : Nat} {ps : List PV} (h : ∀ p ∈ ps, Sm n p) (lo hi : Option Int) : ∀ p ∈ cut ps lo hi, Sm n p := fun p hp => h p (List.mem_of_mem_drop (List.mem_of_mem_take hp))
theorem cut_len {α : Type} (ps : List α) (lo hi : Option Int) : (cut ps lo hi).length ≤ ps.length := by
  unfold DD.cut
  rw [List.length_take, List.length_drop]; lia
theorem repL_mem {α : Type} {xs : List α} {n : Int} {x : α} (h : x ∈ repL xs n) : x ∈ xs := by
  unfold repL at h
  obtain ⟨l, hl, hx⟩ := List.mem_flatten.mp h
  rw [List.eq_of_mem_replicate hl] at hx
  exact hx
theorem repL_len {α : Type} (xs : List α) (n : Int) : (repL xs n).length = xs.length * n.toNat := by
  unfold repL
  rw [List.length_flatten, List.map_replicate, List.sum_replicate_nat, Nat.mul_comm]
theorem spoilt_flat {T : Tab} (h23 : T 23 = some f23) (k : Nat) (p : PV) (n d : Int) (hp : Si p) (hb : ¬ (0 < d) ∨ ¬ (0 < n % 6) ∨ ∀ x xs, p ≠ .tuple (x :: xs)) :
    ∃ q, Sm 3000 q ∧ evS (run T (k + 1)) b24 [.val p, .val (.int n), .val (.int d), .un, .un] = some (.rt q) := by
  obtain ⟨o, ho, eo⟩ := odd23 h23 k (n / 6)
  have h0 : 0 < d ∨ ¬ 0 < d := by lia
  cases hp with
  | int i hi =>
    by_cases h6 : n / 6 % 2 = 0
    · obtain ⟨q, hq, eq⟩ := at_ex [PyData.str (intStr i), .int (-i), .int (i + 1), .bool (decide (i = 1)), .int (1 - i), .int (i + 4)] (n / 12 % 6) (six _).1 (six _).2
      have hn : i.natAbs < 2 ^ 64 := by lia
      refine ⟨q, smsB_ok _ (by first | rfl | simp [smB, smsB]) q hq, ?_⟩
      rcases h0 with h0 | h0 <;> simp [b24, h0, h6, eq_ii, hn, eq]
    · refine ⟨o, ho, ?_⟩
      rcases h0 with h0 | h0 <;> simp [b24, h0, h6, eq_ii, eo]
  | str x =>
    refine ⟨o, ho, ?_⟩
    rcases h0 with h0 | h0 <;> simp [b24, h0, eo]
  | tuple hps hl =>
    rename_i ps
    cases ps with
    | nil =>
      refine ⟨o, ho, ?_⟩
      rcases h0 with h0 | h0 <;> simp [b24, h0, eo]
    | cons x xs =>
      have hlen : (0 : Int) < (xs.length : Int) + 1 := by lia
      have hb' : ¬ (0 < d) ∨ ¬ (0 < n % 6) := by
        rcases hb with z | z | z
        · exact .inl z
        · exact .inr z
        · exact absurd rfl (z x xs)
      have c1 : evE (run T (k + 1)) (.and (.op2 .gt (.var 2) (.con (.int 0))) (.and (.op1 .isTup (.var 0)) (.and (.op2 .gt (.op1 .len (.var 0)) (.con (.int 0))) (.op2 .gt (.op2 .mod (.var 1) (.con (.int 6))) (.con (.int 0))))))
          [.val (.tuple (x :: xs)), .val (.int n), .val (.int d), .un, .un] = some (.bool false) := by
        by_cases z : 0 < d
        · have z2 : ¬ (0 < n % 6) := by lia
          simp [z, z2, hlen]
        · simp [z]
      by_cases h6 : n / 6 % 2 = 0
      · have hps' : ∀ p ∈ x :: xs, Sm 3000 p := fun p hp => (hps p hp).sm
        have hl' : (x :: xs).length ≤ 1000 := hl
        have hl1 : (x :: xs).length + (DD.cut (x :: xs) (some (-1)) none).length ≤ 16777216 := by
          have := cut_len (x :: xs) (some (-1)) none; lia
        have hl2 : (x :: xs).length * 2 ≤ 16777216 := by lia
        obtain ⟨q, hq, eq⟩ := at_ex [PyData.list (x :: xs), .tuple (DD.cut (x :: xs) none (some (-1))), .tuple (x :: xs ++ DD.cut (x :: xs) (some (-1)) none), .tuple (DD.cut (x :: xs) (some 1) none), .tuple (x :: xs).reverse, .tuple (repL (x :: xs) 2)] (n / 12 % 6) (six _).1 (six _).2
        refine ⟨q, ?_, ?_⟩
        · simp only [List.mem_cons, List.not_mem_nil, or_false] at hq
          rcases hq with rfl | rfl | rfl | rfl | rfl | rfl
          · exact .list hps' (by lia)
          · exact .tuple (Sm.cut hps' _ _) (Nat.le_trans (cut_len _ _ _) (by lia))
          · refine .tuple (fun p hp => ?_) ?_
            · rcases List.mem_append.mp hp with z | z
              · exact hps' p z
              · exact Sm.cut hps' _ _ p z
            · rw [List.length_append]
              have := cut_len (x :: xs) (some (-1)) none; lia
          · exact .tuple (Sm.cut hps' _ _) (Nat.le_trans (cut_len _ _ _) (by lia))
          · exact .tuple (fun p hp => hps' p (List.mem_reverse.mp hp)) (by rw [List.length_reverse]; lia)
          · exact .tuple (fun p hp => hps' p (repL_mem hp)) (by rw [repL_len]; show (x :: xs).length * 2 ≤ 3000; lia)
        · unfold b24
          refine seq_nx (ife_f c1 rfl rfl) (seq_rt (ife_t (p := .bool true) (by first | rfl | simp [hlen, eq_ii, h6]) rfl (ret_rt ?_)))
          have e3 : addF (.tuple (x :: xs)) (.tuple (DD.cut (x :: xs) (some (-1)) none)) = some (.tuple (x :: xs ++ DD.cut (x :: xs) (some (-1)) none)) := by rw [addF, if_pos hl1]
          have e5 : mulF (.tuple (x :: xs)) (.int 2) = some (.tuple (repL (x :: xs) 2)) := by rw [mulF, if_pos ⟨hl2, by decide, by decide⟩]
          simp only [evE, List.getElem?_cons_zero, List.getElem?_cons_succ, bnd_some, Sl_get_e1, opF1_e1, opF1_e10, opF1_e17, opF2, slF, partF_e1, partF_e2, cutF_e1, e3, e5, consF_e1, lstF_e1, anyD, isDict_list, isDict_tuple, Bool.or_self, Bool.or_false, tst_false, fdivF_e1, modF_e1, ixF_e3]
          rw [if_pos (by decide), bnd_some, modF, if_pos (by decide), bnd_some]
          exact eq
      · refine ⟨o, ho, ?_⟩
        unfold b24
        refine seq_nx (ife_f c1 rfl rfl) (seq_nx (ife_f (p := .bool false) (by first | rfl | simp [hlen, eq_ii, h6]) rfl rfl) (seq_nx (ife_f (p := .bool false) (by first | rfl | simp) rfl rfl) (ret_rt (by first | rfl | simp [eo]))))
theorem spoilt24 {T : Tab} (h23 : T 23 = some f23) (h : T 24 = some f24) : ∀ (d : Nat) (k : Nat) (p : PV) (n : Int), Si p → ∃ q, Sm 3000 q ∧ run T (k + d + 2) 24 [p, .int n, .int d] = some q := by
  intro d
  induction d with
  | zero =>
    intro k p n hp
    obtain ⟨q, hq, e⟩ := spoilt_flat h23 k p n 0 hp (.inl (by decide))
    refine ⟨q, hq, ?_⟩
    rw [run_at h rfl]
    exact congrArg outV e
  | succ d ih =>
    intro k p n hp
    rw [show k + (d + 1) + 2 = (k + d + 2) + 1 from by lia]
    by_cases hb : ¬ (0 < n % 6) ∨ ∀ x xs, p ≠ .tuple (x :: xs)
    · obtain ⟨q, hq, e⟩ := spoilt_flat h23 (k + d + 1) p n ((d : Nat) + 1 : Nat) hp (.inr hb)
      refine ⟨q, hq, ?_⟩
      rw [run_at h rfl]
      exact congrArg outV e
    · have h6 : 0 < n % 6 := by
        by_cases z : 0 < n % 6
        · exact z
        · exact absurd (.inl z) hb
      have hx : ∃ x xs, p = .tuple (x :: xs) := by
        cases p with
        | tuple ps =>
          cases ps with
          | nil => exact absurd (.inr fun x xs z => by cases z) hb
          | cons x xs => exact ⟨x, xs, rfl⟩
        | _ => exact absurd (.inr fun x xs z => by cases z) hb
      obtain ⟨x, xs, rfl⟩ := hx
      cases hp with
      | tuple hps hl =>
        have hl' : xs.length + 1 ≤ 1000 := hl
        have hlen : (0 : Int) < (xs.length : Int) + 1 := by lia
        have hd : (0 : Int) < (d : Int) + 1 := by lia
        have hd1 : (d : Int) + 1 - 1 = d := by lia
        have a0 := Int.emod_nonneg (n / 6) (show (xs.length : Int) + 1 ≠ 0 by lia)
        have a1 := Int.emod_lt_of_pos (n / 6) hlen
        obtain ⟨y, hy, ey⟩ := at_ex (x :: xs) (n / 6 % ((xs.length : Int) + 1)) a0 (by simpa using a1)
        obtain ⟨q, hq, eq⟩ := ih k y (n / 126) (hps y hy)
        have hps' : ∀ p ∈ x :: xs, Sm 3000 p := fun p hp => (hps p hp).sm
        have c1 := cut_len (x :: xs) none (some (n / 6 % ((xs.length : Int) + 1)))
        have c2 := cut_len (x :: xs) (some (n / 6 % ((xs.length : Int) + 1) + 1)) none
        have c1' : (DD.cut (x :: xs) none (some (n / 6 % ((xs.length : Int) + 1)))).length ≤ 1000 := Nat.le_trans c1 hl
        have c2' : (DD.cut (x :: xs) (some (n / 6 % ((xs.length : Int) + 1) + 1)) none).length ≤ 1000 := Nat.le_trans c2 hl
        refine ⟨.tuple (DD.cut (x :: xs) none (some (n / 6 % ((xs.length : Int) + 1))) ++ [q] ++ DD.cut (x :: xs) (some (n / 6 % ((xs.length : Int) + 1) + 1)) none), ?_, ?_⟩
        · refine .tuple (fun p hp => ?_) ?_
          · rcases List.mem_append.mp hp with z | z
            · rcases List.mem_append.mp z with z | z
              · exact Sm.cut hps' _ _ p z
              · rw [List.mem_singleton.mp z]; exact hq
            · exact Sm.cut hps' _ _ p z
          · simp only [List.length_append, List.length_cons, List.length_nil]; lia
        · rw [run_at h rfl]
          have l1 : (DD.cut (x :: xs) none (some (n / 6 % ((xs.length : Int) + 1)))).length + 1 ≤ 16777216 := by lia
          have l2 : (DD.cut (x :: xs) none (some (n / 6 % ((xs.length : Int) + 1)))).length + 1 + (DD.cut (x :: xs) (some (n / 6 % ((xs.length : Int) + 1) + 1)) none).length ≤ 16777216 := by lia
          have l2' : (DD.cut (x :: xs) none (some (n / 6 % ((xs.length : Int) + 1)))).length + ((DD.cut (x :: xs) (some (n / 6 % ((xs.length : Int) + 1) + 1)) none).length + 1) ≤ 16777216 := by lia
          have qd := hq.pl.nd
          simp [b24, hd, hlen, h6, ey, eq, hd1, slF, qd, l1, l2, l2']
end DD
set_option maxRecDepth 100000
set_option linter.unusedSimpArgs false
set_option linter.unusedVariables false
namespace DD
open PySem
theorem Si.form : ∀ f : Fm, Si f.pv
  | .yes => .str _
  | .no => .str _
  | .a n => .tuple (fun p hp => by simp only [List.mem_cons, List.not_mem_nil, or_false] at hp; rcases hp with rfl | rfl <;> exact .str _) (by first | rfl | simp)
  | .b n => .tuple (fun p hp => by simp only [List.mem_cons, List.not_mem_nil, or_false] at hp; rcases hp with rfl | rfl <;> exact .str _) (by first | rfl | simp)
  | .to m n => .tuple (fun p hp => by simp only [List.mem_cons, List.not_mem_nil, or_false] at hp; rcases hp with rfl | rfl | rfl <;> exact .str _) (by first | rfl | simp)
  | .not f => .tuple (fun p hp => by
      simp only [List.mem_cons, List.not_mem_nil, or_false] at hp
      rcases hp with rfl | rfl
      · exact .str _
      · exact Si.form f) (by first | rfl | simp)
  | .both f g => .tuple (fun p hp => by
      simp only [List.mem_cons, List.not_mem_nil, or_false] at hp
      rcases hp with rfl | rfl | rfl
      · exact .str _
      · exact Si.form f
      · exact Si.form g) (by first | rfl | simp)
  | .either f g => .tuple (fun p hp => by
      simp only [List.mem_cons, List.not_mem_nil, or_false] at hp
      rcases hp with rfl | rfl | rfl
      · exact .str _
      · exact Si.form f
      · exact Si.form g) (by first | rfl | simp)
theorem Si.dm (d : Dm) : Si d.pv := .tuple (fun p hp => by
  simp only [List.mem_cons, List.not_mem_nil, or_false] at hp
  rcases hp with rfl | rfl | rfl
  · exact .str _
  · exact .str _
  · exact Si.form _) (by first | rfl | simp)
theorem Si.row (r : List Dm) (h : r.length ≤ 1000) : Si (rowPv r) := .tuple (fun p hp => by obtain ⟨d, _, rfl⟩ := List.mem_map.mp hp; exact .dm d) (by simpa using h)
theorem Si.ns (l : List Nat) (h : ∀ k ∈ l, k ≤ 1000) (hl : l.length ≤ 1000) : Si (.tuple (l.map nPv)) := .tuple (fun p hp => by
  obtain ⟨k, hk, rfl⟩ := List.mem_map.mp hp
  have := h k hk
  exact .int _ (by lia)) (by simpa using hl)
theorem Si.ps (l : List (Nat × Nat)) (h : ∀ k ∈ l, k.1 ≤ 1000 ∧ k.2 ≤ 1000) (hl : l.length ≤ 1000) : Si (.tuple (l.map pPv)) := .tuple (fun p hp => by
  obtain ⟨k, hk, rfl⟩ := List.mem_map.mp hp
  have := h k hk
  refine .tuple (fun q hq => ?_) (by first | rfl | simp)
  simp only [List.mem_cons, List.not_mem_nil, or_false] at hq
  rcases hq with rfl | rfl
  · exact .int _ (by lia)
  · exact .int _ (by lia)) (by simpa using hl)
theorem mkW_e {n : Nat} {pa pb : Nat → Bool} {pe : Nat → Nat → Bool} : ∀ p ∈ (mkW n pa pb pe).e, p.1 < n ∧ p.2 < n := by
  intro p hp
  obtain ⟨x, hx, hq⟩ := List.mem_flatMap.mp hp
  obtain ⟨y, hy, rfl⟩ := List.mem_map.mp hq
  exact ⟨List.mem_range.mp hx, List.mem_range.mp (List.mem_filter.mp hy).1⟩
theorem Si.world {n : Nat} (pa pb : Nat → Bool) (pe : Nat → Nat → Bool) (hn : n ≤ 20) : Si (mkW n pa pb pe).pv := by
  have hm : ∀ P : Nat → Bool, ∀ k ∈ (List.range n).filter P, k ≤ 1000 := fun P k hk => by
    have := List.mem_range.mp (List.mem_filter.mp hk).1; lia
  have hl : ∀ P : Nat → Bool, ((List.range n).filter P).length ≤ 1000 := fun P => Nat.le_trans (List.length_filter_le _ _) (by simp; lia)
  refine .tuple (fun p hp => ?_) (by first | rfl | simp)
  simp only [List.mem_cons, List.not_mem_nil, or_false] at hp
  rcases hp with rfl | rfl | rfl | rfl
  · exact .int _ (by show (-1000 : Int) ≤ ((n : Nat) : Int) ∧ ((n : Nat) : Int) ≤ 1000; lia)
  · exact .ns _ (hm pa) (hl pa)
  · exact .ns _ (hm pb) (hl pb)
  · refine .ps _ (fun k hk => ?_) ?_
    · have := mkW_e k hk; lia
    · have := rows_len n pe (List.range n)
      rw [List.length_range] at this
      exact Nat.le_trans this (Nat.le_trans (Nat.mul_le_mul hn hn) (by decide))
theorem ife_set {cf : Nat → List PV → Option PV} {c e : E} {s0 s1 s3 : Sl} {p : PV} {b : Bool} (P : PV → Prop) (hc : evE cf c [s0, s1, .val p, s3] = some (.bool b)) (he : b = true → ∃ q, P q ∧ evE cf e [s0, s1, .val p, s3] = some q) (hn : b = false → P p) :
    ∃ q, P q ∧ evS cf (.ife c (.set 2 e) .nx) [s0, s1, .val p, s3] = some (.nx [s0, s1, .val q, s3]) := by
  cases b with
  | true =>
    obtain ⟨q, hq, eq⟩ := he rfl
    exact ⟨q, hq, ife_t hc rfl (set_nx eq)⟩
  | false => exact ⟨p, hn rfl, ife_f hc rfl rfl⟩
noncomputable abbrev T1 : Tab := K01.tab
theorem thk1 : ThK T1 := ⟨rfl, rfl, rfl, rfl, rfl, rfl, rfl, rfl, rfl, rfl, rfl, rfl, rfl, rfl, rfl, rfl⟩
theorem law30 (ns : List Int) : run T1 40 30 [.list (ns.map .int)] = some (.bool true) := by
  rw [run_at (k := 39) (F := f30) rfl rfl]
  obtain ⟨c0, g0, g1, m0⟩ := mixed_ex (T := T1) rfl rfl 37 ns 0
  obtain ⟨c1, _, _, m1⟩ := mixed_ex (T := T1) rfl rfl 37 ns 1
  obtain ⟨c2, _, _, m2⟩ := mixed_ex (T := T1) rfl rfl 37 ns 2
  obtain ⟨c3, _, _, m3⟩ := mixed_ex (T := T1) rfl rfl 37 ns 3
  obtain ⟨c4, _, _, m4⟩ := mixed_ex (T := T1) rfl rfl 37 ns 4
  obtain ⟨c5, _, _, m5⟩ := mixed_ex (T := T1) rfl rfl 37 ns 5
  obtain ⟨c6, _, _, m6⟩ := mixed_ex (T := T1) rfl rfl 37 ns 6
  simp only [Int.cast_ofNat_Int, Int.natCast_zero, Int.natCast_one] at m0 m1 m2 m3 m4 m5 m6
  obtain ⟨r, hr, er⟩ := row_ex (T := T1) rfl rfl rfl rfl 4 (by decide) c1 32
  simp only [Int.cast_ofNat_Int] at er
  obtain ⟨f, hf, ef⟩ := form_ex (T := T1) rfl rfl 3 c3 34
  simp only [Int.cast_ofNat_Int] at ef
  obtain ⟨n, pa, pb, pe, hn1, hn5, ew⟩ := world22 (T := T1) rfl rfl 37 c5 5 (by decide) (by decide)
  simp only [Int.cast_ofNat_Int] at ew
  have spo : ∀ (p : PV) (m d : Int), Si p → 0 ≤ d → d < 10 → ∃ q, Sm 3000 q ∧ run T1 39 24 [p, .int m, .int d] = some q := by
    intro p m d hp h0 h1
    obtain ⟨j, rfl⟩ : ∃ j : Nat, d = (j : Int) := ⟨d.toNat, by lia⟩
    obtain ⟨q, hq, e⟩ := spoilt24 (T := T1) rfl rfl j 0 p m hp
    exact ⟨q, hq, run_le (by lia) e⟩
  have sc : ∀ b : Bool, run T1 39 29 [.bool b, .bool b] = some (.bool true) := fun b => by rw [same29 (T := T1) rfl 38 b b]; simp
  have key : evS (run T1 39) b30 [.val (.list (ns.map .int)), .un, .un, .un] = some (.rt (.bool true)) := by
    unfold b30
    refine seq_nx (set_nx (p := .int c0) (by first | rfl | simp [m0])) ?_
    refine seq_nx (set_nx (p := rowPv r) (by first | rfl | simp [m1, er])) ?_
    -- five demands
    obtain ⟨p3, hp3, e3⟩ := ife_set (cf := run T1 39) (c := .op2 .eq (.op2 .mod (.var 1) (.con (.int 7))) (.con (.int 1))) (e := .sl (.op2 .add (.var 2) (.op2 .mul (.tup (.cons (.tup (.cons (.con (.str "each")) (.cons (.con (.str "each")) (.cons (.con (.str "yes")) .nil)))) .nil)) (.con (.int 5)))) (.con .none) (.op2 .add (.con (.int 4)) (.op2 .mod (.op2 .fdiv (.var 1) (.con (.int 7))) (.con (.int 2)))))
      (s0 := .val (.list (ns.map .int))) (s1 := .val (.int c0)) (s3 := .un) (p := rowPv r) (b := decide (c0 % 7 = 1)) (fun q => Si q ∧ ∃ xs, q = .tuple xs) (by first | rfl | simp [eq_ii]) (fun _ => by
        have l1 : (repL [Dm.pv ⟨.each, .each, .yes⟩] 5).length = 5 := by rw [repL_len]; rfl
        have l2 : (r.map Dm.pv).length + (repL [Dm.pv ⟨.each, .each, .yes⟩] 5).length ≤ 16777216 := by
          rw [l1, List.length_map]; have := hr.len; lia
        refine ⟨.tuple (DD.cut (r.map Dm.pv ++ repL [Dm.pv ⟨.each, .each, .yes⟩] 5) none (some (4 + c0 / 7 % 2))), ⟨.tuple (fun p hp => ?_) ?_, _, rfl⟩, ?_⟩
        · have hp' : p ∈ r.map Dm.pv ++ repL [Dm.pv ⟨.each, .each, .yes⟩] 5 := List.mem_of_mem_drop (List.mem_of_mem_take hp)
          rcases List.mem_append.mp hp' with z | z
          · obtain ⟨d, _, rfl⟩ := List.mem_map.mp z; exact .dm d
          · rw [List.mem_singleton.mp (repL_mem z)]; exact .dm _
        · refine Nat.le_trans (cut_len _ _ _) ?_
          rw [List.length_append, l1, List.length_map]; have := hr.len; lia
        · have e1 : mulF (.tuple [.tuple [.str "each", .str "each", .str "yes"]]) (.int 5) = some (.tuple (repL [Dm.pv ⟨.each, .each, .yes⟩] 5)) := by first | rfl | simp [Dm.pv, Fm.pv, Qt.s]
          have e2 : addF (rowPv r) (.tuple (repL [Dm.pv ⟨.each, .each, .yes⟩] 5)) = some (.tuple (r.map Dm.pv ++ repL [Dm.pv ⟨.each, .each, .yes⟩] 5)) := by
            unfold rowPv
            rw [addF, if_pos l2]
          simp only [evE, List.getElem?_cons_zero, List.getElem?_cons_succ, bnd_some, Sl_get_e1, opF2, consF_e1, tupF_e1, anyD, isDict_str, isDict_tuple, Bool.or_self, Bool.or_false, tst_false, e1, e2]
          simp [slF]) (fun _ => ⟨Si.row r (by have := hr.len; lia), _, rfl⟩)
    refine seq_nx e3 ?_
    obtain ⟨si3, xs3, rfl⟩ := hp3
    have len3 : xs3.length ≤ 1000 := by cases si3; assumption
    have mem3 : ∀ p ∈ xs3, Si p := by cases si3; assumption
    -- three that begin with some and each
    obtain ⟨p4, hp4, e4⟩ := ife_set (cf := run T1 39) (c := .op2 .eq (.op2 .mod (.var 1) (.con (.int 7))) (.con (.int 2))) (e := .op2 .add (.op2 .mul (.tup (.cons (.tup (.cons (.con (.str "some")) (.cons (.con (.str "each")) (.cons (.tup (.cons (.con (.str "a")) (.cons (.con (.str "x")) .nil))) .nil)))) .nil)) (.op2 .add (.con (.int 2)) (.op2 .mod (.op2 .fdiv (.var 1) (.con (.int 7))) (.con (.int 2))))) (.sl (.var 2) (.con .none) (.con (.int 1))))
      (s0 := .val (.list (ns.map .int))) (s1 := .val (.int c0)) (s3 := .un) (p := .tuple xs3) (b := decide (c0 % 7 = 2)) Si (by first | rfl | simp [eq_ii]) (fun _ => by
        have q0 : 0 ≤ c0 / 7 % 2 ∧ c0 / 7 % 2 < 2 := by lia
        have l1 : (repL [Dm.pv ⟨.some, .each, .a .x⟩] (2 + c0 / 7 % 2)).length ≤ 3 := by rw [repL_len]; simp only [List.length_cons, List.length_nil]; lia
        have l0 := cut_len xs3 none (some 1)
        have l2 : (repL [Dm.pv ⟨.some, .each, .a .x⟩] (2 + c0 / 7 % 2)).length + (DD.cut xs3 none (some 1)).length ≤ 16777216 := by lia
        refine ⟨.tuple (repL [Dm.pv ⟨.some, .each, .a .x⟩] (2 + c0 / 7 % 2) ++ DD.cut xs3 none (some 1)), .tuple (fun p hp => ?_) ?_, ?_⟩
        · rcases List.mem_append.mp hp with z | z
          · rw [List.mem_singleton.mp (repL_mem z)]; exact .dm _
          · exact mem3 p (List.mem_of_mem_drop (List.mem_of_mem_take z))
        · have l3 : (DD.cut xs3 none (some 1)).length ≤ 1 := by first | rfl | simp [DD.cut, sIx]; lia
          rw [List.length_append]; lia
        · have e1 : mulF (.tuple [.tuple [.str "some", .str "each", .tuple [.str "a", .str "x"]]]) (.int (2 + c0 / 7 % 2)) = some (.tuple (repL [Dm.pv ⟨.some, .each, .a .x⟩] (2 + c0 / 7 % 2))) := by
            rw [mulF, if_pos (by simp only [List.length_cons, List.length_nil]; lia)]; rfl
          have e2 : addF (.tuple (repL [Dm.pv ⟨.some, .each, .a .x⟩] (2 + c0 / 7 % 2))) (.tuple (DD.cut xs3 none (some 1))) = some (.tuple (repL [Dm.pv ⟨.some, .each, .a .x⟩] (2 + c0 / 7 % 2) ++ DD.cut xs3 none (some 1))) := by
            rw [addF, if_pos l2]
          have e5 : evE (run T1 39) (.op2 .add (.con (.int 2)) (.op2 .mod (.op2 .fdiv (.var 1) (.con (.int 7))) (.con (.int 2)))) [.val (.list (ns.map .int)), .val (.int c0), .val (.tuple xs3), .un] = some (.int (2 + c0 / 7 % 2)) := by simp
          rw [evE, evE, e5]
          simp only [evE, List.getElem?_cons_zero, List.getElem?_cons_succ, bnd_some, Sl_get_e1, opF2, consF_e1, tupF_e1, anyD, isDict_str, isDict_tuple, Bool.or_self, Bool.or_false, tst_false, e1, slF, partF_e1, partF_e2, cutF_e1, e2]) (fun _ => si3)
    refine seq_nx e4 ?_
    -- changed
    obtain ⟨p5, hp5, e5⟩ := ife_set (cf := run T1 39) (c := .op2 .eq (.op2 .mod (.op2 .fdiv (.var 1) (.con (.int 7))) (.con (.int 2))) (.con (.int 1))) (e := .call 24 (.cons (.var 2) (.cons (.call 17 (.cons (.var 0) (.cons (.con (.int 2)) .nil))) (.cons (.op2 .mod (.op2 .fdiv (.var 1) (.con (.int 14))) (.con (.int 8))) .nil))))
      (s0 := .val (.list (ns.map .int))) (s1 := .val (.int c0)) (s3 := .un) (p := p4) (b := decide (c0 / 7 % 2 = 1)) (Sm 3000) (by first | rfl | simp [eq_ii]) (fun _ => by
        obtain ⟨q, hq, eq⟩ := spo p4 c2 (c0 / 14 % 8) hp4 (by lia) (by lia)
        exact ⟨q, hq, by first | rfl | simp [m2, eq]⟩) (fun _ => hp4.sm)
    refine seq_nx e5 ?_
    have a9 := row9 thk1 27 p5 hp5.pl
    have a27 := law27 (T := T1) rfl rfl 32 p5 hp5.pl
    refine seq_nx (ife_f (p := .bool false) (by first | rfl | simp [a9, a27, sc]) rfl rfl) ?_
    refine seq_nx (set_nx (p := f.pv) (by first | rfl | simp [m3, ef])) ?_
    -- a form laid into more
    obtain ⟨j, ej⟩ : ∃ j : Nat, c0 / 64 % 5 = (j : Int) := ⟨(c0 / 64 % 5).toNat, by lia⟩
    have hj : j ≤ 5 := by lia
    obtain ⟨ρ', e8, hI⟩ := loop_by (tg := .one 3) (g := evS (run T1 39) b30l0)
      (fun i ρ => ∃ (g : Fm) (t3 : Sl), ρ = [.val (.list (ns.map .int)), .val (.int c0), .val g.pv, t3])
      ((List.range j).map nPv) 0 (fun i x ρ ex hI => by
        obtain ⟨hi, rfl⟩ := rng_get ex
        obtain ⟨g, t3, rfl⟩ := hI
        have d := drawn_run (T := T1) rfl 38 c0 (i : Nat)
        have ix : ∃ g' : Fm, atI [PyData.tuple [.str "not", g.pv], .tuple [.str "both", g.pv, .str "yes"], .tuple [.str "either", .str "no", g.pv]] (drawnI c0 (i : Nat) / 4 % 3) = some g'.pv := by
          rcases (by lia : drawnI c0 (i : Nat) / 4 % 3 = 0 ∨ drawnI c0 (i : Nat) / 4 % 3 = 1 ∨ drawnI c0 (i : Nat) / 4 % 3 = 2) with h | h | h <;> rw [h]
          · exact ⟨.not g, rfl⟩
          · exact ⟨.both g .yes, rfl⟩
          · exact ⟨.either .no g, rfl⟩
        obtain ⟨g', eg⟩ := ix
        refine ⟨_, _, rfl, ?_, g', .val (nPv i), rfl⟩
        unfold b30l0
        refine set_nx ?_
        simp [nPv, d, eg])
      [.val (.list (ns.map .int)), .val (.int c0), .val f.pv, .un] ⟨f, .un, rfl⟩
    obtain ⟨g, t3, rfl⟩ := hI
    refine seq_nx (loop_run (rng_n (j := j) (by first | rfl | simp [ej, nPv]) (by lia)) rfl e8) ?_
    obtain ⟨p9, hp9, e9⟩ := ife_set (cf := run T1 39) (c := .op2 .eq (.op2 .mod (.op2 .fdiv (.var 1) (.con (.int 512))) (.con (.int 2))) (.con (.int 1))) (e := .call 24 (.cons (.var 2) (.cons (.call 17 (.cons (.var 0) (.cons (.con (.int 4)) .nil))) (.cons (.op2 .mod (.op2 .fdiv (.var 1) (.con (.int 1024))) (.con (.int 6))) .nil))))
      (s0 := .val (.list (ns.map .int))) (s1 := .val (.int c0)) (s3 := t3) (p := g.pv) (b := decide (c0 / 512 % 2 = 1)) (Sm 3000) (by first | rfl | simp [eq_ii]) (fun _ => by
        obtain ⟨q, hq, eq⟩ := spo g.pv c4 (c0 / 1024 % 6) (Si.form g) (by lia) (by lia)
        exact ⟨q, hq, by first | rfl | simp [m4, eq]⟩) (fun _ => (Si.form g).sm)
    refine seq_nx e9 ?_
    have a6 := form6 thk1.h0 thk1.h2 thk1.h3 thk1.h4 thk1.h5 thk1.h6 29 p9 hp9.pl
    have a26 := law26 (T := T1) rfl 5 33 p9 hp9.pl
    simp only [Int.cast_ofNat_Int] at a26
    refine seq_nx (ife_f (p := .bool false) (by first | rfl | simp [a6, a26, sc]) rfl rfl) ?_
    refine seq_nx (set_nx (p := (mkW n pa pb pe).pv) (by first | rfl | simp [m5, ew])) ?_
    have hw := Si.world (n := n) pa pb pe (by lia)
    obtain ⟨p12, hp12, e12⟩ := ife_set (cf := run T1 39) (c := .op2 .eq (.op2 .mod (.op2 .fdiv (.var 1) (.con (.int 4096))) (.con (.int 2))) (.con (.int 1))) (e := .call 24 (.cons (.var 2) (.cons (.call 17 (.cons (.var 0) (.cons (.con (.int 6)) .nil))) (.cons (.op2 .mod (.op2 .fdiv (.var 1) (.con (.int 8192))) (.con (.int 4))) .nil))))
      (s0 := .val (.list (ns.map .int))) (s1 := .val (.int c0)) (s3 := t3) (p := (mkW n pa pb pe).pv) (b := decide (c0 / 4096 % 2 = 1)) (Sm 3000) (by first | rfl | simp [eq_ii]) (fun _ => by
        obtain ⟨q, hq, eq⟩ := spo (mkW n pa pb pe).pv c6 (c0 / 8192 % 4) hw (by lia) (by lia)
        exact ⟨q, hq, by first | rfl | simp [m6, eq]⟩) (fun _ => hw.sm)
    refine seq_nx e12 (ret_rt ?_)
    have a15 := world15 thk1 34 p12 hp12.pl (fun x ⟨xs, e, hx⟩ => by
      subst e
      cases hp12 with
      | tuple hh hl => exact (hh x hx).short (by decide))
    have a28 := law28 (T := T1) rfl rfl 37 p12 hp12.pl
    simp [a15, a28, sc]
  exact congrArg outV key
end DD
set_option Elab.async false
set_option linter.all false
set_option maxRecDepth 100000
namespace DD
open PySem PySem.Spec PyProof.Rows L2
noncomputable abbrev St := L2.St
noncomputable def keyOf : PV → Option Key
  | .int i => some (.inl i)
  | .str x => some (.inr x)
  | _ => none
mutual
noncomputable def Rp (K : PySem.W.Frag) (G : Hp) : PV → V → Prop
  | .none, v => v = .non
  | .bool b, v => v = .bl b
  | .int i, v => v = .int i
  | .str x, v => v = .str x ∧ PyData.strOk x = true ∧ x.length ≤ 16777216
  | .list ps, v => ∃ a vs, v = .ref a ∧ SqL K G a vs ∧ RpL K G ps vs
  | .tuple ps, v => ∃ a vs, v = .ref a ∧ SqT K G a vs ∧ RpL K G ps vs
  | .dict kvs, v => ∃ a l, v = .ref a ∧ Rd G a (.dK l) ∧ RpD K G kvs l
noncomputable def RpL (K : PySem.W.Frag) (G : Hp) : List PV → List V → Prop
  | [], vs => vs = []
  | p :: ps, vs => ∃ v r, vs = v :: r ∧ (isDict p = false ∧ Rp K G p v) ∧ RpL K G ps r
noncomputable def RpD (K : PySem.W.Frag) (G : Hp) : List (PV × PV) → List (Key × V) → Prop
  | [], l => l = []
  | (k, p) :: kvs, l => ∃ key v r, l = (key, v) :: r ∧ keyOf k = some key ∧ (isDict p = false ∧ Rp K G p v) ∧ RpD K G kvs r
end
noncomputable def RpA (K : PySem.W.Frag) (G : Hp) : List PV → List V → Prop
  | [], vs => vs = []
  | p :: ps, vs => ∃ v r, vs = v :: r ∧ Rp K G p v ∧ RpA K G ps r
noncomputable def Sub (G H : Hp) : Prop := ∀ a o, G a = some o → H a = some o
theorem Sub.refl (G : Hp) : Sub G G := fun _ _ h => h
theorem Sub.trans {G H I : Hp} (a : Sub G H) (b : Sub H I) : Sub G I := fun x o h => b x o (a x o h)
theorem Sub.rd {G H : Hp} (s : Sub G H) {a : Addr} {u : HO} (h : Rd G a u) : Rd H a u := by
  rcases h with h | ⟨o, h⟩
  · exact .inl (s _ _ h)
  · exact .inr ⟨o, s _ _ h⟩
theorem Sub.sqL {K : PySem.W.Frag} {G H : Hp} (s : Sub G H) {a : Addr} {xs : List V} (h : SqL K G a xs) : SqL K H a xs := h.elim (fun h => .inl (s.rd h)) .inr
theorem Sub.sqT {K : PySem.W.Frag} {G H : Hp} (s : Sub G H) {a : Addr} {xs : List V} (h : SqT K G a xs) : SqT K H a xs := h.elim (fun h => .inl (s.rd h)) .inr
mutual
theorem Rp.mono {K : PySem.W.Frag} {G H : Hp} (s : Sub G H) : ∀ {p : PV} {v : V}, Rp K G p v → Rp K H p v
  | .none, _, h => h
  | .bool _, _, h => h
  | .int _, _, h => h
  | .str _, _, h => h
  | .list ps, _, h => by
    obtain ⟨a, vs, e, q, r⟩ := (show ∃ a vs, _ = V.ref a ∧ SqL K G a vs ∧ RpL K G ps vs from h)
    exact ⟨a, vs, e, s.sqL q, RpL.mono s r⟩
  | .tuple ps, _, h => by
    obtain ⟨a, vs, e, q, r⟩ := (show ∃ a vs, _ = V.ref a ∧ SqT K G a vs ∧ RpL K G ps vs from h)
    exact ⟨a, vs, e, s.sqT q, RpL.mono s r⟩
  | .dict kvs, _, h => by
    obtain ⟨a, l, e, q, r⟩ := (show ∃ a l, _ = V.ref a ∧ Rd G a (.dK l) ∧ RpD K G kvs l from h)
    exact ⟨a, l, e, s.rd q, RpD.mono s r⟩
theorem RpL.mono {K : PySem.W.Frag} {G H : Hp} (s : Sub G H) : ∀ {ps : List PV} {vs : List V}, RpL K G ps vs → RpL K H ps vs
  | [], _, h => h
  | p :: ps, _, h => by
    obtain ⟨v, r, e, ⟨h0, h1⟩, h2⟩ := (show ∃ v r, _ = v :: r ∧ (isDict p = false ∧ Rp K G p v) ∧ RpL K G ps r from h)
    exact ⟨v, r, e, ⟨h0, Rp.mono s h1⟩, RpL.mono s h2⟩
theorem RpD.mono {K : PySem.W.Frag} {G H : Hp} (s : Sub G H) : ∀ {kvs : List (PV × PV)} {l : List (Key × V)}, RpD K G kvs l → RpD K H kvs l
  | [], _, h => h
  | (k, p) :: kvs, _, h => by
    obtain ⟨key, v, r, e, h0, ⟨hd, h1⟩, h2⟩ := (show ∃ key v r, _ = (key, v) :: r ∧ keyOf k = some key ∧ (isDict p = false ∧ Rp K G p v) ∧ RpD K G kvs r from h)
    exact ⟨key, v, r, e, h0, ⟨hd, Rp.mono s h1⟩, RpD.mono s h2⟩
end
theorem RpA.mono {K : PySem.W.Frag} {G H : Hp} (s : Sub G H) : ∀ {ps : List PV} {vs : List V}, RpA K G ps vs → RpA K H ps vs
  | [], _, h => h
  | p :: ps, _, h => by
    obtain ⟨v, r, e, h1, h2⟩ := (show ∃ v r, _ = v :: r ∧ Rp K G p v ∧ RpA K G ps r from h)
    exact ⟨v, r, e, h1.mono s, RpA.mono s h2⟩
theorem RpL.args {K : PySem.W.Frag} {G : Hp} : ∀ {ps : List PV} {vs : List V}, RpL K G ps vs → RpA K G ps vs
  | [], _, h => h
  | p :: ps, _, h => by
    obtain ⟨v, r, e, ⟨_, h1⟩, h2⟩ := (show ∃ v r, _ = v :: r ∧ (isDict p = false ∧ Rp K G p v) ∧ RpL K G ps r from h)
    exact ⟨v, r, e, h1, RpL.args h2⟩
theorem RpA.list {K : PySem.W.Frag} {G : Hp} : ∀ {ps : List PV} {vs : List V}, RpA K G ps vs → anyD ps = false → RpL K G ps vs
  | [], _, h, _ => h
  | p :: ps, _, h, hd => by
    obtain ⟨v, r, e, h1, h2⟩ := (show ∃ v r, _ = v :: r ∧ Rp K G p v ∧ RpA K G ps r from h)
    rw [anyD, Bool.or_eq_false_iff] at hd
    exact ⟨v, r, e, ⟨hd.1, h1⟩, RpA.list h2 hd.2⟩
theorem RpA.length {K : PySem.W.Frag} {G : Hp} : ∀ {ps : List PV} {vs : List V}, RpA K G ps vs → ps.length = vs.length
  | [], _, h => by cases (show _ = [] from h); rfl
  | p :: ps, _, h => by
    obtain ⟨v, r, rfl, _, h2⟩ := (show ∃ v r, _ = v :: r ∧ Rp K G p v ∧ RpA K G ps r from h)
    simp [RpA.length h2]
theorem RpA.get {K : PySem.W.Frag} {G : Hp} : ∀ {ps : List PV} {vs : List V} {i : Nat} {p : PV}, RpA K G ps vs → ps[i]? = some p → ∃ v, vs[i]? = some v ∧ Rp K G p v
  | [], _, _, _, _, e => by simp at e
  | q :: ps, _, 0, p, h, e => by
    obtain ⟨v, r, rfl, h1, _⟩ := (show ∃ v r, _ = v :: r ∧ Rp K G q v ∧ RpA K G ps r from h)
    have e' : q = p := by simpa using e
    subst e'
    exact ⟨v, rfl, h1⟩
  | q :: ps, _, i + 1, p, h, e => by
    obtain ⟨v, r, rfl, _, h2⟩ := (show ∃ v r, _ = v :: r ∧ Rp K G q v ∧ RpA K G ps r from h)
    obtain ⟨w, e1, e2⟩ := RpA.get (i := i) h2 (by simpa using e)
    exact ⟨w, by simpa using e1, e2⟩
theorem RpA.nil {K : PySem.W.Frag} {G : Hp} : RpA K G [] [] := rfl
theorem RpA.cons {K : PySem.W.Frag} {G : Hp} {p : PV} {ps : List PV} {v : V} {vs : List V} (h : Rp K G p v) (r : RpA K G ps vs) : RpA K G (p :: ps) (v :: vs) := ⟨v, vs, rfl, h, r⟩
theorem RpL.length {K : PySem.W.Frag} {G : Hp} : ∀ {ps : List PV} {vs : List V}, RpL K G ps vs → ps.length = vs.length
  | [], _, h => by cases (show _ = [] from h); rfl
  | p :: ps, _, h => by
    obtain ⟨v, r, rfl, _, h2⟩ := (show ∃ v r, _ = v :: r ∧ (isDict p = false ∧ Rp K G p v) ∧ RpL K G ps r from h)
    simp [RpL.length h2]
theorem RpL.get {K : PySem.W.Frag} {G : Hp} : ∀ {ps : List PV} {vs : List V} {i : Nat} {p : PV}, RpL K G ps vs → ps[i]? = some p → ∃ v, vs[i]? = some v ∧ isDict p = false ∧ Rp K G p v
  | [], _, _, _, _, e => by simp at e
  | q :: ps, _, 0, p, h, e => by
    obtain ⟨v, r, rfl, h1, _⟩ := (show ∃ v r, _ = v :: r ∧ (isDict q = false ∧ Rp K G q v) ∧ RpL K G ps r from h)
    have e' : q = p := by simpa using e
    subst e'
    exact ⟨v, rfl, h1⟩
  | q :: ps, _, i + 1, p, h, e => by
    obtain ⟨v, r, rfl, _, h2⟩ := (show ∃ v r, _ = v :: r ∧ (isDict q = false ∧ Rp K G q v) ∧ RpL K G ps r from h)
    obtain ⟨w, e1, e2⟩ := RpL.get (i := i) h2 (by simpa using e)
    exact ⟨w, by simpa using e1, e2⟩
theorem RpL.getV {K : PySem.W.Frag} {G : Hp} {ps : List PV} {vs : List V} {i : Nat} {v : V} (h : RpL K G ps vs) (e : vs[i]? = some v) : ∃ p, ps[i]? = some p ∧ isDict p = false ∧ Rp K G p v := by
  have hl := h.length
  have hi : i < vs.length := (List.getElem?_eq_some_iff.mp e).1
  have e1 : ps[i]? = some ps[i] := List.getElem?_eq_getElem (by lia)
  obtain ⟨w, e2, r⟩ := h.get e1
  rw [e] at e2
  cases e2
  exact ⟨_, e1, r⟩
theorem RpL.append {K : PySem.W.Frag} {G : Hp} : ∀ {ps qs : List PV} {vs ws : List V}, RpL K G ps vs → RpL K G qs ws → RpL K G (ps ++ qs) (vs ++ ws)
  | [], _, _, _, h, h' => by cases (show _ = [] from h); exact h'
  | p :: ps, _, _, _, h, h' => by
    obtain ⟨v, r, rfl, h1, h2⟩ := (show ∃ v r, _ = v :: r ∧ (isDict p = false ∧ Rp K G p v) ∧ RpL K G ps r from h)
    exact ⟨v, _, rfl, h1, RpL.append h2 h'⟩
theorem RpL.nil {K : PySem.W.Frag} {G : Hp} : RpL K G [] [] := rfl
theorem RpL.cons {K : PySem.W.Frag} {G : Hp} {p : PV} {ps : List PV} {v : V} {vs : List V} (hd : isDict p = false) (h : Rp K G p v) (r : RpL K G ps vs) : RpL K G (p :: ps) (v :: vs) := ⟨v, vs, rfl, ⟨hd, h⟩, r⟩
theorem RpL.one {K : PySem.W.Frag} {G : Hp} {p : PV} {v : V} (hd : isDict p = false) (h : Rp K G p v) : RpL K G [p] [v] := .cons hd h .nil
theorem RpL.take {K : PySem.W.Frag} {G : Hp} : ∀ {ps : List PV} {vs : List V} (n : Nat), RpL K G ps vs → RpL K G (ps.take n) (vs.take n)
  | _, _, 0, _ => rfl
  | [], _, _ + 1, h => by cases (show _ = [] from h); rfl
  | p :: ps, _, n + 1, h => by
    obtain ⟨v, r, rfl, h1, h2⟩ := (show ∃ v r, _ = v :: r ∧ (isDict p = false ∧ Rp K G p v) ∧ RpL K G ps r from h)
    exact ⟨v, _, rfl, h1, RpL.take n h2⟩
theorem RpL.drop {K : PySem.W.Frag} {G : Hp} : ∀ {ps : List PV} {vs : List V} (n : Nat), RpL K G ps vs → RpL K G (ps.drop n) (vs.drop n)
  | _, _, 0, h => h
  | [], _, _ + 1, h => by cases (show _ = [] from h); rfl
  | p :: ps, _, n + 1, h => by
    obtain ⟨v, r, rfl, h1, h2⟩ := (show ∃ v r, _ = v :: r ∧ (isDict p = false ∧ Rp K G p v) ∧ RpL K G ps r from h)
    exact RpL.drop n h2
theorem RpL.reverse {K : PySem.W.Frag} {G : Hp} : ∀ {ps : List PV} {vs : List V}, RpL K G ps vs → RpL K G ps.reverse vs.reverse
  | [], _, h => by cases (show _ = [] from h); rfl
  | p :: ps, _, h => by
    obtain ⟨v, r, rfl, h1, h2⟩ := (show ∃ v r, _ = v :: r ∧ (isDict p = false ∧ Rp K G p v) ∧ RpL K G ps r from h)
    rw [List.reverse_cons, List.reverse_cons]
    exact RpL.append (RpL.reverse h2) (.one h1.1 h1.2)
theorem RpL.rep {K : PySem.W.Frag} {G : Hp} {ps : List PV} {vs : List V} (h : RpL K G ps vs) : ∀ k : Nat, RpL K G (List.replicate k ps).flatten (List.replicate k vs).flatten
  | 0 => rfl
  | k + 1 => by
    rw [List.replicate_succ, List.flatten_cons, List.replicate_succ, List.flatten_cons]
    exact h.append (RpL.rep h k)
structure Ext (G H G' H' : Hp) : Prop where
  hh : Sub H H'
  gg : Sub G G'
  gh : Sub G' H'
  old : ∀ a o, H a = some o → G' a = G a
theorem Ext.refl {G H : Hp} (s : Sub G H) : Ext G H G H := ⟨.refl _, .refl _, s, fun _ _ _ => rfl⟩
theorem Ext.trans {G H G1 H1 G2 H2 : Hp} (a : Ext G H G1 H1) (b : Ext G1 H1 G2 H2) : Ext G H G2 H2 :=
  ⟨a.hh.trans b.hh, a.gg.trans b.gg, b.gh, fun x o h => (b.old x o (a.hh x o h)).trans (a.old x o h)⟩
theorem Sub.upd {G H : Hp} (s : Sub G H) (a : Addr) (o : HO) : Sub (L2.upd G a o) (L2.upd H a o) := fun b u h => by
  by_cases e : b = a
  · subst e; rw [upd_same] at h ⊢; exact h
  · rw [upd_ne e] at h ⊢; exact s b u h
theorem Sub.fresh {G H : Hp} (s : Sub G H) {a : Addr} (h : H a = none) : G a = none := by
  cases e : G a with
  | none => rfl
  | some o => rw [s a o e] at h; cases h
theorem Sub.new {H : Hp} {a : Addr} (h : H a = none) (o : HO) : Sub H (L2.upd H a o) := fun b u q => by rw [upd_ne (ne_of_none q h)]; exact q
theorem Ext.new {G H : Hp} (s : Sub G H) {a : Addr} (h : H a = none) (o : HO) : Ext G H (L2.upd G a o) (L2.upd H a o) :=
  ⟨.new h o, .new (s.fresh h) o, s.upd a o, fun b u q => by rw [upd_ne (ne_of_none q h)]⟩
theorem Ext.own {G H : Hp} (s : Sub G H) {a : Addr} (h : H a = none) (o : HO) : Ext G H G (L2.upd H a o) :=
  ⟨.new h o, .refl _, s.trans (.new h o), fun _ _ _ => rfl⟩
noncomputable def Rk (K : PySem.W.Frag) (G H : Hp) : PV → V → Prop
  | .list ps, v => ∃ a vs, v = .ref a ∧ SqL K H a vs ∧ RpL K G ps vs
  | p, v => Rp K G p v
theorem Rp.rk {K : PySem.W.Frag} {G H : Hp} (s : Sub G H) {p : PV} {v : V} (h : Rp K G p v) : Rk K G H p v := by
  cases p with
  | list ps =>
    obtain ⟨a, vs, e, q, r⟩ := (show ∃ a vs, _ = V.ref a ∧ SqL K G a vs ∧ RpL K G ps vs from h)
    exact ⟨a, vs, e, s.sqL q, r⟩
  | _ => exact h
theorem Rk.ext {K : PySem.W.Frag} {G H G' H' : Hp} (x : Ext G H G' H') {p : PV} {v : V} (h : Rk K G H p v) : Rk K G' H' p v := by
  cases p with
  | list ps =>
    obtain ⟨a, vs, e, q, r⟩ := (show ∃ a vs, _ = V.ref a ∧ SqL K H a vs ∧ RpL K G ps vs from h)
    exact ⟨a, vs, e, x.hh.sqL q, r.mono x.gg⟩
  | none => exact Rp.mono (K := K) (p := .none) x.gg h
  | bool b => exact Rp.mono (K := K) (p := .bool b) x.gg h
  | int i => exact Rp.mono (K := K) (p := .int i) x.gg h
  | str y => exact Rp.mono (K := K) (p := .str y) x.gg h
  | tuple ps => exact Rp.mono (K := K) (p := .tuple ps) x.gg h
  | dict kvs => exact Rp.mono (K := K) (p := .dict kvs) x.gg h
section
variable {X : Cx} {pins : List (Addr × Obj)} {σ : St} {G H : Hp} {s : Shared}
mutual
theorem Rp.reads (I : Inv X pins σ H s) (sb : Sub G H) : ∀ {p : PV} {v : V} {u : Value}, isDict p = false → Rp X.K G p v → RelV v u → ∃ as, Reads s.heap u p as
  | .none, _, _, _, h, r => by cases (show _ = V.non from h); cases (show _ = Value.none from r); exact ⟨_, .none⟩
  | .bool b, _, _, _, h, r => by cases (show _ = V.bl b from h); cases (show _ = Value.bool b from r); exact ⟨_, .bool b⟩
  | .int i, _, _, _, h, r => by cases (show _ = V.int i from h); obtain ⟨t, rfl⟩ := r; exact ⟨_, .int i t⟩
  | .str x, _, _, _, h, r => by
    obtain ⟨e, _⟩ := (show _ = V.str x ∧ _ from h)
    cases e; obtain ⟨t, rfl⟩ := r; exact ⟨_, .str x t⟩
  | .list ps, _, _, _, h, r => by
    obtain ⟨a, vs, e, q, hr⟩ := (show ∃ a vs, _ = V.ref a ∧ SqL X.K G a vs ∧ RpL X.K G ps vs from h)
    cases e; cases (show _ = Value.ref a from r)
    obtain ⟨its, rv, ⟨o, n, e, hc, _, hd⟩, _⟩ := I.list (sb.sqL q)
    obtain ⟨as, ra⟩ := RpL.reads I sb hr rv
    exact ⟨_, .list e hc hd (by simpa using ra)⟩
  | .tuple ps, _, _, _, h, r => by
    obtain ⟨a, vs, e, q, hr⟩ := (show ∃ a vs, _ = V.ref a ∧ SqT X.K G a vs ∧ RpL X.K G ps vs from h)
    cases e; cases (show _ = Value.ref a from r)
    obtain ⟨its, rv, ⟨o, e, hc, n, hd⟩, _⟩ := I.tuple (sb.sqT q)
    obtain ⟨as, ra⟩ := RpL.reads I sb hr rv
    exact ⟨_, .tuple e hc hd (by simpa using ra)⟩
  | .dict _, _, _, hd, _, _ => by cases hd
theorem RpL.reads (I : Inv X pins σ H s) (sb : Sub G H) : ∀ {ps : List PV} {vs : List V} {us : List Value}, RpL X.K G ps vs → Vals vs us → ∃ as, ReadsAll s.heap us ps as
  | [], _, _, h, r => by cases (show _ = [] from h); cases r; exact ⟨_, .nil⟩
  | p :: ps, _, _, h, r => by
    obtain ⟨v, w, e, h1, h2⟩ := (show ∃ v r, _ = v :: r ∧ (isDict p = false ∧ Rp X.K G p v) ∧ RpL X.K G ps r from h)
    subst e
    cases r with
    | cons r1 r2 =>
      obtain ⟨as, a1⟩ := Rp.reads I sb h1.1 h1.2 r1
      obtain ⟨bs, a2⟩ := RpL.reads I sb h2 r2
      exact ⟨_, .cons a1 a2⟩
end
mutual
theorem Rp.lays {K : PySem.W.Frag} : ∀ {p : PV} {v : V}, isDict p = false → Rp K G p v → p.canLay0 = true
  | .none, _, _, _ => by simp [PyData.canLay0]
  | .bool _, _, _, _ => by simp [PyData.canLay0]
  | .int _, _, _, _ => by simp [PyData.canLay0]
  | .str x, _, _, h => by
    obtain ⟨_, e, _⟩ := (show _ = V.str x ∧ PyData.strOk x = true ∧ _ from h)
    simpa [PyData.canLay0] using e
  | .list ps, _, _, h => by
    obtain ⟨a, vs, e, q, hr⟩ := (show ∃ a vs, _ = V.ref a ∧ SqL K G a vs ∧ RpL K G ps vs from h)
    simpa [PyData.canLay0] using RpL.lays hr
  | .tuple ps, _, _, h => by
    obtain ⟨a, vs, e, q, hr⟩ := (show ∃ a vs, _ = V.ref a ∧ SqT K G a vs ∧ RpL K G ps vs from h)
    simpa [PyData.canLay0] using RpL.lays hr
  | .dict _, _, hd, _ => by cases hd
theorem RpL.lays {K : PySem.W.Frag} : ∀ {ps : List PV} {vs : List V}, RpL K G ps vs → PyData.canLayAll0 ps = true
  | [], _, _ => by simp [PyData.canLayAll0]
  | p :: ps, _, h => by
    obtain ⟨v, w, e, h1, h2⟩ := (show ∃ v r, _ = v :: r ∧ (isDict p = false ∧ Rp K G p v) ∧ RpL K G ps r from h)
    simp [PyData.canLayAll0, Rp.lays h1.1 h1.2, RpL.lays h2]
end
theorem Rk.reads (I : Inv X pins σ H s) (sb : Sub G H) {p : PV} {v : V} {u : Value} (hd : isDict p = false) (h : Rk X.K G H p v) (r : RelV v u) : ∃ as, Reads s.heap u p as := by
  cases p with
  | list ps =>
    obtain ⟨a, vs, e, q, hr⟩ := (show ∃ a vs, _ = V.ref a ∧ SqL X.K H a vs ∧ RpL X.K G ps vs from h)
    cases e; cases (show _ = Value.ref a from r)
    obtain ⟨its, rv, ⟨o, n, e, hc, _, hd⟩, _⟩ := I.list q
    obtain ⟨as, ra⟩ := RpL.reads I sb hr rv
    exact ⟨_, .list e hc hd (by simpa using ra)⟩
  | none => exact Rp.reads (p := .none) I sb hd h r
  | bool b => exact Rp.reads (p := .bool b) I sb hd h r
  | int i => exact Rp.reads (p := .int i) I sb hd h r
  | str y => exact Rp.reads (p := .str y) I sb hd h r
  | tuple ps => exact Rp.reads (p := .tuple ps) I sb hd h r
  | dict kvs => exact Rp.reads (p := .dict kvs) I sb hd h r
theorem Rk.lays {K : PySem.W.Frag} {p : PV} {v : V} (hd : isDict p = false) (h : Rk K G H p v) : p.canLay0 = true := by
  cases p with
  | list ps =>
    obtain ⟨a, vs, e, q, hr⟩ := (show ∃ a vs, _ = V.ref a ∧ SqL K H a vs ∧ RpL K G ps vs from h)
    simpa [PyData.canLay0] using RpL.lays hr
  | none => exact Rp.lays (K := K) (G := G) (p := .none) hd h
  | bool b => exact Rp.lays (K := K) (G := G) (p := .bool b) hd h
  | int i => exact Rp.lays (K := K) (G := G) (p := .int i) hd h
  | str y => exact Rp.lays (K := K) (G := G) (p := .str y) hd h
  | tuple ps => exact Rp.lays (K := K) (G := G) (p := .tuple ps) hd h
  | dict kvs => cases hd
end
noncomputable def Slot1 (K : PySem.W.Frag) (G H : Hp) : Sl → Option V → Prop
  | .un, _ => True
  | .val p, o => ∃ v, o = some v ∧ Rp K G p v
  | .own ps, o => ∃ a vs, o = some (.ref a) ∧ H a = some (.lst vs) ∧ G a = none ∧ RpL K G ps vs
noncomputable def isOwn : Sl → Bool
  | .own _ => true
  | _ => false
structure SR (K : PySem.W.Frag) (G H : Hp) (σ : St) (ρ : Env) : Prop where
  len : σ.length = ρ.length
  sub : Sub G H
  get : ∀ (i : Nat) (sl : Sl) (o : Option V), ρ[i]? = some sl → σ[i]? = some o → Slot1 K G H sl o
  apart : ∀ (i j : Nat) (si sj : Sl) (a : Addr), i ≠ j → ρ[i]? = some si → ρ[j]? = some sj → isOwn si = true → isOwn sj = true → σ[i]? = some (some (.ref a)) → σ[j]? ≠ some (some (.ref a))
theorem Slot1.ext {K : PySem.W.Frag} {G H G' H' : Hp} (x : Ext G H G' H') {sl : Sl} {o : Option V} (h : Slot1 K G H sl o) : Slot1 K G' H' sl o := by
  cases sl with
  | un => exact h
  | val p => obtain ⟨v, e, r⟩ := h; exact ⟨v, e, r.mono x.gg⟩
  | own ps =>
    obtain ⟨a, vs, e, h1, h2, r⟩ := h
    exact ⟨a, vs, e, x.hh _ _ h1, (x.old _ _ h1).trans h2, r.mono x.gg⟩
theorem SR.ext {K : PySem.W.Frag} {G H G' H' : Hp} {σ : St} {ρ : Env} (S : SR K G H σ ρ) (x : Ext G H G' H') : SR K G' H' σ ρ :=
  ⟨S.len, x.gh, fun i sl o e1 e2 => (S.get i sl o e1 e2).ext x, S.apart⟩
theorem SR.at {K : PySem.W.Frag} {G H : Hp} {σ : St} {ρ : Env} (S : SR K G H σ ρ) {i : Nat} {sl : Sl} (e : ρ[i]? = some sl) : ∃ o, σ[i]? = some o ∧ Slot1 K G H sl o := by
  have hi : i < ρ.length := (List.getElem?_eq_some_iff.mp e).1
  have hi' : i < σ.length := by rw [S.len]; exact hi
  have e1 : σ[i]? = some σ[i] := List.getElem?_eq_getElem hi'
  exact ⟨_, e1, S.get i sl _ e e1⟩
theorem SR.setVal {K : PySem.W.Frag} {G H : Hp} {σ : St} {ρ : Env} (S : SR K G H σ ρ) {i : Nat} {p : PV} {v : V} (r : Rp K G p v) : SR K G H (σ.set i (some v)) (ρ.set i (.val p)) := by
  refine ⟨by simpa using S.len, S.sub, fun j sl o e1 e2 => ?_, fun j k sj sk a hjk e1 e2 o1 o2 e3 => ?_⟩
  · rw [List.getElem?_set] at e1 e2
    by_cases hij : i = j
    · rw [if_pos hij] at e1 e2
      split at e1
      · rename_i hl
        rw [if_pos (by rw [S.len]; exact hl)] at e2
        cases e1; cases e2
        exact ⟨v, rfl, r⟩
      · cases e1
    · rw [if_neg hij] at e1 e2
      exact S.get j sl o e1 e2
  · have own_ne : ∀ (m : Nat) (sl : Sl), (ρ.set i (.val p))[m]? = some sl → isOwn sl = true → i ≠ m ∧ ρ[m]? = some sl := fun m sl e h => by
      rw [List.getElem?_set] at e
      by_cases hij : i = m
      · rw [if_pos hij] at e
        split at e
        · cases e; cases h
        · cases e
      · rw [if_neg hij] at e; exact ⟨hij, e⟩
    obtain ⟨n1, f1⟩ := own_ne j sj e1 o1
    obtain ⟨n2, f2⟩ := own_ne k sk e2 o2
    rw [List.getElem?_set_ne n1] at e3
    rw [List.getElem?_set_ne n2]
    exact S.apart j k sj sk a hjk f1 f2 o1 o2 e3
end DD
set_option Elab.async false
set_option linter.all false
set_option maxRecDepth 100000
namespace DD
open PySem PySem.Spec PyProof.Rows L2
theorem line_eq : sizeLine = 16777216 := sizeLine_eq
theorem strOk_append {x y : Str} (hx : PyData.strOk x = true) (hy : PyData.strOk y = true) : PyData.strOk (x ++ y) = true := by
  show (x.cps ++ y.cps).all _ = true
  rw [Array.all_append]
  simp only [PyData.strOk] at hx hy
  rw [hx, hy]; rfl
theorem length_append (x y : Str) : (x ++ y).length = x.length + y.length := by
  show (x.cps ++ y.cps).size = _
  rw [Array.size_append]; rfl
noncomputable def rOp2 (K : PySem.W.Frag) (o : Op2) : R2 := fun x y H Q => ∃ G p q r, Sub G H ∧ Rk K G H p x ∧ Rk K G H q y ∧ opF2 o p q = some r ∧ ∀ v G' H', Ext G H G' H' → Rp K G' r v → Q v H'
noncomputable def rOp1 (K : PySem.W.Frag) (o : Op1) : V → Hp → VK → Prop := fun x H Q => ∃ G p r, Sub G H ∧ Rk K G H p x ∧ opF1 o p = some r ∧ ∀ v G' H', Ext G H G' H' → Rp K G' r v → Q v H'
section
variable {X : Cx}
theorem op_catT0 : OpR X (binaryOp .Add) (fun x y H Q => ∃ a b xs ys, x = .ref a ∧ y = .ref b ∧ SqT X.K H a xs ∧ SqT X.K H b ys ∧ xs.length + ys.length ≤ sizeLine ∧
    (xs = [] → Q (.ref b) H) ∧ (xs ≠ [] → ys = [] → Q (.ref a) H) ∧ (xs ≠ [] → ys ≠ [] → ∀ p, H p = none → Q (.ref p) (upd H p (.tup (xs ++ ys))))) := by
  intro pins s σ H x y v u Q I rx ry h
  obtain ⟨a, b, xs, ys, rfl, rfl, ha, hb, hz, q0, q1, q2⟩ := h
  cases rx
  cases ry
  obtain ⟨its, r1, p1, _⟩ := I.tuple ha
  obtain ⟨its2, r2, p2, _⟩ := I.tuple hb
  obtain ⟨⟨cls, dd, data, sl⟩, ho, hc, n, hd⟩ := id p1
  obtain ⟨⟨cls2, dd2, data2, sl2⟩, ho2, hc2, n2, hd2⟩ := id p2
  simp only at hc hd hc2 hd2
  subst hc hd hc2 hd2
  have e : its.toArray ++ its2.toArray = (its ++ its2).toArray := by simp
  by_cases hv : its = []
  · exact concat_meets ⟨_, ho, rfl⟩ ⟨_, ho2, rfl⟩ noFill_tuple_add seq_tuple_add PySem.F.slot_tuple_add PySem.F.entry_tuple_add (PySem.F.args_tuple_add_2 _ _)
      (tuple_addW0 a b its.toArray its2.toArray n n2 dd dd2 sl sl2 (by simp [hv])) ⟨ho, ho2, .ref b, H, I, rfl, q0 (r1.nil_iff.mp hv)⟩
  · have hx : xs ≠ [] := fun z => hv (r1.nil_iff.mpr z)
    by_cases hw : its2 = []
    · exact concat_meets ⟨_, ho, rfl⟩ ⟨_, ho2, rfl⟩ noFill_tuple_add seq_tuple_add PySem.F.slot_tuple_add PySem.F.entry_tuple_add (PySem.F.args_tuple_add_2 _ _)
        (tuple_addW1 a b its.toArray its2.toArray n n2 dd dd2 sl sl2 (by simpa using hv) (by simp [hw])) ⟨ho, ho2, .ref a, H, I, rfl, q1 hx (r2.nil_iff.mp hw)⟩
    · refine concat_meets ⟨_, ho, rfl⟩ ⟨_, ho2, rfl⟩ noFill_tuple_add seq_tuple_add PySem.F.slot_tuple_add PySem.F.entry_tuple_add (PySem.F.args_tuple_add_2 _ _)
        (tuple_addW2 a b its.toArray its2.toArray n n2 dd dd2 sl sl2 (by simpa using hv) (by simpa using hw) (by rw [List.size_toArray, List.size_toArray, ← r1.length, ← r2.length]; exact hz)) ⟨ho, ho2, ?_⟩
      rw [e]
      refine ⟨.ref s.heap.objs.size, _, I.laid (t' := s.toks) (o := .tup (xs ++ ys)) (fun b ob q => Heap.get?_push_of_some _ q) (Nat.le_refl _) ?_, rfl, q2 hx (fun w => hw (r2.nil_iff.mpr w)) _ (I.hok.fresh (Nat.le_refl _))⟩
      exact ⟨by rw [List.length_append]; exact hz, _, r1.append r2, IsTup.new _ _⟩
theorem op_catL0 : OpR X (binaryOp .Add) (fun x y H Q => ∃ a b xs ys, x = .ref a ∧ y = .ref b ∧ SqL X.K H a xs ∧ SqL X.K H b ys ∧ xs.length + ys.length ≤ sizeLine ∧ ∀ p, H p = none → Q (.ref p) (upd H p (.lst (xs ++ ys)))) := by
  intro pins s σ H x y v u Q I rx ry h
  obtain ⟨a, b, xs, ys, rfl, rfl, ha, hb, hz, q⟩ := h
  cases rx
  cases ry
  obtain ⟨its, r1, p1, _⟩ := I.list ha
  obtain ⟨its2, r2, p2, _⟩ := I.list hb
  obtain ⟨⟨cls, dd, data, sl⟩, ho, hc, n, hd⟩ := id p1.isList
  obtain ⟨⟨cls2, dd2, data2, sl2⟩, ho2, hc2, n2, hd2⟩ := id p2.isList
  simp only at hc hd hc2 hd2
  subst hc hd hc2 hd2
  have e : its.toArray ++ its2.toArray = (its ++ its2).toArray := by simp
  refine concat_meets ⟨_, ho, rfl⟩ ⟨_, ho2, rfl⟩ noFill_list_add seq_list_add PySem.F.slot_list_add PySem.F.entry_list_add (PySem.F.args_list_add_2 _ _)
    (list_addW a b its.toArray its2.toArray n n2 dd dd2 sl sl2 (by rw [List.size_toArray, List.size_toArray, ← r1.length, ← r2.length]; exact hz)) ⟨ho, ho2, ?_⟩
  rw [e]
  refine ⟨.ref s.heap.objs.size, _, I.laid (t' := s.toks) (o := .lst (xs ++ ys)) (fun b ob q => Heap.get?_push_of_some _ q) (Nat.le_refl _) ?_, rfl, q _ (I.hok.fresh (Nat.le_refl _))⟩
  exact ⟨by rw [List.length_append]; exact hz, _, 0, r1.append r2, Heap.get?_push_size _ rfl⟩
theorem s_add : OpR X (binaryOp .Add) (rOp2 X.K .add) := by
  intro pins s σ H x y v u Q I rx ry h
  obtain ⟨G, p, q, r, sb, hp, hq, e, k⟩ := h
  cases p with
  | int i =>
    cases q with
    | int j =>
      cases (show some (PyData.int (i + j)) = some r from e)
      cases (show x = .int i from hp); cases (show y = .int j from hq)
      exact op_add pins s σ H _ _ v u Q I rx ry ⟨i, j, rfl, rfl, k _ G H (.refl sb) rfl⟩
    | _ => exact nomatch (show none = some _ from e)
  | str a =>
    cases q with
    | str b =>
      have e' : (if a.length + b.length ≤ 16777216 then some (PyData.str (a ++ b)) else none) = some r := e
      by_cases hl : a.length + b.length ≤ 16777216
      · rw [if_pos hl] at e'
        cases e'
        obtain ⟨e1, s1, l1⟩ := (show x = .str a ∧ PyData.strOk a = true ∧ a.length ≤ 16777216 from hp)
        obtain ⟨e2, s2, l2⟩ := (show y = .str b ∧ PyData.strOk b = true ∧ b.length ≤ 16777216 from hq)
        subst e1 e2
        exact op_add_str pins s σ H _ _ v u Q I rx ry ⟨a, b, rfl, rfl, by rw [line_eq]; exact hl, k _ G H (.refl sb) ⟨rfl, strOk_append s1 s2, by rw [length_append]; exact hl⟩⟩
      · rw [if_neg hl] at e'; cases e'
    | _ => exact nomatch (show none = some _ from e)
  | tuple xs =>
    cases q with
    | tuple ys =>
      have e' : (if xs.length + ys.length ≤ 16777216 then some (PyData.tuple (xs ++ ys)) else none) = some r := e
      by_cases hl : xs.length + ys.length ≤ 16777216
      · rw [if_pos hl] at e'
        cases e'
        obtain ⟨a, vs, rfl, q1, r1⟩ := (show ∃ a vs, x = V.ref a ∧ SqT X.K G a vs ∧ RpL X.K G xs vs from hp)
        obtain ⟨b, ws, rfl, q2, r2⟩ := (show ∃ a vs, y = V.ref a ∧ SqT X.K G a vs ∧ RpL X.K G ys vs from hq)
        refine op_catT0 pins s σ H _ _ v u Q I rx ry ⟨a, b, vs, ws, rfl, rfl, sb.sqT q1, sb.sqT q2, by rw [line_eq, ← r1.length, ← r2.length]; exact hl, fun z => ?_, fun z1 z2 => ?_, fun _ _ l hn => ?_⟩
        · have z' : xs = [] := List.length_eq_zero_iff.mp (by rw [r1.length, z]; rfl)
          exact k _ G H (.refl sb) ⟨b, ws, rfl, q2, by rw [z']; exact r2⟩
        · have z' : ys = [] := List.length_eq_zero_iff.mp (by rw [r2.length, z2]; rfl)
          exact k _ G H (.refl sb) ⟨a, vs, rfl, q1, by rw [z', List.append_nil]; exact r1⟩
        · have x1 := Ext.new sb hn (.tup (vs ++ ws))
          exact k _ _ _ x1 ⟨l, _, rfl, SqT.of upd_same, (r1.append r2).mono x1.gg⟩
      · rw [if_neg hl] at e'; cases e'
    | _ => exact nomatch (show none = some _ from e)
  | list xs =>
    cases q with
    | list ys =>
      have e' : (if xs.length + ys.length ≤ 16777216 then some (PyData.list (xs ++ ys)) else none) = some r := e
      by_cases hl : xs.length + ys.length ≤ 16777216
      · rw [if_pos hl] at e'
        cases e'
        obtain ⟨a, vs, rfl, q1, r1⟩ := (show ∃ a vs, x = V.ref a ∧ SqL X.K H a vs ∧ RpL X.K G xs vs from hp)
        obtain ⟨b, ws, rfl, q2, r2⟩ := (show ∃ a vs, y = V.ref a ∧ SqL X.K H a vs ∧ RpL X.K G ys vs from hq)
        refine op_catL0 pins s σ H _ _ v u Q I rx ry ⟨a, b, vs, ws, rfl, rfl, q1, q2, by rw [line_eq, ← r1.length, ← r2.length]; exact hl, fun l hn => ?_⟩
        have x1 := Ext.new sb hn (.lst (vs ++ ws))
        exact k _ _ _ x1 ⟨l, _, rfl, SqL.of upd_same, (r1.append r2).mono x1.gg⟩
      · rw [if_neg hl] at e'; cases e'
    | _ => exact nomatch (show none = some _ from e)
  | _ => cases q <;> exact nomatch (show none = some _ from e)
theorem s_sub : OpR X (binaryOp .Sub) (rOp2 X.K .sub) := by
  intro pins s σ H x y v u Q I rx ry h
  obtain ⟨G, p, q, r, sb, hp, hq, e, k⟩ := h
  cases p with
  | int i =>
    cases q with
    | int j =>
      cases (show some (PyData.int (i - j)) = some r from e)
      cases (show x = .int i from hp); cases (show y = .int j from hq)
      exact op_sub pins s σ H _ _ v u Q I rx ry ⟨i, j, rfl, rfl, k _ G H (.refl sb) rfl⟩
    | _ => exact nomatch (show none = some _ from e)
  | _ => cases q <;> exact nomatch (show none = some _ from e)
theorem small_of {i : Int} (h : small i = true) : -(2 ^ 64) < i ∧ i < 2 ^ 64 := by
  unfold small at h
  rw [Bool.and_eq_true] at h
  exact ⟨of_decide_eq_true h.1, of_decide_eq_true h.2⟩
theorem s_fdiv : OpR X (binaryOp .FloorDiv) (rOp2 X.K .fdiv) := by
  intro pins s σ H x y v u Q I rx ry h
  obtain ⟨G, p, q, r, sb, hp, hq, e, k⟩ := h
  cases p with
  | int i =>
    cases q with
    | int j =>
      have e' : (if 0 < j ∧ j < 1073741824 then some (PyData.int (i / j)) else none) = some r := e
      by_cases hl : 0 < j ∧ j < 1073741824
      · rw [if_pos hl] at e'
        cases e'
        cases (show x = .int i from hp); cases (show y = .int j from hq)
        exact op_fdiv pins s σ H _ _ v u Q I rx ry ⟨i, j, rfl, rfl, hl, k _ G H (.refl sb) rfl⟩
      · rw [if_neg hl] at e'; cases e'
    | _ => exact nomatch (show none = some _ from e)
  | _ => cases q <;> exact nomatch (show none = some _ from e)
theorem s_mod : OpR X (binaryOp .Mod) (rOp2 X.K .mod) := by
  intro pins s σ H x y v u Q I rx ry h
  obtain ⟨G, p, q, r, sb, hp, hq, e, k⟩ := h
  cases p with
  | int i =>
    cases q with
    | int j =>
      have e' : (if 0 < j then some (PyData.int (i % j)) else none) = some r := e
      by_cases hl : 0 < j
      · rw [if_pos hl] at e'
        cases e'
        cases (show x = .int i from hp); cases (show y = .int j from hq)
        exact op_mod pins s σ H _ _ v u Q I rx ry ⟨i, j, rfl, rfl, hl, k _ G H (.refl sb) rfl⟩
      · rw [if_neg hl] at e'; cases e'
    | _ => exact nomatch (show none = some _ from e)
  | _ => cases q <;> exact nomatch (show none = some _ from e)
theorem s_cmpI {op : CmpOp} {f : Int → Int → Bool} {o : Op2} (ho : OpR X (compareOp op) (rI0 fun i j => .bl (f i j))) (hf : opF2 o = cmpI f) : OpR X (compareOp op) (rOp2 X.K o) := by
  intro pins s σ H x y v u Q I rx ry h
  obtain ⟨G, p, q, r, sb, hp, hq, e, k⟩ := h
  rw [hf] at e
  cases p with
  | int i =>
    cases q with
    | int j =>
      cases (show some (PyData.bool (f i j)) = some r from e)
      cases (show x = .int i from hp); cases (show y = .int j from hq)
      exact ho pins s σ H _ _ v u Q I rx ry ⟨i, j, rfl, rfl, k _ G H (.refl sb) rfl⟩
    | _ => exact nomatch (show none = some _ from e)
  | _ => cases q <;> exact nomatch (show none = some _ from e)
theorem s_le : OpR X (compareOp .LtE) (rOp2 X.K .le) := s_cmpI op_le rfl
theorem s_gt : OpR X (compareOp .Gt) (rOp2 X.K .gt) := s_cmpI op_gt rfl
theorem eqF_inv {p q : PV} {b : Bool} (h : eqF p q = some b) : (isDict p = false ∧ isDict q = false) ∧ min p.depth q.depth ≤ 180 ∧ b = PyData.eqv p q := by
  unfold eqF at h
  split at h
  · cases h
  · rename_i hn
    split at h
    · rename_i hd
      cases h
      refine ⟨?_, hd, rfl⟩
      cases e1 : isDict p <;> cases e2 : isDict q <;> simp [e1, e2] at hn ⊢
    · cases h
theorem s_eq (hu : X.A.units + 190 < cLine) : OpR X (compareOp .Eq) (rOp2 X.K .eq) := by
  intro pins s σ H x y v u Q I rx ry h
  obtain ⟨G, p, q, r, sb, hp, hq, e, k⟩ := h
  obtain ⟨b, e1, e2⟩ := bnd_eq.mp (show bnd (eqF p q) (fun b => some (PyData.bool b)) = some r from e)
  cases e2
  obtain ⟨⟨dp, dq⟩, hd, rfl⟩ := eqF_inv e1
  obtain ⟨as, ra⟩ := hp.reads I sb dp rx
  obtain ⟨bs, rb⟩ := hq.reads I sb dq ry
  exact SeqAt.compareEq_reads ra rb (hp.lays dp) (hq.lays dq) (by lia) ⟨.bl _, H, I, rfl, k _ G H (.refl sb) rfl⟩
theorem s_ne (hu : X.A.units + 190 < cLine) : OpR X (compareOp .NotEq) (rOp2 X.K .ne) := by
  intro pins s σ H x y v u Q I rx ry h
  obtain ⟨G, p, q, r, sb, hp, hq, e, k⟩ := h
  obtain ⟨b, e1, e2⟩ := bnd_eq.mp (show bnd (eqF p q) (fun b => some (PyData.bool (!b))) = some r from e)
  cases e2
  obtain ⟨⟨dp, dq⟩, hd, rfl⟩ := eqF_inv e1
  obtain ⟨as, ra⟩ := hp.reads I sb dp rx
  obtain ⟨bs, rb⟩ := hq.reads I sb dq ry
  exact SeqAt.compareNe_reads ra rb (hp.lays dp) (hq.lays dq) (by lia) ⟨.bl _, H, I, rfl, k _ G H (.refl sb) rfl⟩
theorem inF_inv {p q : PV} {b : Bool} (h : inF p q = some b) : isDict p = false ∧ ∃ ys, (q = .list ys ∨ q = .tuple ys) ∧ min (PyData.depthAll ys) p.depth ≤ 180 ∧ b = ys.any fun y => PyData.eqv y p := by
  cases q with
  | list ys =>
    simp only [inF] at h
    split at h
    · cases h
    · rename_i hn
      split at h
      · rename_i hd
        cases h
        exact ⟨by simpa using hn, ys, .inl rfl, hd, rfl⟩
      · cases h
  | tuple ys =>
    simp only [inF] at h
    split at h
    · cases h
    · rename_i hn
      split at h
      · rename_i hd
        cases h
        exact ⟨by simpa using hn, ys, .inr rfl, hd, rfl⟩
      · cases h
  | _ => cases h
theorem canAll_of {p : PV} {ys : List PV} (h : p = .list ys ∨ p = .tuple ys) (hc : p.canLay0 = true) : PyData.canLayAll0 ys = true := by
  rcases h with rfl | rfl <;> simpa [PyData.canLay0] using hc
theorem s_in (hu : X.A.units + 190 < cLine) : OpR X (compareOp .In) (rOp2 X.K .inn) := by
  intro pins s σ H x y v u Q I rx ry h
  obtain ⟨G, p, q, r, sb, hp, hq, e, k⟩ := h
  obtain ⟨b, e1, e2⟩ := bnd_eq.mp (show bnd (inF p q) (fun b => some (PyData.bool b)) = some r from e)
  cases e2
  obtain ⟨dp, ys, hy, hd, rfl⟩ := inF_inv e1
  have dq : isDict q = false := by rcases hy with rfl | rfl <;> rfl
  obtain ⟨as, ra⟩ := hp.reads I sb dp rx
  obtain ⟨bs, rb⟩ := hq.reads I sb dq ry
  have hc := canAll_of hy (hq.lays dq)
  have fin : EP X pins σ Q (.bool (ys.any fun y => PyData.eqv y p)) s := ⟨.bl _, H, I, rfl, k _ G H (.refl sb) rfl⟩
  rcases hy with rfl | rfl
  · exact SeqAt.in_list_reads rb ra hc (hp.lays dp) (by lia) fin
  · exact SeqAt.in_tuple_reads rb ra hc (hp.lays dp) (by lia) fin
theorem s_nin (hu : X.A.units + 190 < cLine) : OpR X (compareOp .NotIn) (rOp2 X.K .nin) := by
  intro pins s σ H x y v u Q I rx ry h
  obtain ⟨G, p, q, r, sb, hp, hq, e, k⟩ := h
  obtain ⟨b, e1, e2⟩ := bnd_eq.mp (show bnd (inF p q) (fun b => some (PyData.bool (!b))) = some r from e)
  cases e2
  obtain ⟨dp, ys, hy, hd, rfl⟩ := inF_inv e1
  have dq : isDict q = false := by rcases hy with rfl | rfl <;> rfl
  obtain ⟨as, ra⟩ := hp.reads I sb dp rx
  obtain ⟨bs, rb⟩ := hq.reads I sb dq ry
  have hc := canAll_of hy (hq.lays dq)
  have fin : EP X pins σ Q (.bool (!ys.any fun y => PyData.eqv y p)) s := ⟨.bl _, H, I, rfl, k _ G H (.refl sb) rfl⟩
  rcases hy with rfl | rfl
  · exact SeqAt.notIn_list_reads rb ra hc (hp.lays dp) (by lia) fin
  · exact SeqAt.notIn_tuple_reads rb ra hc (hp.lays dp) (by lia) fin
end
end DD
set_option Elab.async false
set_option linter.all false
set_option maxRecDepth 100000
namespace DD
open PySem PySem.Spec PyProof.Rows L2
section
variable {X : Cx}
theorem at_rel {K : PySem.W.Frag} {G : Hp} {ps : List PV} {vs : List V} {i : Int} {p : PV} (r : RpL K G ps vs) (e : DD.atI ps i = some p) : ∃ v, L2.atI vs i = some v ∧ isDict p = false ∧ Rp K G p v := by
  unfold DD.atI at e
  cases q : DD.ixN ps.length i with
  | none => rw [q] at e; cases e
  | some j =>
    rw [q] at e
    obtain ⟨v, ev, rv⟩ := r.get (i := j) e
    refine ⟨v, ?_, rv⟩
    unfold L2.atI
    have q' : L2.ixN vs.length i = some j := by rw [← r.length]; exact q
    rw [q']; exact ev
theorem strOk_char {x : Str} {c : Nat} (h : PyData.strOk x = true) (hc : c ∈ x.cps.toList) : PyData.strOk ⟨#[c]⟩ = true := by
  unfold PyData.strOk at h ⊢
  rw [Array.all_eq_true_iff_forall_mem] at h ⊢
  intro y hy
  have : y = c := by simpa using hy
  subst this
  exact h y (by simpa using hc)
theorem subTail_of {prog : Program} {w : World} {A : Around} {E : Value → Shared → Prop} {s : Shared} {value slice : Expr} {o i : Value} {T id : String} {Q : Value → Shared → Prop}
    (hl : typeLookup (.type T) "__getitem__" = pure (some (.builtin id))) (hs : subscripted slice false o i = operate [o, i] (getItem o i)) (hT : s.TypeIs o T) (h : wpAny (model prog w) A (getItem o i) Q E s) :
    wpAny (model prog w) A (subscriptTail value slice o i) Q E s := by
  unfold subscriptTail
  refine wpAny_bind ?_
  rw [getitemInPython_of_ne hT.not_modules]
  refine wpAny_bind (wpAny_specialOf hT hl ?_)
  have fin : wpAny (model prog w) A (subscripted slice false o i) (fun r s₃ => wpAny (model prog w) A (letTemporaryGo value o r >>= fun _ => pure r) Q E s₃) E s := by
    rw [hs]
    exact wpAny_operating (wpAny_mono h (fun r s₃ h₃ => wpAny_bind (wpAny_letTemporaryGo (wpAny_pure h₃))) fun _ _ x => x)
  first
    | exact wpAny_pure (wpAny_bind fin)
    | exact wpAny_pure fin
    | exact wpAny_bind (wpAny_pure (wpAny_bind fin))
theorem keyEq_of {k q : PV} {a b : Key} (ha : keyOf k = some a) (hb : keyOf q = some b) : keyEq k q = decide (a = b) := by
  cases k with
  | int i =>
    cases (show some (Sum.inl i : Key) = some a from ha)
    cases q with
    | int j => cases (show some (Sum.inl j : Key) = some b from hb); rw [key_ll]; rfl
    | str y => cases (show some (Sum.inr y : Key) = some b from hb); rw [key_lr]; rfl
    | _ => cases hb
  | str x =>
    cases (show some (Sum.inr x : Key) = some a from ha)
    cases q with
    | int j => cases (show some (Sum.inl j : Key) = some b from hb); rw [key_rl]; rfl
    | str y =>
      cases (show some (Sum.inr y : Key) = some b from hb)
      rw [key_rr]
      show (x == y) = _
      by_cases e : x = y
      · subst e; simp
      · rw [beq_eq_false_iff_ne.mpr e, decide_eq_false e]
    | _ => cases hb
  | _ => cases ha
theorem dlook_rel {K : PySem.W.Frag} {G : Hp} {q : PV} {key : Key} (hk : keyOf q = some key) : ∀ {kvs : List (PV × PV)} {l : List (Key × V)}, RpD K G kvs l →
    (∀ r, dlook q kvs = some r → ∃ w, valV l key = some w ∧ isDict r = false ∧ Rp K G r w) ∧ (dlook q kvs = none → valV l key = none)
  | [], _, h => by
    cases (show _ = [] from h)
    exact ⟨fun r e => (by cases e), fun _ => rfl⟩
  | (k, p) :: kvs, _, h => by
    obtain ⟨key', v, r, rfl, h0, ⟨hd, h1⟩, h2⟩ := (show ∃ key v r, _ = (key, v) :: r ∧ keyOf k = some key ∧ (isDict p = false ∧ Rp K G p v) ∧ RpD K G kvs r from h)
    obtain ⟨i1, i2⟩ := dlook_rel hk h2
    have ek := keyEq_of h0 hk
    by_cases e : key' = key
    · rw [decide_eq_true e] at ek
      refine ⟨fun r' e' => ?_, fun e' => ?_⟩
      · rw [dlook, if_pos ek] at e'
        cases e'
        exact ⟨v, valV_pos (p := (key', v)) e, hd, h1⟩
      · rw [dlook, if_pos ek] at e'; cases e'
    · rw [decide_eq_false e] at ek
      refine ⟨fun r' e' => ?_, fun e' => ?_⟩
      · rw [dlook, if_neg (by rw [ek]; decide)] at e'
        rw [valV_neg (p := (key', v)) e]; exact i1 r' e'
      · rw [dlook, if_neg (by rw [ek]; decide)] at e'
        rw [valV_neg (p := (key', v)) e]; exact i2 e'
theorem key_V {K : PySem.W.Frag} {G H : Hp} {q : PV} {y : V} {key : Key} (hk : keyOf q = some key) (h : Rk K G H q y) : y = kV key := by
  cases q with
  | int i => cases (show some (Sum.inl i : Key) = some key from hk); exact h
  | str x => cases (show some (Sum.inr x : Key) = some key from hk); exact h.1
  | _ => cases hk
theorem isKey_of {q : PV} (h : isKey q = true) : ∃ key, keyOf q = some key := by
  cases q with
  | int i => exact ⟨_, rfl⟩
  | str x => exact ⟨_, rfl⟩
  | _ => cases h
theorem tst_some {α : Type} {t : Bool} {x : Option α} {r : α} (h : tst t x none = some r) : t = true ∧ x = some r := by
  cases t with
  | true => exact ⟨rfl, h⟩
  | false => cases h
theorem s_ixD (hu : X.A.units + 190 < cLine) {kvs : List (PV × PV)} {q r : PV} {G : Hp} {value slice : Expr} {pins : List (Addr × Obj)} {s : Shared} {σ : St} {H : Hp} {x y : V} {v u : Value} {Q : VK} (I : Inv X pins σ H s) (rx : RelV x v) (ry : RelV y u) (sb : Sub G H)
    (hp : Rk X.K G H (.dict kvs) x) (hq : Rk X.K G H q y) (e : tst (isKey q) (dlook q kvs) none = some r) (k : ∀ w, Rp X.K G r w → Q w H) (hs : subscripted slice false v u = operate [v, u] (getItem v u)) :
    wpAny (model X.prog X.w) X.A (subscriptTail value slice v u) (EP X pins σ Q) X.xe s := by
  obtain ⟨e1, e2⟩ := tst_some e
  obtain ⟨key, hk⟩ := isKey_of e1
  obtain ⟨a, l, rfl, hl, rd⟩ := (show ∃ a l, x = V.ref a ∧ Rd G a (.dK l) ∧ RpD X.K G kvs l from hp)
  obtain ⟨w, ew, _, rw'⟩ := (dlook_rel hk rd).1 r e2
  have ey := key_V hk hq
  subst ey
  cases (show v = Value.ref a from rx)
  have g : DGet H a (kV key) (some w) := .inl ⟨l, key, sb.rd hl, rfl, ew.symm⟩
  exact subTail_of PySem.F.slot_dict_getitem.lookup hs (dict_typeIs I g) (d_getItem (by lia) I g ry fun w' s3 I3 r3 => ⟨w, H, I3, r3, k w rw'⟩)
theorem s_ix (hu : X.A.units + 190 < cLine) : IxR X (rOp2 X.K .ix) := by
  intro value slice pins s σ H x y v u Q I rx ry h hs
  obtain ⟨G, p, q, r, sb, hp, hq, e, k⟩ := h
  by_cases hd : isDict p = true
  · cases p with
    | dict kvs => exact s_ixD hu I rx ry sb hp hq e (fun w rw' => k w G H (.refl sb) rw') hs
    | _ => cases hd
  cases q with
  | int i =>
    cases (show y = .int i from hq)
    cases p with
    | tuple xs =>
      obtain ⟨a, vs, rfl, q1, r1⟩ := (show ∃ a vs, x = V.ref a ∧ SqT X.K G a vs ∧ RpL X.K G xs vs from hp)
      obtain ⟨w, ew, _, rw'⟩ := at_rel r1 (show DD.atI xs i = some r from e)
      exact ix_tup value slice pins s σ H _ _ v u Q I rx ry ⟨a, vs, i, w, rfl, rfl, sb.sqT q1, ew, k _ G H (.refl sb) rw'⟩ hs
    | list xs =>
      obtain ⟨a, vs, rfl, q1, r1⟩ := (show ∃ a vs, x = V.ref a ∧ SqL X.K H a vs ∧ RpL X.K G xs vs from hp)
      obtain ⟨w, ew, _, rw'⟩ := at_rel r1 (show DD.atI xs i = some r from e)
      exact ix_list value slice pins s σ H _ _ v u Q I rx ry ⟨a, vs, i, w, rfl, rfl, q1, ew, k _ G H (.refl sb) rw'⟩ hs
    | str z =>
      obtain ⟨rfl, so, sl⟩ := (show x = .str z ∧ PyData.strOk z = true ∧ z.length ≤ 16777216 from hp)
      obtain ⟨c, ec, er⟩ := bnd_eq.mp (show bnd (DD.atI z.cps.toList i) (fun c => some (PyData.str ⟨#[c]⟩)) = some r from e)
      cases er
      have hm : c ∈ z.cps.toList := by
        obtain ⟨j, _, ej, _⟩ := atI_get (show L2.atI z.cps.toList i = some c from ec)
        exact List.mem_of_getElem? ej
      exact ix_str value slice pins s σ H _ _ v u Q I rx ry ⟨z, i, c, rfl, rfl, by rw [line_eq]; exact sl, ec, k _ G H (.refl sb) ⟨rfl, strOk_char so hm, by show 1 ≤ 16777216; lia⟩⟩ hs
    | dict kvs => exact absurd rfl hd
    | _ => exact nomatch (show none = some _ from e)
  | _ => cases p <;> first | exact absurd rfl hd | exact nomatch (show none = some _ from e)
theorem sIx_eq (n d : Nat) (o : Option Int) : DD.sIx n d o = HT.sIx n d o := by cases o <;> rfl
theorem cut_rel {K : PySem.W.Frag} {G : Hp} {ps : List PV} {vs : List V} (lo hi : Option Int) (r : RpL K G ps vs) : RpL K G (cut ps lo hi) (cutV vs lo hi) := by
  unfold cut cutV
  rw [sIx_eq, sIx_eq, r.length]
  exact (r.drop _).take _
theorem getItem_tuple_whole {prog : Program} {w : World} {A : Around} {E : Value → Shared → Prop} {s : Shared} {t sl : Addr} {items : Array Value} {vl vu : Value} {lo hi : Option Int} {Q : Value → Shared → Prop} (ht : IsTup s.heap t items) (hs : s.heap.IsSliceOf sl vl vu .none)
    (pl : IsPart vl lo) (pu : IsPart vu hi) (h0 : HT.sIx items.size 0 lo = 0) (h1 : HT.sIx items.size items.size hi = items.size) (h : Q (.ref t) s) : wpAny (model prog w) A (getItem (.ref t) (.ref sl)) Q E s := by
  obtain ⟨os, hos, hcs, hds⟩ := id hs
  have hTs : s.TypeIs (.ref sl) "slice" := ⟨os, hos, hcs⟩
  unfold getItem
  try with_reducible refine wpAny_holding ?_
  first | refine wpAny_bind (wpAny_pure ?_) | skip
  refine wpAny_bind (wpAny_sequenceKey ht.typeIs (by decide) ?_)
  refine wpAny_bind (wpAny_callSpecial?_slot (name := Str.ofString "__getitem__") ht.typeIs PyProof.Rows.slot_tuple_getitem
    (wpAny_call_entry PyProof.Rows.slot_tuple_getitem ht.typeIs entry_tuple_getitem ?_ (args_tuple_getitem _ _)))
  show wpAny _ _ (Builtin.Tuple.tupleItemsOf (.ref t) >>= _) _ _ s
  refine wpAny_bind (tupleItemsOf_ ht ?_)
  refine wpAny_bind (wpAny_typeOf hTs ?_)
  rw [if_pos (by decide)]
  refine wpAny_bind (HT.sliceApplied_gen hs pl pu ?_)
  rw [h0, h1]
  show wpAny _ _ (if (((0 : Nat) : Int) == 0 && (1 : Int) == 1 && (items.size - 0) == items.size) = true then _ else _) _ _ s
  rw [if_pos (by simp)]
  refine wpAny_bind (m := Builtin.Tuple.tupleIsExact (.ref t)) (wpAny_bind (wpAny_typeOf ht.typeIs (wpAny_pure ?_)))
  rw [if_pos (by decide)]
  first
    | exact wpAny_bind (wpAny_rule (wpAny_pure ⟨_, rfl, wpAny_pure h⟩))
    | exact wpAny_bind (wpAny_rule (wpAny_bind (wpAny_pure (wpAny_pure ⟨_, rfl, wpAny_pure h⟩))))
    | exact wpAny_bind (wpAny_bind (wpAny_rule (wpAny_pure ⟨_, rfl, wpAny_pure h⟩)))
noncomputable def rSl (K : PySem.W.Frag) : V → Option Int → Option Int → Hp → VK → Prop := fun x lo hi H Q => ∃ G p r, Sub G H ∧ Rk K G H p x ∧ cutF lo hi p = some r ∧ ∀ v G' H', Ext G H G' H' → Rp K G' r v → Q v H'
theorem s_sl : SlR X (rSl X.K) := by
  intro pins s σ H x v vl vu lo hi sl Q I rx hs pl pu h
  obtain ⟨G, p, r, sb, hp, e, k⟩ := h
  cases p with
  | tuple xs =>
    cases (show some (PyData.tuple (cut xs lo hi)) = some r from e)
    obtain ⟨a, vs, rfl, q1, r1⟩ := (show ∃ a vs, x = V.ref a ∧ SqT X.K G a vs ∧ RpL X.K G xs vs from hp)
    by_cases hw : HT.sIx vs.length 0 lo = 0 ∧ HT.sIx vs.length vs.length hi = vs.length
    · cases rx
      obtain ⟨its, rv, ht, hz⟩ := I.tuple (sb.sqT q1)
      have hlen : its.toArray.size = vs.length := by rw [List.size_toArray]; exact rv.length.symm
      refine ⟨"tuple", _, PyProof.Rows.slot_tuple_getitem.lookup, ht.typeIs, getItem_tuple_whole ht hs pl pu (by rw [hlen]; exact hw.1) (by rw [hlen]; exact hw.2) ⟨.ref a, H, I, rfl, k _ G H (.refl sb) ⟨a, vs, rfl, q1, ?_⟩⟩⟩
      have hc : cut xs lo hi = xs := by
        unfold cut
        rw [sIx_eq, sIx_eq, r1.length, hw.1, hw.2, List.drop_zero, Nat.sub_zero, ← r1.length, List.take_length]
      rw [hc]; exact r1
    · refine sl_tup pins s σ H _ v vl vu lo hi sl Q I rx hs pl pu ⟨a, vs, rfl, sb.sqT q1, hw, fun l hf => ?_⟩
      have x1 := Ext.new sb hf (.tup (cutV vs lo hi))
      exact k _ _ _ x1 ⟨l, _, rfl, SqT.of upd_same, (cut_rel lo hi r1).mono x1.gg⟩
  | list xs =>
    cases (show some (PyData.list (cut xs lo hi)) = some r from e)
    obtain ⟨a, vs, rfl, q1, r1⟩ := (show ∃ a vs, x = V.ref a ∧ SqL X.K H a vs ∧ RpL X.K G xs vs from hp)
    refine sl_list pins s σ H _ v vl vu lo hi sl Q I rx hs pl pu ⟨a, vs, rfl, q1, fun l hf => ?_⟩
    have x1 := Ext.new sb hf (.lst (cutV vs lo hi))
    exact k _ _ _ x1 ⟨l, _, rfl, SqL.of upd_same, (cut_rel lo hi r1).mono x1.gg⟩
  | _ => exact nomatch (show none = some _ from e)
noncomputable def rC1 (K : PySem.W.Frag) (o : Op1) : List V → Hp → VK → Prop := fun xs H Q => ∃ x, xs = [x] ∧ rOp1 K o x H Q
theorem s_len : CallR X (.builtin "len") (rC1 X.K .len) := by
  intro pins s σ H xs us Q I r h
  obtain ⟨x, rfl, G, p, q, sb, hp, e, k⟩ := h
  cases p with
  | tuple ps =>
    cases (show some (PyData.int ps.length) = some q from e)
    obtain ⟨a, vs, rfl, q1, r1⟩ := (show ∃ a vs, x = V.ref a ∧ SqT X.K G a vs ∧ RpL X.K G ps vs from hp)
    exact call_len_seq pins s σ H _ us Q I r ⟨a, vs, rfl, .inr (sb.sqT q1), k _ G H (.refl sb) (by rw [r1.length]; rfl)⟩
  | list ps =>
    cases (show some (PyData.int ps.length) = some q from e)
    obtain ⟨a, vs, rfl, q1, r1⟩ := (show ∃ a vs, x = V.ref a ∧ SqL X.K H a vs ∧ RpL X.K G ps vs from hp)
    exact call_len_seq pins s σ H _ us Q I r ⟨a, vs, rfl, .inl q1, k _ G H (.refl sb) (by rw [r1.length]; rfl)⟩
  | str z =>
    cases (show some (PyData.int z.length) = some q from e)
    obtain ⟨rfl, so, sl⟩ := (show x = .str z ∧ PyData.strOk z = true ∧ z.length ≤ 16777216 from hp)
    exact call_len_str pins s σ H _ us Q I r ⟨z, rfl, by rw [line_eq]; exact sl, k _ G H (.refl sb) rfl⟩
  | _ => exact nomatch (show none = some _ from e)
theorem s_toTuple : CallR X (.type "tuple") (rC1 X.K .toTuple) := by
  intro pins s σ H xs us Q I r h
  obtain ⟨x, rfl, G, p, q, sb, hp, e, k⟩ := h
  cases p with
  | tuple ps =>
    cases (show some (PyData.tuple ps) = some q from e)
    obtain ⟨a, vs, rfl, q1, r1⟩ := (show ∃ a vs, x = V.ref a ∧ SqT X.K G a vs ∧ RpL X.K G ps vs from hp)
    exact call_tuple_of pins s σ H _ us Q I r ⟨a, vs, rfl, .inr ⟨sb.sqT q1, k _ G H (.refl sb) ⟨a, vs, rfl, q1, r1⟩⟩⟩
  | list ps =>
    cases (show some (PyData.tuple ps) = some q from e)
    obtain ⟨a, vs, rfl, q1, r1⟩ := (show ∃ a vs, x = V.ref a ∧ SqL X.K H a vs ∧ RpL X.K G ps vs from hp)
    refine call_tuple_of pins s σ H _ us Q I r ⟨a, vs, rfl, .inl ⟨q1, fun l hf => ?_⟩⟩
    have x1 := Ext.new sb hf (.tup vs)
    exact k _ _ _ x1 ⟨l, vs, rfl, SqT.of upd_same, r1.mono x1.gg⟩
  | _ => exact nomatch (show none = some _ from e)
theorem s_toList : CallR X (.type "list") (rC1 X.K .toList) := by
  intro pins s σ H xs us Q I r h
  obtain ⟨x, rfl, G, p, q, sb, hp, e, k⟩ := h
  cases p with
  | tuple ps =>
    cases (show some (PyData.list ps) = some q from e)
    obtain ⟨a, vs, rfl, q1, r1⟩ := (show ∃ a vs, x = V.ref a ∧ SqT X.K G a vs ∧ RpL X.K G ps vs from hp)
    refine call_list_of pins s σ H _ us Q I r ⟨a, vs, rfl, .inr (sb.sqT q1), fun l hf => ?_⟩
    have x1 := Ext.new sb hf (.lst vs)
    exact k _ _ _ x1 ⟨l, vs, rfl, SqL.of upd_same, r1.mono x1.gg⟩
  | list ps =>
    cases (show some (PyData.list ps) = some q from e)
    obtain ⟨a, vs, rfl, q1, r1⟩ := (show ∃ a vs, x = V.ref a ∧ SqL X.K H a vs ∧ RpL X.K G ps vs from hp)
    refine call_list_of pins s σ H _ us Q I r ⟨a, vs, rfl, .inl q1, fun l hf => ?_⟩
    have x1 := Ext.new sb hf (.lst vs)
    exact k _ _ _ x1 ⟨l, vs, rfl, SqL.of upd_same, r1.mono x1.gg⟩
  | _ => exact nomatch (show none = some _ from e)
theorem s_toInt : CallR X (.type "int") (rC1 X.K .toInt) := by
  intro pins s σ H xs us Q I r h
  obtain ⟨x, rfl, G, p, q, sb, hp, e, k⟩ := h
  cases p with
  | int i =>
    cases (show some (PyData.int i) = some q from e)
    cases (show x = .int i from hp)
    exact call_int1 pins s σ H _ us Q I r (.inl ⟨i, rfl, k _ G H (.refl sb) rfl⟩)
  | bool b =>
    cases (show some (PyData.int (if b then 1 else 0)) = some q from e)
    cases (show x = .bl b from hp)
    exact call_int1 pins s σ H _ us Q I r (.inr ⟨b, rfl, k _ G H (.refl sb) rfl⟩)
  | _ => exact nomatch (show none = some _ from e)
noncomputable def rIsi (K : PySem.W.Frag) (o : Op1) (T : String) : List V → Hp → VK → Prop := fun xs H Q => ∃ x, xs = [x, .ty T] ∧ rOp1 K o x H Q
theorem isi_ok {o : Op1} {T : String} (hn : ∀ b, opF1 o .none = some (.bool b) → PySem.W.kitOne X.K (.type "NoneType") (.type T) = some b) (hb : ∀ c b, opF1 o (.bool c) = some (.bool b) → PySem.W.kitOne X.K (.type "bool") (.type T) = some b)
    (hi : ∀ c b, opF1 o (.int c) = some (.bool b) → PySem.W.kitOne X.K (.type "int") (.type T) = some b) (hs : ∀ c b, opF1 o (.str c) = some (.bool b) → PySem.W.kitOne X.K (.type "str") (.type T) = some b)
    (hl : ∀ c b, opF1 o (.list c) = some (.bool b) → PySem.W.kitOne X.K (.type "list") (.type T) = some b) (ht : ∀ c b, opF1 o (.tuple c) = some (.bool b) → PySem.W.kitOne X.K (.type "tuple") (.type T) = some b)
    (hbool : ∀ p r, opF1 o p = some r → ∃ b, r = .bool b) (hdct : ∀ kvs r, opF1 o (.dict kvs) = some r → False) : CallR X (.builtin "isinstance") (rIsi X.K o T) := by
  intro pins s σ H xs us Q I r h
  obtain ⟨x, rfl, G, p, q, sb, hp, e, k⟩ := h
  obtain ⟨u, w', rfl, rx, ry⟩ := vals2 r
  cases (show w' = Value.type T from ry)
  obtain ⟨b, rfl⟩ := hbool p q e
  have fin : ∀ tk, EP X pins σ Q (.bool b) { s with toks := tk } := fun tk => ⟨.bl b, H, I.tok tk, rfl, k _ G H (.refl sb) rfl⟩
  cases p with
  | none => cases (show x = .non from hp); cases (show u = Value.none from rx); exact PySem.W.kia_one PySem.W.kitx_none I.kIn True.intro (hn b e) (fun z => nomatch z) fin
  | bool c => cases (show x = .bl c from hp); cases (show u = Value.bool c from rx); exact PySem.W.kia_one PySem.W.kitx_bool I.kIn True.intro (hb c b e) (fun z => nomatch z) fin
  | int c => cases (show x = .int c from hp); obtain ⟨t, rfl⟩ := (show ∃ t, u = Value.int c t from rx); exact PySem.W.kia_one PySem.W.kitx_int I.kIn True.intro (hi c b e) (fun z => nomatch z) fin
  | str c =>
    obtain ⟨rfl, _⟩ := (show x = .str c ∧ _ from hp)
    obtain ⟨t, rfl⟩ := (show ∃ t, u = Value.str c t from rx); exact PySem.W.kia_one PySem.W.kitx_str I.kIn True.intro (hs c b e) (fun z => nomatch z) fin
  | list c =>
    obtain ⟨a, vs, rfl, q1, r1⟩ := (show ∃ a vs, x = V.ref a ∧ SqL X.K H a vs ∧ RpL X.K G c vs from hp)
    cases (show u = Value.ref a from rx)
    obtain ⟨its, _, ⟨o', n, h1, h2, _⟩, _⟩ := I.list q1
    exact PySem.W.kia_one PySem.W.kitx_list I.kIn ⟨o', h1, h2⟩ (hl c b e) (fun z => nomatch z) fin
  | tuple c =>
    obtain ⟨a, vs, rfl, q1, r1⟩ := (show ∃ a vs, x = V.ref a ∧ SqT X.K G a vs ∧ RpL X.K G c vs from hp)
    cases (show u = Value.ref a from rx)
    obtain ⟨its, _, ⟨o', h1, h2, _⟩, _⟩ := I.tuple (sb.sqT q1)
    exact PySem.W.kia_one PySem.W.kitx_tuple I.kIn ⟨o', h1, h2⟩ (ht c b e) (fun z => nomatch z) fin
  | dict kvs => exact (hdct kvs _ e).elim
end
end DD
set_option Elab.async false
set_option linter.all false
set_option maxRecDepth 100000
namespace DD
open PySem PySem.Spec PyProof.Rows L2
noncomputable abbrev CF := Nat → List PV → Option PV
noncomputable def isPeek : E → Bool
  | .peek _ => true
  | _ => false
noncomputable def RS (K : PySem.W.Frag) (ie : E) (G H : Hp) (p : PV) (v : V) : Prop := if isPeek ie = true then Rk K G H p v else Rp K G p v
theorem RS.rk {K : PySem.W.Frag} {ie : E} {G H : Hp} {p : PV} {v : V} (s : Sub G H) (h : RS K ie G H p v) : Rk K G H p v := by
  unfold RS at h
  split at h
  · exact h
  · exact h.rk s
theorem RS.rp {K : PySem.W.Frag} {ie : E} {G H : Hp} {p : PV} {v : V} (hp : isPeek ie = false) (h : RS K ie G H p v) : Rp K G p v := by
  unfold RS at h
  rw [hp] at h
  exact h
theorem RS.of {K : PySem.W.Frag} {ie : E} {G H : Hp} {p : PV} {v : V} (hp : isPeek ie = false) (h : Rp K G p v) : RS K ie G H p v := by
  unfold RS
  rw [hp]
  exact h
noncomputable def tE (cf : CF) (K : PySem.W.Frag) (ie : E) : TE := fun σ H Q => ∃ G ρ p, SR K G H σ ρ ∧ evE cf ie ρ = some p ∧ ∀ v G' H', Ext G H G' H' → RS K ie G' H' p v → Q v H'
noncomputable def tT (cf : CF) (K : PySem.W.Frag) (ie : E) : TT := fun σ H Q => ∃ G ρ p b, SR K G H σ ρ ∧ evE cf ie ρ = some p ∧ truthF p = some b ∧ ∀ G' H', Ext G H G' H' → Q b H'
noncomputable def tA (cf : CF) (K : PySem.W.Frag) (ie : E) : TA := fun σ H Q => ∃ G ρ ps, SR K G H σ ρ ∧ evE cf ie ρ = some (.tuple ps) ∧ ∀ vs G' H', Ext G H G' H' → RpA K G' ps vs → Q vs H'
structure Snd (X : Cx) (cf : CF) (ie : E) (e : Expr) : Prop where
  pe : PE X e (tE cf X.K ie)
  pt : PT X e (tT cf X.K ie)
section
variable {X : Cx} {cf : CF}
theorem _root_.L2.PE.weak {e : Expr} {t t' : TE} (h : PE X e t) (w : ∀ σ H Q, t' σ H Q → t σ H Q) : PE X e t' := fun pins s σ H Q I q => h pins s σ H Q I (w σ H Q q)
theorem _root_.L2.PT.weak {e : Expr} {t t' : TT} (h : PT X e t) (w : ∀ σ H Q, t' σ H Q → t σ H Q) : PT X e t' := fun pins s σ H Q I q => h pins s σ H Q I (w σ H Q q)
theorem _root_.L2.PW.weak {e : Expr} {t t' : TT} (h : PW X e t) (w : ∀ σ H Q, t' σ H Q → t σ H Q) : PW X e t' := fun wh pins s σ H Q I q => h wh pins s σ H Q I (w σ H Q q)
theorem _root_.L2.PA.weak {es : List Expr} {t t' : TA} (h : PA X es t) (w : ∀ σ H Q, t' σ H Q → t σ H Q) : PA X es t' := fun pos pins s σ H Q I q => h pos pins s σ H Q I (w σ H Q q)
theorem truV {K : PySem.W.Frag} {G H : Hp} {p : PV} {v : V} {b : Bool} (sb : Sub G H) (h : Rk K G H p v) (e : truthF p = some b) : TruV K v H b := by
  cases p with
  | none => cases (show v = .non from h); cases (show some false = some b from e); exact (rfl : false = false)
  | bool c => cases (show v = .bl c from h); have e' : c = b := Option.some.inj e; subst e'; exact (rfl : c = c)
  | int i => cases (show v = .int i from h); cases (show some (i != 0) = some b from e); exact (rfl : (i != 0) = (i != 0))
  | str x =>
    obtain ⟨rfl, _, hl⟩ := (show v = .str x ∧ PyData.strOk x = true ∧ x.length ≤ 16777216 from h)
    cases (show some (x.length != 0) = some b from e)
    refine (⟨by rw [line_eq]; exact hl, ?_⟩ : x.length ≤ sizeLine ∧ (x.length != 0) = ((x.length : Int) != 0))
    cases hx : x.length with
    | zero => rfl
    | succ n => simp; lia
  | list ps =>
    obtain ⟨a, vs, rfl, q, r⟩ := (show ∃ a vs, v = V.ref a ∧ SqL K H a vs ∧ RpL K G ps vs from h)
    cases (show some (!ps.isEmpty) = some b from e)
    have hl := r.length
    refine Or.inl ⟨vs, q, ?_⟩
    cases ps <;> cases vs <;> simp_all
  | tuple ps =>
    obtain ⟨a, vs, rfl, q, r⟩ := (show ∃ a vs, v = V.ref a ∧ SqT K G a vs ∧ RpL K G ps vs from h)
    cases (show some (!ps.isEmpty) = some b from e)
    have hl := r.length
    refine Or.inr (Or.inl ⟨vs, sb.sqT q, ?_⟩)
    cases ps <;> cases vs <;> simp_all
  | dict _ => cases (show none = some b from e)
theorem Snd.plain {ie : E} {e : Expr} (h : PE X e (tE cf X.K ie)) (he : ∀ whole, isTrue e X.env whole = (do let v ← whole; standAt e.pos; holding [v] (truthy v))) : Snd X cf ie e := by
  refine ⟨h, (pt_truth h he).weak fun σ H Q ⟨G, ρ, p, b, S, e1, e2, k⟩ => ?_⟩
  exact ⟨G, ρ, p, S, e1, fun v G' H' x r => ⟨b, truV x.gh (r.rk x.gh) e2, k G' H' x⟩⟩
theorem snd_var {i : Nat} {x : Str} {pos : Pos} (hN : X.N[i]? = some x) (hv : Vis X.env.scope x) (hd : (x == ("__debug__" : Str)) = false) (hcd : (x == ("__classdict__" : Str)) = false) : Snd X cf (.var i) (.Name x pos) := by
  refine .plain ((pe_var hN hv hd hcd).weak fun σ H Q ⟨G, ρ, p, S, e, k⟩ => ?_) (fun _ => rfl)
  obtain ⟨sl, e1, e2⟩ := bnd_eq.mp (show bnd ρ[i]? Sl.get = some p from e)
  cases sl with
  | val q =>
    cases (show some q = some p from e2)
    obtain ⟨o, eo, v, rfl, r⟩ := S.at e1
    exact ⟨v, eo, k v G H (.refl S.sub) (.of rfl r)⟩
  | un => cases (show none = some p from e2)
  | own ps => cases (show none = some p from e2)
theorem snd_peek {i : Nat} {x : Str} {pos : Pos} (hN : X.N[i]? = some x) (hv : Vis X.env.scope x) (hd : (x == ("__debug__" : Str)) = false) (hcd : (x == ("__classdict__" : Str)) = false) : Snd X cf (.peek i) (.Name x pos) := by
  refine .plain ((pe_var hN hv hd hcd).weak fun σ H Q ⟨G, ρ, p, S, e, k⟩ => ?_) (fun _ => rfl)
  obtain ⟨sl, e1, e2⟩ := bnd_eq.mp (show bnd ρ[i]? Sl.look = some p from e)
  cases sl with
  | val q =>
    have e3 : q = p := Option.some.inj e2
    subst e3
    obtain ⟨o, eo, v, rfl, r⟩ := S.at e1
    exact ⟨v, eo, k v G H (.refl S.sub) (show Rk X.K G H q v from r.rk S.sub)⟩
  | own ps =>
    cases (show some (PyData.list ps) = some p from e2)
    obtain ⟨o, eo, a, vs, rfl, h1, h2, r⟩ := S.at e1
    exact ⟨_, eo, k _ G H (.refl S.sub) (show Rk X.K G H (.list ps) (.ref a) from ⟨a, vs, rfl, SqL.of h1, r⟩)⟩
  | un => cases (show none = some p from e2)
theorem pe_con {e : Expr} {p : PV} {v : V} (h : PE X e (tC v)) (r : ∀ G, Rp X.K G p v) : PE X e (tE cf X.K (.con p)) :=
  h.weak fun σ H Q ⟨G, ρ, q, S, e, k⟩ => by
    cases (show some p = some q from e)
    exact k v G H (.refl S.sub) (.of rfl (r G))
theorem tst_none {α : Type} {t : Bool} {x : Option α} {r : α} (h : tst t none x = some r) : t = false ∧ x = some r := by
  cases t with
  | true => cases h
  | false => exact ⟨rfl, h⟩
noncomputable def plainE : Expr → Bool
  | .Starred .. => false
  | _ => true
theorem star_of {e : Expr} (h : plainE e = true) (es : List Expr) (env : PySem.Env) : starEach (e :: es) env = (false, eval e env) :: starEach es env := by
  cases e <;> first | rfl | (exact absurd (show false = true from h) Bool.false_ne_true)
theorem snd_nil : PA X [] (tA cf X.K .nil) := pa_nil.weak fun σ H Q ⟨G, ρ, ps, S, e, k⟩ => by
  cases (show some (PyData.tuple []) = some (.tuple ps) from e)
  exact k [] G H (.refl S.sub) .nil
theorem snd_cons {ih it : E} {e : Expr} {es : List Expr} (h : PE X e (tE cf X.K ih)) (hr : PA X es (tA cf X.K it)) (hk : isPeek ih = false) (hs : plainE e = true) : PA X (e :: es) (tA cf X.K (.cons ih it)) :=
  (pa_cons h hr (star_of hs _ _)).weak fun σ H Q ⟨G, ρ, ps, S, e, k⟩ => by
    obtain ⟨x, e1, e2⟩ := bnd_eq.mp (show bnd (evE cf ih ρ) (fun x => bnd (evE cf it ρ) (consF x)) = some (.tuple ps) from e)
    obtain ⟨r, e3, e4⟩ := bnd_eq.mp e2
    cases r with
    | tuple xs =>
      cases (show some (PyData.tuple (x :: xs)) = some (.tuple ps) from e4)
      exact ⟨G, ρ, x, S, e1, fun v G1 H1 x1 r1 => ⟨G1, ρ, xs, S.ext x1, e3, fun vs G2 H2 x2 r2 => k (v :: vs) G2 H2 (x1.trans x2) (.cons ((r1.rp hk).mono x2.gg) r2)⟩⟩
    | _ => cases (show none = some (PyData.tuple ps) from e4)
noncomputable def argN : E → Option Nat
  | .nil => some 0
  | .cons _ t => (argN t).map (· + 1)
  | _ => none
theorem args_len : ∀ (a : E) (n : Nat) (ρ : Env) (p : PV), argN a = some n → evE cf a ρ = some p → ∃ ps, p = .tuple ps ∧ ps.length = n
  | .nil, n, ρ, p, hn, e => by
    cases (show some 0 = some n from hn)
    cases (show some (PyData.tuple []) = some p from e)
    exact ⟨[], rfl, rfl⟩
  | .cons h t, n, ρ, p, hn, e => by
    obtain ⟨x, e1, e2⟩ := bnd_eq.mp (show bnd (evE cf h ρ) (fun x => bnd (evE cf t ρ) (consF x)) = some p from e)
    obtain ⟨r, e3, e4⟩ := bnd_eq.mp e2
    cases hm : argN t with
    | none => rw [argN, hm] at hn; cases hn
    | some m =>
      rw [argN, hm] at hn
      cases hn
      obtain ⟨xs, rfl, hl⟩ := args_len t m ρ r hm e3
      cases (show some (PyData.tuple (x :: xs)) = some p from e4)
      exact ⟨_, rfl, by simp [hl]⟩
  | .var _, _, _, _, hn, _ => by cases hn
  | .peek _, _, _, _, hn, _ => by cases hn
  | .con _, _, _, _, hn, _ => by cases hn
  | .tup _, _, _, _, hn, _ => by cases hn
  | .lst _, _, _, _, hn, _ => by cases hn
  | .op1 _ _, _, _, _, hn, _ => by cases hn
  | .op2 _ _ _, _, _, _, hn, _ => by cases hn
  | .sl _ _ _, _, _, _, hn, _ => by cases hn
  | .call _ _, _, _, _, hn, _ => by cases hn
  | .and _ _, _, _, _, hn, _ => by cases hn
  | .or _ _, _, _, _, hn, _ => by cases hn
  | .not _, _, _, _, hn, _ => by cases hn
  | .ite _ _ _, _, _, _, hn, _ => by cases hn
  | .chain _ _ _ _ _, _, _, _, hn, _ => by cases hn
  | .comp _ _ _ _ _, _, _, _, hn, _ => by cases hn
  | .rng _, _, _, _, hn, _ => by cases hn
  | .rng2 _ _, _, _, _, hn, _ => by cases hn
  | .dct _ _, _, _, _, hn, _ => by cases hn
  | .dgt _ _ _, _, _, _, hn, _ => by cases hn
  | .lrep _ _, _, _, _, hn, _ => by cases hn
theorem snd_tup {a : E} {es : List Expr} {k : Nat} {pos : Pos} {n : Nat} (h : PA X es (tA cf X.K a)) (hn : argN a = some n) (hs : n ≤ 1000) : Snd X cf (.tup a) (.Tuple es k pos) := by
  refine .plain ((pe_tup h).weak fun σ H Q ⟨G, ρ, p, S, e, k⟩ => ?_) (fun _ => rfl)
  obtain ⟨r, e1, e2⟩ := bnd_eq.mp (show bnd (evE cf a ρ) tupF = some p from e)
  obtain ⟨ps, rfl, hl⟩ := args_len a n ρ r hn e1
  obtain ⟨hd, e3⟩ := tst_none (show tst (anyD ps) none (some (PyData.tuple ps)) = some p from e2)
  cases e3
  refine ⟨G, ρ, ps, S, e1, fun vs G1 H1 x1 r1 => ⟨?_, fun l hf => ?_⟩⟩
  · have := r1.length; rw [line_eq]; lia
  · have x2 := Ext.new x1.gh hf (.tup vs)
    exact k _ _ _ (x1.trans x2) (.of rfl ⟨l, vs, rfl, SqT.of upd_same, (r1.list hd).mono x2.gg⟩)
theorem snd_lst {a : E} {es : List Expr} {pos : Pos} {n : Nat} (h : PA X es (tA cf X.K a)) (hn : argN a = some n) (hs : n ≤ 1000) : Snd X cf (.lst a) (.List es pos) := by
  refine .plain ((pe_lst h).weak fun σ H Q ⟨G, ρ, p, S, e, k⟩ => ?_) (fun _ => rfl)
  obtain ⟨r, e1, e2⟩ := bnd_eq.mp (show bnd (evE cf a ρ) lstF = some p from e)
  obtain ⟨ps, rfl, hl⟩ := args_len a n ρ r hn e1
  obtain ⟨hd, e3⟩ := tst_none (show tst (anyD ps) none (some (PyData.list ps)) = some p from e2)
  cases e3
  refine ⟨G, ρ, ps, S, e1, fun vs G1 H1 x1 r1 => ⟨?_, fun l hf => ?_⟩⟩
  · have := r1.length; rw [line_eq]; lia
  · have x2 := Ext.new x1.gh hf (.lst vs)
    exact k _ _ _ (x1.trans x2) (.of rfl ⟨l, vs, rfl, SqL.of upd_same, (r1.list hd).mono x2.gg⟩)
theorem op2_w {o : Op2} {a b : E} : ∀ σ H Q, tE cf X.K (.op2 o a b) σ H Q → tOp (rOp2 X.K o) (tE cf X.K a) (tE cf X.K b) σ H Q := fun σ H Q ⟨G, ρ, p, S, e, k⟩ => by
  obtain ⟨x, e1, e2⟩ := bnd_eq.mp (show bnd (evE cf a ρ) (fun x => bnd (evE cf b ρ) fun y => opF2 o x y) = some p from e)
  obtain ⟨y, e3, e4⟩ := bnd_eq.mp e2
  exact ⟨G, ρ, x, S, e1, fun v G1 H1 x1 r1 => ⟨G1, ρ, y, S.ext x1, e3, fun w G2 H2 x2 r2 =>
    ⟨G2, x, y, p, x2.gh, (r1.rk x1.gh).ext x2, r2.rk x2.gh, e4, fun u G3 H3 x3 r3 => k u G3 H3 (x1.trans (x2.trans x3)) (.of rfl r3)⟩⟩⟩
theorem snd_bin {op : Operator} {o : Op2} {ia ib : E} {a b : Expr} {pos : Pos} (ho : OpR X (binaryOp op) (rOp2 X.K o)) (ha : PE X a (tE cf X.K ia)) (hb : PE X b (tE cf X.K ib)) : Snd X cf (.op2 o ia ib) (.BinOp a op b pos) :=
  .plain ((pe_op ho ha hb).weak op2_w) (fun _ => rfl)
theorem snd_cmp {op : CmpOp} {o : Op2} {ia ib : E} {a b : Expr} {pos : Pos} (ho : OpR X (compareOp op) (rOp2 X.K o)) (hb2 : ∀ p q r, opF2 o p q = some r → ∃ b, r = .bool b) (ha : PE X a (tE cf X.K ia)) (hb : PE X b (tE cf X.K ib))
    (hm : behindInMarks op b = false) : Snd X cf (.op2 o ia ib) (.Compare a [op] [b] pos) := by
  refine ⟨(pe_cmpR ho ha hb hm).weak op2_w, (pt_cmpR ho ha hb hm).weak fun σ H Q ⟨G, ρ, p, t, S, e, et, k⟩ => ?_⟩
  refine op2_w σ H (fun x H' => ∃ c, x = .bl c ∧ Q c H') ⟨G, ρ, p, S, e, fun v G' H' x r => ?_⟩
  obtain ⟨x', e1, e2⟩ := bnd_eq.mp (show bnd (evE cf ia ρ) (fun x => bnd (evE cf ib ρ) fun y => opF2 o x y) = some p from e)
  obtain ⟨y', e3, e4⟩ := bnd_eq.mp e2
  obtain ⟨b', rfl⟩ := hb2 _ _ _ e4
  have et' : b' = t := Option.some.inj et
  subst et'
  have rv : Rp X.K G' (.bool b') v := r.rp rfl
  cases (show v = .bl b' from rv)
  exact ⟨b', rfl, k G' H' x⟩
end
end DD
set_option Elab.async false
set_option linter.all false
set_option maxRecDepth 100000
namespace DD
open PySem PySem.Spec PyProof.Rows L2
noncomputable def clOf (cells : List (Str × Addr)) : List (Str × NameKind) → List (Str × Addr) → List (Str × Addr)
  | [], acc => acc
  | (n, k) :: r, acc => if k == NameKind.free then clOf cells r ((n, (cells.lookup n).getD 0) :: acc) else clOf cells r acc
theorem closure_of {scope : Scope} {env : PySem.Env} (h : ∀ x ∈ scope.names, x.2 = .free → ∃ c, env.cells.lookup x.1 = some c) : closureFor scope env = pure (clOf env.cells scope.names []) := by
  unfold closureFor
  have go : ∀ (names : List (Str × NameKind)) (acc : List (Str × Addr)), (∀ x ∈ names, x.2 = .free → ∃ c, env.cells.lookup x.1 = some c) →
      (forIn names acc fun x cs => do
        if (x.2 == NameKind.free) = true then do
          let a ← cellOf env x.1
          pure (ForInStep.yield ((x.1, a) :: cs))
        else pure (ForInStep.yield cs) : Sem (List (Str × Addr))) = pure (clOf env.cells names acc) := by
    intro names
    induction names with
    | nil => intro acc _; rfl
    | cons x r ih =>
      intro acc hn
      obtain ⟨n, k⟩ := x
      rw [List.forIn_cons]
      by_cases hk : k = .free
      · subst hk
        obtain ⟨c, ec⟩ := hn (n, .free) List.mem_cons_self rfl
        have e1 : cellOf env n = pure c := by unfold cellOf; rw [ec]
        simp only [beq_self_eq_true, if_true, e1, pure_bind]
        rw [clOf, if_pos (by simp), ec]
        exact ih _ fun y hy => hn y (List.mem_cons_of_mem _ hy)
      · have hb : (k == NameKind.free) = false := by simpa using hk
        simp only [hb, Bool.false_eq_true, if_false, pure_bind]
        rw [clOf, if_neg (by simp [hk])]
        exact ih _ fun y hy => hn y (List.mem_cons_of_mem _ hy)
  have := go scope.names [] h
  simpa using this
theorem clOf_sub (cells : List (Str × Addr)) : ∀ (names : List (Str × NameKind)) (acc : List (Str × Addr)), (∀ x ∈ names, x.2 = .free → ∃ c, cells.lookup x.1 = some c) → (∀ x c, (x, c) ∈ acc → cells.lookup x = some c) →
    ∀ x c, (x, c) ∈ clOf cells names acc → cells.lookup x = some c
  | [], acc, _, ha => ha
  | (n, k) :: r, acc, hn, ha => by
    intro x c h
    rw [clOf] at h
    split at h
    · rename_i hk
      obtain ⟨d, ed⟩ := hn (n, k) List.mem_cons_self (by simpa using hk)
      refine clOf_sub cells r _ (fun y hy => hn y (List.mem_cons_of_mem _ hy)) (fun y e hm => ?_) x c h
      rcases List.mem_cons.mp hm with z | z
      · cases z
        rw [ed]; rfl
      · exact ha y e z
    · exact clOf_sub cells r acc (fun y hy => hn y (List.mem_cons_of_mem _ hy)) ha x c h
theorem clOf_mem (cells : List (Str × Addr)) : ∀ (names : List (Str × NameKind)) (acc : List (Str × Addr)) (x : Str), ((∃ c, (x, c) ∈ acc) ∨ (x, NameKind.free) ∈ names) → ∃ c, (x, c) ∈ clOf cells names acc
  | [], acc, x, h => by
    rcases h with h | h
    · exact h
    · cases h
  | (n, k) :: r, acc, x, h => by
    rw [clOf]
    split
    · rename_i hk
      have hk' : k = .free := by simpa using hk
      subst hk'
      refine clOf_mem cells r _ x ?_
      rcases h with ⟨c, h⟩ | h
      · exact .inl ⟨c, List.mem_cons_of_mem _ h⟩
      · rcases List.mem_cons.mp h with z | z
        · cases z
          exact .inl ⟨_, List.mem_cons_self⟩
        · exact .inr z
    · rename_i hk
      refine clOf_mem cells r acc x ?_
      rcases h with h | h
      · exact .inl h
      · rcases List.mem_cons.mp h with z | z
        · cases z
          exact absurd (by simp) hk
        · exact .inr z
theorem lookup_of_mem {α : Type} {l : List (Str × α)} {x : Str} {c : α} (h : (x, c) ∈ l) : ∃ d, l.lookup x = some d := by
  induction l with
  | nil => cases h
  | cons y r ih =>
    obtain ⟨n, d⟩ := y
    rw [List.lookup_cons]
    cases e : x == n with
    | true => exact ⟨d, rfl⟩
    | false =>
      rcases List.mem_cons.mp h with z | z
      · cases z; simp at e
      · exact ih z
theorem compLoop_gen {prog : Program} {w : World} {A : Around} {R : Result → Shared → Prop} {s : Shared} {elt target iter : Expr} {ifs : List Expr} {scope : Scope} {pos : Pos} {it acc : Value} {env : PySem.Env} (I : Nat → Shared → Prop)
    (turn : ∀ n s, I n s → wpAny (model prog w) A (pyNext it) (fun r s₁ => match r with
      | none => R (.ok .next) s₁
      | some v => wpAny (model prog w) A (letOwnedTupleGo target it v) (fun _ s₁' => wpAny (model prog w) A (assign target env v) (fun _ s₂ =>
          wpAny (model prog w) A (forIn ifs true fun c r => if r = true then do let ok ← isTrue c env (eval c env); pure (ForInStep.yield ok) else pure (ForInStep.yield r)) (fun ok s₃ =>
            if ok = true then wpAny (model prog w) A (eval elt env) (fun x s₄ =>
              wpAny (model prog w) A (call (.builtin "list.append") [acc, x]) (fun _ s₅ => ∃ m, m < n ∧ I m s₅) (fun _ _ => False) s₄) (fun _ _ => False) s₃
            else ∃ m, m < n ∧ I m s₃) (fun _ _ => False) s₂) (fun _ _ => False) s₁') (fun _ _ => False) s₁) (fun _ _ => False) s)
    (n : Nat) (h : I n s) : codeAny (model prog w) A (.compLoop (.ListComp elt [⟨target, iter, ifs, 0⟩] scope pos) 0 it acc env) R s := by
  refine codeAny_loop rfl I (fun n s hI => ?_) n h
  show wpAny _ A ((compTurn (.ListComp elt [⟨target, iter, ifs, 0⟩] scope pos) 0 it acc env).onRaise (fun x => do noteFrame x env; theTreesLotGoes x)) _ _ s
  refine wpAny_noted ?_
  rw [compTurn_list]
  refine wpAny_bind (wpAny_standAt (wpAny_bind (wpAny_mono (turn n s hI) (fun r s₁ h₁ => ?_) fun _ _ h' => h'.elim)))
  cases r with
  | none => exact wpAny_pure h₁
  | some v =>
    refine wpAny_bind (wpAny_mono h₁ (fun _ s₁' h₁' => ?_) fun _ _ h' => h'.elim)
    refine wpAny_bind (wpAny_mono h₁' (fun _ s₂ h₂ => wpAny_bind (wpAny_mono h₂ (fun ok s₃ h₃ => ?_) fun _ _ h' => h'.elim)) fun _ _ h' => h'.elim)
    cases ok with
    | false => exact wpAny_pure ⟨rfl, h₃⟩
    | true =>
      exact wpAny_bind (wpAny_bind (wpAny_mono h₃ (fun x s₄ h₄ => wpAny_bind (wpAny_mono h₄ (fun _ s₅ h₅ => wpAny_pure (wpAny_pure ⟨rfl, h₅⟩)) fun _ _ h' => h'.elim)) fun _ _ h' => h'.elim))
noncomputable def cxC (X : Cx) (N' : List Str) (scope : Scope) (cl : List (Str × Addr)) (C : Addr) (s : Shared) (H : Hp) (fp : List Addr) : Cx where
  prog := X.prog
  w := X.w
  K := X.K
  mg := X.mg
  base := X.base
  A := X.A
  N := N'
  s₀ := s
  H₀ := H
  env := compEnvC scope cl C X.env
  outer := X.stack
  stack := X.stack
  ex := fp
  fn := fun _ => false
  calm := true
  pn := []
  xe := fun _ _ => False
structure Blk (X : Cx) (N' : List Str) (scope : Scope) (X' : Cx) : Prop where
  prog : X'.prog = X.prog
  w : X'.w = X.w
  K : X'.K = X.K
  mg : X'.mg = X.mg
  base : X'.base = X.base
  A : X'.A = X.A
  N : X'.N = N'
  sc : X'.env.scope = relabel scope X.env
  calm : X'.calm = true
  xe : X'.xe = fun _ _ => False
structure CScope (X : Cx) (own : List Str) (caps : List Nat) (scope : Scope) : Prop where
  kind : scope.kind = .function
  nocell : ∀ x ∈ scope.names, x.2 ≠ .cell
  locals : ∀ x ∈ scope.names, x.2 = .local → scope.names.lookup x.1 = some .local
  frees : ∀ x ∈ scope.names, x.2 = .free → X.env.kindOf x.1 = some .cell ∨ X.env.kindOf x.1 = some .free
  caps : ∀ j ∈ caps, ∃ y, X.N[j]? = some y ∧ Vis X.env.scope y ∧ scope.names.lookup y = some .free
noncomputable def namesC (X : Cx) (own : List Str) (caps : List Nat) : List Str := own ++ caps.map fun j => X.N.getD j ""
noncomputable def slotsC (own : List Str) (caps : List Nat) (σ : St) : St := List.replicate own.length none ++ caps.map fun j => σ.getD j none
theorem lookup_map {α β : Type} (f : Str × α → Str × β) (hf : ∀ n k, (f (n, k)).1 = n) : ∀ (l : List (Str × α)) (y : Str), (l.map f).lookup y = (l.lookup y).map fun k => (f (y, k)).2
  | [], _ => rfl
  | (n, k) :: r, y => by
    rw [List.map_cons]
    have e : f (n, k) = (n, (f (n, k)).2) := Prod.ext (hf n k) rfl
    rw [e, List.lookup_cons, List.lookup_cons]
    cases h : y == n with
    | true =>
      have : y = n := by simpa using h
      subst this
      rfl
    | false => exact lookup_map f hf r y
theorem relabel_lookup (scope : Scope) (env : PySem.Env) (y : Str) : (relabel scope env).names.lookup y = (scope.names.lookup y).map fun k => if (k == .free && env.scope.kind == .function && env.kindOf y == some .cell) = true then NameKind.cell else k := by
  have := lookup_map (fun (x : Str × NameKind) => match x with | (n, k) => if (k == .free && env.scope.kind == .function && env.kindOf n == some .cell) then (n, NameKind.cell) else (n, k)) (fun n k => by dsimp only; split <;> rfl) scope.names y
  refine this.trans ?_
  congr 1
  funext k
  dsimp only
  split <;> rfl
theorem relabel_free {scope : Scope} {env : PySem.Env} {y : Str} (h : scope.names.lookup y = some .free) : (relabel scope env).names.lookup y = some .cell ∨ (relabel scope env).names.lookup y = some .free := by
  rw [relabel_lookup, h]
  simp only [Option.map_some]
  split
  · exact .inl rfl
  · exact .inr rfl
theorem relabel_of {scope : Scope} {env : PySem.Env} {y : Str} (hc : ∀ x ∈ scope.names, x.2 ≠ .cell) (h : (relabel scope env).names.lookup y = some .cell ∨ (relabel scope env).names.lookup y = some .free) : scope.names.lookup y = some .free := by
  rw [relabel_lookup] at h
  cases e : scope.names.lookup y with
  | none => rw [e] at h; simp at h
  | some k =>
    rw [e] at h
    simp only [Option.map_some, Option.some.injEq] at h
    by_cases hk : k = .free
    · rw [hk]
    · have hb : (k == NameKind.free) = false := by simpa using hk
      simp only [hb, Bool.false_and, Bool.false_eq_true, if_false] at h
      rcases h with h | h
      · exact absurd h (hc (y, k) (PySem.mem_of_lookup e))
      · exact absurd h hk
theorem inv_comp {X : Cx} {pins : List (Addr × Obj)} {σ : St} {H : Hp} {s : Shared} {own : List Str} {caps : List Nat} {scope : Scope} {fp : List Addr} (I : Inv X pins σ H s) (S : CScope X own caps scope) (hcalm : X.calm = true)
    (hfp : ∀ b ∈ fp, FpOk X pins H b) (hfo : ∀ b ∈ fp, ∃ o, s.heap.get? b = some o) {h1 : Heap} {t : Nat} {m : Str → Option Value} (hns : h1.Ns s.heap.objs.size m) (hk : ∀ b o, s.heap.get? b = some o → h1.get? b = some o) :
    Inv (cxC X (namesC X own caps) scope (clOf X.env.cells scope.names []) s.heap.objs.size s H fp) [] (slotsC own caps σ) H { s with heap := h1, toks := t } := by
  have hfr : ∀ x ∈ scope.names, x.2 = .free → ∃ c, X.env.cells.lookup x.1 = some c := fun x hx e => I.ok.has x.1 (S.frees x hx e)
  have cls : ∀ x c, (clOf X.env.cells scope.names []).lookup x = some c → X.env.cells.lookup x = some c := fun x c e => clOf_sub X.env.cells scope.names [] hfr (fun _ _ h => by cases h) x c (PySem.mem_of_lookup e)
  have clh : ∀ x, scope.names.lookup x = some .free → ∃ c, (clOf X.env.cells scope.names []).lookup x = some c := fun x e => by
    obtain ⟨c, hc⟩ := clOf_mem X.env.cells scope.names [] x (.inr (PySem.mem_of_lookup e))
    exact lookup_of_mem hc
  refine ⟨⟨I.ok.mod, S.kind, I.ok.glob, I.ok.blt, Nat.le_refl _, fun x y c e1 e2 => I.ok.inj x y c (cls x c e1) (cls y c e2), fun x hx => ?_, fun x c hf _ => ?_, fun _ => I.ok.hd hcalm, I.ok.frames, .inl rfl, fun b hb => ⟨?_, fun x c e => ?_⟩, I.bs,
    Nat.le_trans I.ok.bsz I.sz, fun b o e hb => ?_, fun b hb hs => ?_, I.stack, I.stkFree⟩, rfl, I.bare, Un.kept hk, ⟨m, hns, fun i x v e1 e2 e3 => ?_⟩, fun x c e => ?_, I.hok.fresh (Nat.le_refl _), fun x c e => I.freeC x c (cls x c e), fun p hp => ?_, I.hok.kept hk, ?_⟩
  · exact clh x (relabel_of S.nocell hx)
  · exact absurd (show false = true from hf) Bool.false_ne_true
  · obtain ⟨o, eo⟩ := hfo b hb
    exact Nat.ne_of_lt (Heap.lt_size eo)
  · obtain ⟨_, _, _, _, f5, _⟩ := hfp b hb
    exact f5 x c (cls x c e)
  · obtain ⟨_, _, _, f4, _, _⟩ := hfp b hb
    rcases f4 with z | z
    · exact I.ok.noex b o e z
    · have := Heap.lt_size e
      have := I.ok.bsz
      exact absurd (Nat.lt_of_lt_of_le (Heap.lt_size e) (Nat.le_trans I.ok.bsz z)) (Nat.lt_irrefl _)
  · obtain ⟨_, f2, f3, _, _, _⟩ := hfp b hb
    rcases List.mem_cons.mp (I.stkSub b hs) with z | z
    · exact f2 z
    · exact f3 z
  · have hlen : (List.replicate own.length (none : Option V)).length = own.length := List.length_replicate
    unfold cxC namesC at e1
    dsimp only at e1
    unfold slotsC at e2
    by_cases hi : i < own.length
    · rw [List.getElem?_append_left (by rw [hlen]; exact hi), List.getElem?_replicate, if_pos hi] at e2
      cases e2
    · rw [List.getElem?_append_right (by rw [hlen]; lia), hlen, List.getElem?_map] at e2
      rw [List.getElem?_append_right (by lia), List.getElem?_map] at e1
      cases ec : caps[i - own.length]? with
      | none => rw [ec] at e2; cases e2
      | some j =>
        rw [ec] at e1 e2
        simp only [Option.map_some, Option.some.injEq] at e1 e2
        obtain ⟨y, ey, vy, fy⟩ := S.caps j (List.mem_of_getElem? ec)
        have eyx : y = x := by rw [← e1, List.getD_eq_getElem?_getD, ey]; rfl
        subst eyx
        have eσ : σ[j]? = some (some v) := by
          rw [List.getD_eq_getElem?_getD] at e2
          cases q : σ[j]? with
          | none => rw [q] at e2; cases e2
          | some o => rw [q] at e2; exact congrArg some e2
        obtain ⟨m0, hn0, hl0⟩ := I.loc
        obtain ⟨u, ru, lk⟩ := hl0 j y v ey eσ vy
        refine ⟨u, ru, .inr ⟨?_, ?_⟩⟩
        · exact relabel_free fy
        · have hfk := S.frees (y, .free) (PySem.mem_of_lookup fy) rfl
          obtain ⟨c, hc⟩ := clh y fy
          rcases lk with ⟨k1, _⟩ | ⟨_, d, hd, hcell⟩
          · dsimp only at hfk
            rcases hfk with z | z <;> (rw [k1] at z; cases z)
          · have : c = d := Option.some.inj ((cls y c hc).symm.trans hd)
            subst this
            exact ⟨c, hc, hcell.keeps hk⟩
  · obtain ⟨v, hv⟩ := I.cell x c (cls x c e)
    exact ⟨v, hv.keeps hk⟩
  · exact absurd (show p ∈ ([] : List (Addr × Obj)) from hp) (by simp)
  · unfold slotsC
    show _ = (namesC X own caps).length
    unfold namesC
    simp
end DD
set_option Elab.async false
set_option linter.all false
set_option maxRecDepth 100000
namespace DD
open PySem PySem.Spec PyProof.Rows L2
structure Walk (K : PySem.W.Frag) (J : It) (G : Hp) (xs : List PV) : Prop where
  len : xs.length ≤ 16777216
  go : ∀ i H, Sub G H → i < xs.length → J.go i H
  yld : ∀ i H x H', Sub G H → i < xs.length → J.yld i H x H' → ∃ p, xs[i]? = some p ∧ ((H' = H ∧ Rp K G p x) ∨ ∃ a vs ps, x = V.ref a ∧ H a = none ∧ H' = L2.upd H a (.tup vs) ∧ p = .tuple ps ∧ RpL K G ps vs)
  stop : ∀ i H, Sub G H → xs.length ≤ i → J.stop i H
theorem Walk.step {K : PySem.W.Frag} {J : It} {G G1 H H' : Hp} {xs : List PV} {i : Nat} {x : V} (wk : Walk K J G xs) (s : Sub G G1) (sh : Sub G1 H) (hi : i < xs.length) (y : J.yld i H x H') : ∃ G2 p, Ext G1 H G2 H' ∧ xs[i]? = some p ∧ Rp K G2 p x := by
  obtain ⟨p, ep, ⟨rfl, r⟩ | ⟨a, vs, ps, rfl, ha, rfl, rfl, r⟩⟩ := wk.yld i H x H' (s.trans sh) hi y
  · exact ⟨G1, p, .refl sh, ep, r.mono s⟩
  · exact ⟨_, _, Ext.new sh ha _, ep, a, vs, rfl, SqT.of upd_same, r.mono (s.trans (.new (sh.fresh ha) _))⟩
theorem walk_list {K : PySem.W.Frag} {G : Hp} {a : Addr} {ps : List PV} {vs : List V} (q : SqL K G a vs) (r : RpL K G ps vs) (hz : vs.length ≤ sizeLine) : Walk K (Itl K a) G ps where
  len := by rw [r.length, ← line_eq]; exact hz
  go := fun i H s hi => ⟨vs, vs[i]'(by rw [← r.length]; exact hi), s.sqL q, List.getElem?_eq_getElem _⟩
  yld := fun i H x H' s hi y => by
    obtain ⟨e, y⟩ := y
    obtain ⟨p, e1, _, e2⟩ := r.getV (y vs (s.sqL q))
    exact ⟨p, e1, .inl ⟨e, e2⟩⟩
  stop := fun i H s hi => ⟨vs, s.sqL q, by rw [← r.length]; exact hi⟩
theorem walk_tup {K : PySem.W.Frag} {G : Hp} {a : Addr} {ps : List PV} {vs : List V} (q : SqT K G a vs) (r : RpL K G ps vs) (hz : vs.length ≤ sizeLine) : Walk K (Itt K a) G ps where
  len := by rw [r.length, ← line_eq]; exact hz
  go := fun i H s hi => ⟨vs, vs[i]'(by rw [← r.length]; exact hi), s.sqT q, List.getElem?_eq_getElem _⟩
  yld := fun i H x H' s hi y => by
    obtain ⟨e, y⟩ := y
    obtain ⟨p, e1, _, e2⟩ := r.getV (y vs (s.sqT q))
    exact ⟨p, e1, .inl ⟨e, e2⟩⟩
  stop := fun i H s hi => ⟨vs, s.sqT q, by rw [← r.length]; exact hi⟩
theorem walk_rng {K : PySem.W.Frag} {G : Hp} (lo : Int) (n : Nat) (hn : n ≤ 16777216) : Walk K (Itr lo n) G ((List.range n).map fun k => .int (lo + (k : Nat))) where
  len := by simpa using hn
  go := fun i H s hi => by
    have : i < n := by simpa using hi
    exact this
  yld := fun i H x H' s hi y => by
    obtain ⟨e, y⟩ := y
    have hi' : i < n := by simpa using hi
    exact ⟨.int (lo + (i : Nat)), by simp [hi'], .inl ⟨e, y⟩⟩
  stop := fun i H s hi => by
    have : n ≤ i := by simpa using hi
    exact this
noncomputable def tI (cf : CF) (K : PySem.W.Frag) (ie : E) : TI := fun σ H R => ∃ G ρ p xs, SR K G H σ ρ ∧ evE cf ie ρ = some p ∧ seqOf p = some xs ∧ ∀ J G' H', Ext G H G' H' → Walk K J G' xs → R J H'
section
variable {X : Cx} {cf : CF} {tg : Expr}
theorem _root_.L2.PI.weak {e : Expr} {t t' : TI} (h : PI X tg e t) (w : ∀ σ H Q, t' σ H Q → t σ H Q) : PI X tg e t' := fun pins s σ H Q I q => h pins s σ H Q I (w σ H Q q)
theorem pi_seq {l : Expr} {tl : TE} (hl : PE X l tl) : PI X tg l (fun σ H R => tl σ H fun x H1 => ∃ a, x = .ref a ∧ ((∃ xs, SqL X.K H1 a xs ∧ (xs.length ≤ sizeLine → R (Itl X.K a) H1)) ∨ ∃ xs, SqT X.K H1 a xs ∧ (xs.length ≤ sizeLine → R (Itt X.K a) H1))) := by
  intro pins s σ H R I h
  refine thn (hl pins s σ H _ I h) fun v s1 ⟨x, H1, I1, r1, q1⟩ => ?_
  obtain ⟨a, e, q⟩ := q1
  subst e
  cases r1
  rcases q with ⟨xs, hq, q⟩ | ⟨xs, hq, q⟩
  · obtain ⟨its, rv, p, hz⟩ := I1.list hq
    refine wpAny_pyIter_list p.isList ?_
    refine ⟨s1.heap.objs.size, [s1.heap.objs.size], _, _, H1, rfl, I1.kept (t' := s1.toks) fun b o e => Heap.get?_push_of_some _ e, turn_list a _, ⟨_, Heap.get?_push_size _ rfl, rfl, rfl⟩, fun b hb => ?_, q hz⟩
    have e : b = s1.heap.objs.size := by simpa using hb
    subst e
    exact I1.fpOk (Nat.le_refl _) (I1.hok.fresh (Nat.le_refl _))
  · obtain ⟨its, rv, p, hz⟩ := I1.tuple hq
    refine wpAny_pyIter_tuple (show s1.heap.IsTuple a its.toArray from p) ?_
    refine ⟨s1.heap.objs.size, [s1.heap.objs.size], _, _, H1, rfl, I1.kept (t' := s1.toks) fun b o e => Heap.get?_push_of_some _ e, turn_tuple a _, ⟨_, Heap.get?_push_size _ rfl, rfl, rfl⟩, fun b hb => ?_, q hz⟩
    have e : b = s1.heap.objs.size := by simpa using hb
    subst e
    exact I1.fpOk (Nat.le_refl _) (I1.hok.fresh (Nat.le_refl _))
theorem it_seq {ie : E} {e : Expr} (h : PE X e (tE cf X.K ie)) (hk : isPeek ie = false) : PI X tg e (tI cf X.K ie) :=
  (pi_seq h).weak fun σ H R ⟨G, ρ, p, xs, S, e1, e2, k⟩ => by
    refine ⟨G, ρ, p, S, e1, fun v G' H' x r => ?_⟩
    have r' := r.rp hk
    cases p with
    | list ps =>
      have e3 : ps = xs := Option.some.inj e2
      subst e3
      obtain ⟨a, vs, rfl, q, rr⟩ := (show ∃ a vs, v = V.ref a ∧ SqL X.K G' a vs ∧ RpL X.K G' ps vs from r')
      exact ⟨a, rfl, .inl ⟨vs, x.gh.sqL q, fun hz => k _ G' H' x (walk_list q rr hz)⟩⟩
    | tuple ps =>
      have e3 : ps = xs := Option.some.inj e2
      subst e3
      obtain ⟨a, vs, rfl, q, rr⟩ := (show ∃ a vs, v = V.ref a ∧ SqT X.K G' a vs ∧ RpL X.K G' ps vs from r')
      exact ⟨a, rfl, .inr ⟨vs, x.gh.sqT q, fun hz => k _ G' H' x (walk_tup q rr hz)⟩⟩
    | _ => cases e2
theorem it_rng {ia : E} {a : Expr} {p pos : Pos} (ha : PE X a (tE cf X.K ia)) (hk : isPeek ia = false) (hs : plainE a = true) (hg : Gl X "range") (hm : X.mg "range" = none) : PI X tg (.Call (.Name "range" p) [a] [] pos) (tI cf X.K (.rng ia)) :=
  (pi_range1 hg hm (pa_cons ha pa_nil (star_of hs _ _)) (star_of hs _ _)).weak fun σ H R ⟨G, ρ, q, xs, S, e1, e2, k⟩ => by
    obtain ⟨x, ex, er⟩ := bnd_eq.mp (show bnd (evE cf ia ρ) (fun x => rngI (.int 0) x) = some q from e1)
    refine ⟨G, ρ, x, S, ex, fun v G1 H1 x1 r1 => ?_⟩
    have r' := r1.rp hk
    cases x with
    | int n =>
      cases (show v = .int n from r')
      have er' : (if -1000000 ≤ (0 : Int) ∧ (0 : Int) ≤ 1000000 ∧ -1000000 ≤ n ∧ n ≤ 1000000 then some (PyData.list ((List.range (n - 0).toNat).map fun k => .int (0 + (k : Nat)))) else none) = some q := er
      by_cases hc : -1000000 ≤ (0 : Int) ∧ (0 : Int) ≤ 1000000 ∧ -1000000 ≤ n ∧ n ≤ 1000000
      · rw [if_pos hc] at er'
        cases er'
        cases (show some ((List.range (n - 0).toNat).map fun k => PyData.int (0 + (k : Nat))) = some xs from e2)
        refine ⟨n, rfl, by lia, by lia, k _ G1 H1 x1 ?_⟩
        have := walk_rng (K := X.K) (G := G1) 0 n.toNat (by lia)
        rw [Int.sub_zero]
        exact this
      · rw [if_neg hc] at er'; cases er'
    | _ => simp [rngI] at er
end
noncomputable def bindV (K : PySem.W.Frag) : Option Nat → V → Hp → (List V → Prop) → Prop
  | none, v, _, P => P [v]
  | some n, v, H, P => ∃ a xs, v = .ref a ∧ SqT K H a xs ∧ xs.length = n ∧ P xs
structure BlkOk (X : Cx) (cf : CF) (own : List Str) (caps : List Nat) (scope : Scope) (tg : Option Nat) (target : Expr) (ifs : List Expr) (elt : Expr) (icond ielt : E) : Prop where
  tgt : ∀ X', Blk X (namesC X own caps) scope X' → PG X' target fun v σ H Q => own.length ≤ σ.length ∧ bindV X.K tg v H fun vs => vs.length = own.length ∧ Q (vs.map some ++ σ.drop own.length) H
  tst : ∀ X', Blk X (namesC X own caps) scope X' → ∀ (pins : List (Addr × Obj)) (s : Shared) (σ : St) (H : Hp) (Q : Bool → Hp → Prop), Inv X' pins σ H s → tT cf X.K icond σ H Q →
    wpAny (model X.prog X.w) X.A (forIn ifs true fun c r => if r = true then do let ok ← isTrue c X'.env (eval c X'.env); pure (ForInStep.yield ok) else pure (ForInStep.yield r)) (TP X' pins σ Q) (fun _ _ => False) s
  elt : ∀ X', Blk X (namesC X own caps) scope X' → PE X' elt (tE cf X.K ielt)
theorem nodup_at {α : Type} {N : List α} (hN : N.Nodup) {i j : Nat} {x : α} (a : N[i]? = some x) (b : N[j]? = some x) : i = j := by
  obtain ⟨h1, e1⟩ := List.getElem?_eq_some_iff.mp a
  obtain ⟨h2, e2⟩ := List.getElem?_eq_some_iff.mp b
  exact (List.getElem_inj hN).mp (e1.trans e2.symm)
theorem SR.block {K : PySem.W.Frag} {G H : Hp} {σ : St} {ρ : Env} {caps : List Nat} {ps : List PV} {vs : List V} (S : SR K G H σ ρ) (hd : caps.Nodup) (r : RpA K G ps vs) :
    SR K G H (vs.map some ++ caps.map fun j => σ.getD j none) (ps.map Sl.val ++ caps.map fun j => ρ.getD j .un) := by
  have hl := r.length
  refine ⟨by simp [hl], S.sub, fun i sl o e1 e2 => ?_, fun i j si sj a hij e1 e2 o1 o2 e3 e4 => ?_⟩
  · by_cases hi : i < ps.length
    · rw [List.getElem?_append_left (by simpa using hi), List.getElem?_map] at e1
      rw [List.getElem?_append_left (by simp; lia), List.getElem?_map] at e2
      cases q : ps[i]? with
      | none => rw [q] at e1; cases e1
      | some p =>
        rw [q] at e1
        cases e1
        obtain ⟨v, ev, rv⟩ := r.get q
        rw [ev] at e2
        cases e2
        exact ⟨v, rfl, rv⟩
    · rw [List.getElem?_append_right (by simpa using hi), List.getElem?_map] at e1
      rw [List.getElem?_append_right (by simp; lia), List.getElem?_map] at e2
      rw [List.length_map] at e1 e2
      rw [← hl] at e2
      cases q : caps[i - ps.length]? with
      | none => rw [q] at e1; cases e1
      | some j =>
        rw [q] at e1 e2
        simp only [Option.map_some, Option.some.injEq] at e1 e2
        rw [List.getD_eq_getElem?_getD] at e1 e2
        cases qr : ρ[j]? with
        | none => rw [qr] at e1; cases e1; trivial
        | some sl' =>
          rw [qr] at e1
          obtain ⟨o', eo, so⟩ := S.at qr
          rw [eo] at e2
          cases e1; cases e2
          exact so
  · have pick : ∀ (m : Nat) (sl : Sl), (ps.map Sl.val ++ caps.map fun j => ρ.getD j .un)[m]? = some sl → isOwn sl = true → ps.length ≤ m ∧ ∃ c, caps[m - ps.length]? = some c ∧ ρ[c]? = some sl := fun m sl e h => by
      by_cases hm : m < ps.length
      · rw [List.getElem?_append_left (by simpa using hm), List.getElem?_map] at e
        cases q : ps[m]? with
        | none => rw [q] at e; cases e
        | some p => rw [q] at e; cases e; cases h
      · rw [List.getElem?_append_right (by simpa using hm), List.getElem?_map, List.length_map] at e
        cases q : caps[m - ps.length]? with
        | none => rw [q] at e; cases e
        | some c =>
          rw [q] at e
          simp only [Option.map_some, Option.some.injEq] at e
          rw [List.getD_eq_getElem?_getD] at e
          cases qr : ρ[c]? with
          | none => rw [qr] at e; cases e; cases h
          | some sl' => rw [qr] at e; cases e; exact ⟨by lia, c, rfl, qr⟩
    obtain ⟨l1, c1, q1, r1⟩ := pick i si e1 o1
    obtain ⟨l2, c2, q2, r2⟩ := pick j sj e2 o2
    have hne : c1 ≠ c2 := fun z => by
      subst z
      have := nodup_at hd q1 q2
      lia
    have rd : ∀ (m c : Nat), ps.length ≤ m → caps[m - ps.length]? = some c → (vs.map some ++ caps.map fun j => σ.getD j none)[m]? = some (some (.ref a)) → σ[c]? = some (some (.ref a)) := fun m c lm qc e => by
      rw [List.getElem?_append_right (by simp; lia), List.getElem?_map, List.length_map, ← hl, qc] at e
      simp only [Option.map_some, Option.some.injEq] at e
      rw [List.getD_eq_getElem?_getD] at e
      cases q : σ[c]? with
      | none => rw [q] at e; cases e
      | some o => rw [q] at e; exact congrArg some e
    exact S.apart c1 c2 si sj a hne r1 r2 o1 o2 (rd i c1 l1 q1 e3) (rd j c2 l2 q2 e4)
end DD
set_option Elab.async false
set_option linter.all false
set_option maxRecDepth 100000
namespace DD
open PySem PySem.Spec PyProof.Rows L2
section
variable {prog : Program} {w : World} {A : Around} {E : Value → Shared → Prop} {s : Shared}
end
section
variable {X : Cx} {pins : List (Addr × Obj)} {σ : St} {H : Hp} {s : Shared} {h' : Heap}
end
section
variable {X : Cx} {cf : CF}
end
end DD
set_option Elab.async false
set_option linter.all false
set_option maxRecDepth 100000
namespace DD
open PySem PySem.Spec PyProof.Rows L2
theorem compF_cons {g : PV → Option (Option PV)} {x : PV} {xs rs : List PV} (h : compF g (x :: xs) = some rs) : ∃ o t, g x = some o ∧ compF g xs = some t ∧ rs = addO o t := by
  unfold compF at h
  obtain ⟨o, e1, e2⟩ := bnd_eq.mp h
  obtain ⟨t, e3, e4⟩ := bnd_eq.mp e2
  cases e4
  exact ⟨o, t, e1, e3, rfl⟩
theorem Ext.mut {G0 H0 G H : Hp} (x : Ext G0 H0 G H) {a : Addr} (h0 : H0 a = none) (hg : G a = none) (o : HO) : Ext G0 H0 G (L2.upd H a o) := by
  refine ⟨fun b u q => ?_, x.gg, fun b u q => ?_, x.old⟩
  · rw [upd_ne (ne_of_none q h0)]; exact x.hh b u q
  · rw [upd_ne (ne_of_none q hg)]; exact x.gh b u q
theorem foldedSet_of {iter : Expr} {env : PySem.Env} (h : (match iter with | .Set .. => false | _ => true) = true) : ∀ x, foldedSetIterable iter env x = pure x := by
  intro x
  cases iter <;> first | rfl | exact absurd h Bool.false_ne_true
noncomputable def turnC (cf : CF) (tg : Option Nat) (capρ : Env) (icond ielt : E) : PV → Option (Option PV) := fun x =>
  bnd (bindT tg x) fun bs => bnd (evE cf icond (bs ++ capρ)) fun c => bnd (truthF c) fun t => DD.tst t (bnd (evE cf ielt (bs ++ capρ)) eltF) (some none)
theorem turnC_inv {cf : CF} {tg : Option Nat} {capρ : Env} {icond ielt : E} {x : PV} {o : Option PV} (h : turnC cf tg capρ icond ielt x = some o) :
    ∃ ps c t, bindT tg x = some (ps.map Sl.val) ∧ ((tg = none ∧ ps = [x]) ∨ (∃ n, tg = some n ∧ x = .tuple ps ∧ ps.length = n)) ∧ evE cf icond (ps.map Sl.val ++ capρ) = some c ∧ truthF c = some t ∧
      (t = true → ∃ y, evE cf ielt (ps.map Sl.val ++ capρ) = some y ∧ o = some y ∧ isDict y = false) ∧ (t = false → o = none) := by
  unfold turnC at h
  obtain ⟨bs, e1, h⟩ := bnd_eq.mp h
  obtain ⟨c, e2, h⟩ := bnd_eq.mp h
  obtain ⟨t, e3, h⟩ := bnd_eq.mp h
  have hb : ∃ ps, bs = ps.map Sl.val ∧ ((tg = none ∧ ps = [x]) ∨ (∃ n, tg = some n ∧ x = .tuple ps ∧ ps.length = n)) := by
    cases tg with
    | none =>
      cases (show some [Sl.val x] = some bs from e1)
      exact ⟨[x], rfl, .inl ⟨rfl, rfl⟩⟩
    | some n =>
      cases x with
      | tuple xs =>
        have e1' : (if xs.length = n then some (xs.map Sl.val) else none) = some bs := e1
        by_cases hl : xs.length = n
        · rw [if_pos hl] at e1'
          cases e1'
          exact ⟨xs, rfl, .inr ⟨n, rfl, rfl, hl⟩⟩
        · rw [if_neg hl] at e1'; cases e1'
      | _ => cases (show none = some bs from e1)
  obtain ⟨ps, rfl, hp⟩ := hb
  refine ⟨ps, c, t, e1, hp, e2, e3, fun ht => ?_, fun ht => ?_⟩
  · subst ht
    obtain ⟨y, e4, e5⟩ := bnd_eq.mp (show bnd (evE cf ielt (ps.map Sl.val ++ capρ)) eltF = some o from h)
    obtain ⟨hd, e6⟩ := tst_none (show DD.tst (isDict y) none (some (some y)) = some o from e5)
    cases e6
    exact ⟨y, e4, rfl, hd⟩
  · subst ht
    cases (show some none = some o from h)
    rfl
section
variable {X : Cx} {cf : CF}
theorem comp_block {own : List Str} {caps : List Nat} {scope : Scope} {tg : Option Nat} {target iter elt : Expr} {ifs : List Expr} {icond ielt : E} {pos : Pos} {cl : List (Str × Addr)} {C D it : Addr} {s3 s4 : Shared} {fp : List Addr} {tn : Nat → Heap → Prop} {J : It}
    {G2 H2 : Hp} {σ : St} {ρ : Env} {xs rs : List PV} {R : Result → Shared → Prop} (hcd : caps.Nodup) (hown : own.length = tg.getD 1) (hpk : isPeek ielt = false) (T : Turn X.prog X.w X.K target J fp it tn) (wk : Walk X.K J G2 xs)
    (B : BlkOk X cf own caps scope tg target ifs elt icond ielt) (S : SR X.K G2 H2 σ ρ) (hDn : H2 D = none) (fpD : ∀ b ∈ fp, b ≠ D) (f2 : ∀ b ∈ fp, H2 b = none)
    (fpk : ∀ (H : Hp) (b : Addr), b ∈ fp → H b = none → FpOk (cxC X (namesC X own caps) scope cl C s3 (upd H2 D (.lst [])) fp) [] H b)
    (I4 : Inv (cxC X (namesC X own caps) scope cl C s3 (upd H2 D (.lst [])) fp) [] (slotsC own caps σ) (upd H2 D (.lst [])) s4) (st4 : tn 0 s4.heap)
    (e3 : compF (turnC cf tg (caps.map fun j => ρ.getD j .un) icond ielt) xs = some rs)
    (fin : ∀ s' σ' H' G' ys, Inv (cxC X (namesC X own caps) scope cl C s3 (upd H2 D (.lst [])) fp) [] σ' H' s' → Ext G2 H2 G' H' → H' D = some (.lst ys) → G' D = none → RpL X.K G' rs ys → R (.ok .next) s') :
    codeAny (model X.prog X.w) X.A (.compStart (.ListComp elt [⟨target, iter, ifs, 0⟩] scope pos) 0 (.ref it) (.ref D) (compEnvC scope cl C X.env)) R s4 := by
  generalize hX : cxC X (namesC X own caps) scope cl C s3 (upd H2 D (.lst [])) fp = X' at I4 fin fpk
  have hprog : X'.prog = X.prog := by rw [← hX]; rfl
  have hw : X'.w = X.w := by rw [← hX]; rfl
  have hK : X'.K = X.K := by rw [← hX]; rfl
  have hA : X'.A = X.A := by rw [← hX]; rfl
  have henv : X'.env = compEnvC scope cl C X.env := by rw [← hX]; rfl
  have hcalm : X'.calm = true := by rw [← hX]; rfl
  have hxe : X'.xe = fun _ _ => False := by rw [← hX]; rfl
  have blk : Blk X (namesC X own caps) scope X' := ⟨hprog, hw, hK, by rw [← hX]; rfl, by rw [← hX]; rfl, hA, by rw [← hX]; rfl, by rw [← hX]; rfl, hcalm, hxe⟩
  have hDO : ∀ (i : Nat) (ps : List PV), ρ[i]? = some (Sl.own ps) → σ[i]? ≠ some (some (V.ref D)) := fun i ps e z => by
    obtain ⟨o, eo, a, vs, rfl, h1, _⟩ := S.at e
    rw [eo] at z
    cases z
    rw [hDn] at h1; cases h1
  have loop : codeAny (model X.prog X.w) X.A (.compLoop (.ListComp elt [⟨target, iter, ifs, 0⟩] scope pos) 0 (.ref it) (.ref D) (compEnvC scope cl C X.env)) R s4 := by
    refine compLoop_gen (fun n s' => ∃ i σ' H' G' ys rs' tl, n = xs.length - i ∧ i ≤ xs.length ∧ Inv X' [] σ' H' s' ∧ tn i s'.heap ∧ (∀ b ∈ fp, H' b = none) ∧ Ext G2 H2 G' H' ∧ H' D = some (.lst ys) ∧ G' D = none ∧ RpL X.K G' rs' ys ∧ ys.length ≤ i ∧
      compF (turnC cf tg (caps.map fun j => ρ.getD j .un) icond ielt) (xs.drop i) = some tl ∧ rs = rs' ++ tl ∧ own.length ≤ σ'.length ∧ σ'.drop own.length = caps.map fun j => σ.getD j none) ?_ xs.length ?_
    · rintro n s' ⟨i, σ', H', G', ys, rs', tl, rfl, hi, I', st', fr', x', hD', gD', r', hly, et, er, hol, hσ⟩
      by_cases hlt : i < xs.length
      · have hx : xs.drop i = xs[i] :: xs.drop (i + 1) := List.drop_eq_getElem_cons hlt
        rw [hx] at et
        obtain ⟨o, t', eo, et', rfl⟩ := compF_cons et
        have step := T.item X' hprog hw hK hcalm i [] s' σ' H' (fun _ _ => False) I' (fun b hb => fpk H' b hb (fr' b hb)) st' (wk.go i H' (x'.gg.trans x'.gh) hlt)
        rw [hA] at step
        refine thn step fun r s5 ⟨u, hr, h5⟩ => ?_
        subst hr
        refine thn h5 fun _ s6 ⟨x, H6, I6, rx, y6, st6, fr6⟩ => ?_
        obtain ⟨G6, px, x6, epx, rpx⟩ := wk.step x'.gg x'.gh hlt y6
        replace x' := x'.trans x6
        replace gD' := (x6.old _ _ hD').trans gD'
        replace hD' := x6.hh _ _ hD'
        replace r' := r'.mono x6.gg
        have epx' : xs[i] = px := by rw [List.getElem?_eq_getElem hlt] at epx; exact Option.some.inj epx
        subst epx'
        obtain ⟨ps, c, t, eb, hp, ec, ett, hyes, hno⟩ := turnC_inv eo
        have I6' := I6.pinned (fun b hb => fpk H6 b hb (fr6 b hb)) (T.obj _ _ st6)
        -- what stays true of the iterator behind code that keeps the pins
        have keepT : ∀ {σa : St} {Ha : Hp} {sa : Shared}, Inv X' ([] ++ pinsAt fp s6.heap) σa Ha sa → tn (i + 1) sa.heap ∧ ∀ b ∈ fp, Ha b = none := fun {σa Ha sa} Ia => by
          refine ⟨T.keep _ _ _ st6 fun b hb o e => (Ia.pin (b, o) (List.mem_append_right _ (List.mem_append_right _ (mem_pinsAt hb e)))).1, fun b hb => ?_⟩
          obtain ⟨o, e, d⟩ := T.obj _ _ st6 b hb
          exact (Ia.pin (b, o) (List.mem_append_right _ (List.mem_append_right _ (mem_pinsAt hb e)))).2.1
        have hbind : ∃ vs, RpA X.K G6 ps vs ∧ vs.length = own.length ∧ ∀ P : List V → Prop, P vs → bindV X.K tg x H6 P := by
          rcases hp with ⟨rfl, rfl⟩ | ⟨m, rfl, hpx, hm⟩
          · exact ⟨[x], .cons rpx .nil, by rw [hown]; rfl, fun P h => h⟩
          · rw [hpx] at rpx
            obtain ⟨a, vs, rfl, qa, ra⟩ := (show ∃ a vs, x = V.ref a ∧ SqT X.K G6 a vs ∧ RpL X.K G6 ps vs from rpx)
            refine ⟨vs, ra.args, by rw [hown, ← ra.length]; exact hm, fun P h => ⟨a, vs, rfl, x6.gh.sqT qa, by rw [← ra.length]; exact hm, h⟩⟩
        obtain ⟨vs, rvs, lvs, hb⟩ := hbind
        have asg := B.tgt X' blk _ s6 σ' H6 x u (fun σ7 H7 => σ7 = vs.map some ++ caps.map (fun j => σ.getD j none) ∧ H7 = H6) I6' rx ⟨hol, hb _ ⟨lvs, by rw [hσ], rfl⟩⟩
        rw [hprog, hw, hA, henv, hxe] at asg
        refine thn asg fun _ s7 ⟨σ7, H7, I7, hσ7, hH7⟩ => ?_
        subst hσ7 hH7
        have Sb : SR X.K G6 H7 (vs.map some ++ caps.map fun j => σ.getD j none) (ps.map Sl.val ++ caps.map fun j => ρ.getD j .un) := (S.ext x').block hcd rvs
        have tst := B.tst X' blk _ s7 _ H7 (fun b H8 => b = t ∧ ∃ G8, Ext G6 H7 G8 H8) I7 ⟨G6, _, c, t, Sb, ec, ett, fun G8 H8 x8 => ⟨rfl, G8, x8⟩⟩
        rw [henv] at tst
        refine thn tst fun b s8 ⟨H8, I8, hbt, G8, x8⟩ => ?_
        subst hbt
        have hD8 : H8 D = some (.lst ys) := x8.hh _ _ hD'
        have gD8 : G8 D = none := (x8.old _ _ hD').trans gD'
        have hdrop : (vs.map some ++ caps.map fun j => σ.getD j none).drop own.length = caps.map fun j => σ.getD j none := by
          have : (vs.map some : St).length = own.length := by rw [List.length_map]; exact lvs
          rw [← this, List.drop_left]
        have hlen7 : own.length ≤ (vs.map some ++ caps.map fun j => σ.getD j none : St).length := by
          rw [List.length_append, List.length_map, lvs]; exact Nat.le_add_right _ _
        cases b with
        | false =>
          rw [if_neg Bool.false_ne_true]
          obtain ⟨k1, k2⟩ := keepT I8
          refine ⟨xs.length - (i + 1), by lia, i + 1, _, H8, G8, ys, rs', t', rfl, hlt, I8.unpinned, k1, k2, x'.trans x8, hD8, gD8, r'.mono x8.gg, by lia, et', ?_, hlen7, hdrop⟩
          rw [er, hno rfl]; rfl
        | true =>
          rw [if_pos rfl]
          obtain ⟨y, ey, hoy, hyd⟩ := hyes rfl
          have el := B.elt X' blk _ s8 _ H8 (fun v H9 => ∃ G9, Ext G8 H8 G9 H9 ∧ Rp X.K G9 y v) I8 ⟨G8, _, y, Sb.ext x8, ey, fun v G9 H9 x9 r9 => ⟨G9, x9, r9.rp hpk⟩⟩
          rw [hprog, hw, hA, henv, hxe] at el
          refine thn el fun w9 s9 ⟨v, H9, I9, rv, G9, x9, ry⟩ => ?_
          have hD9 : H9 D = some (.lst ys) := x9.hh _ _ hD8
          have gD9 : G9 D = none := (x9.old _ _ hD8).trans gD8
          have ap := mt_append (X := X') _ s9 _ H9 (.ref D) [v] (.ref D) [w9] (fun _ H10 => H10 = upd H9 D (.lst (ys ++ [v]))) I9 rfl (.cons rv .nil) ⟨D, ys, v, rfl, rfl, hD9, by have := wk.len; rw [line_eq]; lia, rfl⟩
          rw [hprog, hw, hA, hxe] at ap
          refine thn ap fun _ s10 ⟨_, H10, I10, _, h10⟩ => ?_
          subst h10
          obtain ⟨k1, k2⟩ := keepT I10
          refine ⟨xs.length - (i + 1), by lia, i + 1, _, _, G9, ys ++ [v], rs' ++ [y], t', rfl, hlt, I10.unpinned, k1, k2, (x'.trans (x8.trans x9)).mut hDn gD9 _, upd_same, gD9, ((r'.mono x8.gg).mono x9.gg).append (.one hyd ry), by simp; lia, et', ?_, hlen7, hdrop⟩
          rw [er, hoy, List.append_assoc]; rfl
      · have hie : i = xs.length := by lia
        subst hie
        have done := T.done X' hprog hw hK hcalm xs.length [] s' σ' H' (fun _ _ => False) I' (fun b hb => fpk H' b hb (fr' b hb)) st' (wk.stop _ H' (x'.gg.trans x'.gh) (Nat.le_refl _))
        rw [hA] at done
        refine thn done fun r s5 ⟨hr, I5⟩ => ?_
        subst hr
        rw [List.drop_length] at et
        cases (show some [] = some tl from et)
        rw [List.append_nil] at er
        subst er
        exact fin s5 σ' H' G' ys I5 x' hD' gD' r'
    · refine ⟨0, _, _, G2, [], [], rs, by simp, Nat.zero_le _, I4, st4, fun b hb => ?_, ?_, upd_same, S.sub.fresh hDn, .nil, Nat.le_refl _, by simpa using e3, rfl, ?_, ?_⟩
      · rw [upd_ne (fpD b hb)]; exact f2 b hb
      · exact (Ext.refl S.sub).mut hDn (S.sub.fresh hDn) _
      · unfold slotsC; simp
      · unfold slotsC
        exact List.drop_left' List.length_replicate
  refine codeAny_compStart_list loop (T.self X.A 0 s4 _ _ st4 loop)
theorem Ext.frz {G0 H0 G H : Hp} (x : Ext G0 H0 G H) {a : Addr} {o : HO} (h0 : H0 a = none) (hg : G a = none) (hh : H a = some o) : Ext G0 H0 (L2.upd G a o) H := by
  refine ⟨x.hh, fun b u q => ?_, fun b u q => ?_, fun b u q => ?_⟩
  · have := x.gg b u q
    rw [upd_ne (ne_of_none this hg)]; exact this
  · by_cases e : b = a
    · subst e; rw [upd_same] at q; cases q; exact hh
    · rw [upd_ne e] at q; exact x.gh b u q
  · rw [upd_ne (ne_of_none q h0)]; exact x.old b u q
theorem inv_back {pins : List (Addr × Obj)} {σ σ' : St} {H3 H' : Hp} {s3 s' : Shared} {N' : List Str} {scope : Scope} {cl : List (Str × Addr)} {fp : List Addr} {h'' : Heap} (I3 : Inv X pins σ H3 s3)
    (I' : Inv (cxC X N' scope cl s3.heap.objs.size s3 H3 fp) [] σ' H' s') (hs : Heap.SameBut s3.heap.objs.size s'.heap h'') (hfp : ∀ b ∈ fp, FpOk X pins H3 b) : Inv X pins σ H' { s' with heap := h'' } := by
  have ne : ∀ b o, s3.heap.get? b = some o → b ≠ s3.heap.objs.size := fun b o e => Nat.ne_of_lt (Heap.lt_size e)
  have B : Un (frs X.stack) fp H3 H' s3.heap s'.heap := I'.base
  refine I3.call' (s' := { s' with heap := h'' }) (ch := fp) I'.os ⟨fun b o e n hb hx => ?_, fun b o e n hb hx => ?_, B.free, fun b o e hx => ?_, B.tups, B.frzs, B.tbls⟩ (fun b ob e => ?_) I'.bare (fun b hb => ?_)
  · exact (hs.2 b (ne b o e)).trans (B.keep b o e n hb hx)
  · obtain ⟨sl, e1⟩ := B.slot b o e n hb hx
    exact ⟨sl, (hs.2 b (ne b o e)).trans e1⟩
  · obtain ⟨o', e1⟩ := B.there b o e hx
    exact ⟨o', (hs.2 b (ne b o e)).trans e1⟩
  · refine (I'.hok b ob e).stay (fun c w' hc q => (hs.2 c ?_).trans q) (fun _ q => q) fun _ _ q => q
    rintro rfl
    have hfree : H' s3.heap.objs.size = none := I'.free
    rcases hc with rfl | hc
    · rw [hfree] at e; cases e
    · rw [hfree] at hc; cases hc
  · obtain ⟨_, a2, _, a4, a5, a6⟩ := hfp b hb
    exact ⟨a4, a2, a5, a6⟩
theorem comp_core {own : List Str} {caps : List Nat} {scope : Scope} {tg : Option Nat} {target iter elt : Expr} {ifs : List Expr} {iit icond ielt : E} {pos : Pos} {pins : List (Addr × Obj)} {s : Shared} {σ : St} {G H : Hp} {ρ : Env} {sq : PV} {xs rs : List PV} {RR : Value → Addr → Result → Shared → Prop}
    (hcalm : X.calm = true) (CS : CScope X own caps scope) (hd : caps.Nodup) (hown : own.length = tg.getD 1) (hpk : isPeek ielt = false)
    (hit : PI X target iter (tI cf X.K iit)) (B : BlkOk X cf own caps scope tg target ifs elt icond ielt) (I : Inv X pins σ H s) (S : SR X.K G H σ ρ) (e1 : evE cf iit ρ = some sq) (e2 : seqOf sq = some xs)
    (e3 : compF (turnC cf tg (caps.map fun j => ρ.getD j .un) icond ielt) xs = some rs)
    (fin : ∀ (D : Addr) (s3 s' : Shared) (σ' : St) (H3 H' G' : Hp) (ys : List V) (fp : List Addr), Inv X pins σ H3 s3 → Inv (cxC X (namesC X own caps) scope (clOf X.env.cells scope.names []) s3.heap.objs.size s3 H3 fp) [] σ' H' s' → (∀ b ∈ fp, FpOk X pins H3 b) →
      H D = none → Ext G H G' H' → H' D = some (.lst ys) → G' D = none → RpL X.K G' rs ys → RR (.ref D) s3.heap.objs.size (.ok .next) s') :
    wpAny (model X.prog X.w) X.A (eval iter X.env) (fun x s₁ => wpAny (model X.prog X.w) X.A (pyIter x) (fun it s₂ => wpAny (model X.prog X.w) X.A (newList []) (fun acc s₃ =>
      wpAny (model X.prog X.w) X.A (newFunctionEnv scope X.env.globals (clOf X.env.cells scope.names []) [] X.env.qual none .none (some X.env)) (fun cenv s₄ =>
        codeAny (model X.prog X.w) X.A (.compStart (.ListComp elt [⟨target, iter, ifs, 0⟩] scope pos) 0 it acc { cenv with scope := relabel scope X.env }) (RR acc cenv.locals) s₄) X.xe s₃) X.xe s₂) X.xe s₁) X.xe s := by
  have w0 := hit pins s σ H (fun J H2 => ∃ G2, Ext G H G2 H2 ∧ Walk X.K J G2 xs) I ⟨G, ρ, sq, xs, S, e1, e2, fun J G' H' x w => ⟨G', x, w⟩⟩
  refine wpAny_mono w0 (fun v s1 h1 => wpAny_mono h1 (fun itv s2 h2 => ?_) fun _ _ z => z) fun _ _ z => z
  obtain ⟨it, fp, tn, J, H2, rfl, I2, T, st2, f2, G2, x2, wk⟩ := h2
  refine wpAny_newObj_type (wpAny_newFunctionEnv CS.nocell (by intro y hy; simp at hy) (fun h₁ hns₁ hsb₁ => ?_) CS.kind)
  dsimp only at hns₁ hsb₁ ⊢
  generalize hD : s2.heap.objs.size = D at hns₁ hsb₁ ⊢
  have fo2 := T.obj 0 _ st2
  have hDn : H2 D = none := by rw [← hD]; exact I2.hok.fresh (Nat.le_refl _)
  have fpD : ∀ b ∈ fp, b ≠ D := fun b hb => by
    obtain ⟨o, eo, _⟩ := fo2 b hb
    rw [← hD]; exact Nat.ne_of_lt (Heap.lt_size eo)
  have I3 : Inv X pins σ (upd H2 D (.lst [])) { s2 with heap := s2.heap.push { cls := .type "list", dict := none, data := .seq ([] : List Value).toArray } } := by
    refine I2.laid (t' := s2.toks) (fun b o e => Heap.get?_push_of_some _ e) (by rw [hD]; exact Nat.le_refl _) ?_
    exact ⟨Nat.zero_le _, [], 0, .nil, by rw [← hD]; exact Heap.get?_push_size _ rfl⟩
  have kept : ∀ b o, s2.heap.get? b = some o → h₁.get? b = some o := fun b o e => by
    have e' := Heap.get?_push_of_some { cls := .type "list", dict := none, data := .seq ([] : List Value).toArray } e
    exact hsb₁.extBut b o (Nat.ne_of_lt (Heap.lt_size e')) (Heap.get?_push_of_some _ e')
  have keep3 : ∀ b o, (s2.heap.push { cls := .type "list", dict := none, data := .seq ([] : List Value).toArray }).get? b = some o → h₁.get? b = some o := fun b o e =>
    hsb₁.extBut b o (Nat.ne_of_lt (Heap.lt_size e)) (Heap.get?_push_of_some _ e)
  have fp3 : ∀ b ∈ fp, FpOk X pins (upd H2 D (.lst [])) b := fun b hb => by
    obtain ⟨a1, a2, a3, a4, a5, a6⟩ := f2 b hb
    exact ⟨by rw [upd_ne (fpD b hb)]; exact a1, a2, a3, a4, a5, a6⟩
  have fo3 : ∀ b ∈ fp, ∃ o, (s2.heap.push { cls := .type "list", dict := none, data := .seq ([] : List Value).toArray }).get? b = some o := fun b hb => by
    obtain ⟨o, eo, _⟩ := fo2 b hb
    exact ⟨o, Heap.get?_push_of_some _ eo⟩
  have I4 := inv_comp (h1 := h₁) (t := s2.toks + ([] : List (Str × Value)).length) I3 CS hcalm fp3 fo3 hns₁ keep3
  have S2 := S.ext x2
  have st4 : tn 0 h₁ := T.keep 0 _ _ st2 fun b _ o e => kept b o e
  refine comp_block (H2 := H2) (σ := σ) (ρ := ρ) hd hown hpk T wk B S2 hDn fpD (fun b hb => (f2 b hb).1) (fun Hx b hb hn => ?_) I4 st4 e3 (fun s' σ' H' G' ys I' x' hD' gD' r' => ?_)
  · obtain ⟨a1, a2, a3, a4, a5, a6⟩ := f2 b hb
    obtain ⟨o, eo⟩ := fo3 b hb
    exact ⟨hn, Nat.ne_of_lt (Heap.lt_size eo), (I4.ok.exfs b hb), .inl hb, (I4.ok.exf b hb).2, fun p hp => absurd (show p ∈ ([] : List (Addr × Obj)) from hp) (by simp)⟩
  · have hDH : H D = none := by
      cases q : H D with
      | none => rfl
      | some o => have := x2.hh D o q; rw [hDn] at this; cases this
    exact fin D _ s' σ' _ H' G' ys fp I3 I' fp3 hDH (x2.trans x') hD' gD' r'
theorem pe_comp {own : List Str} {caps : List Nat} {scope : Scope} {tg : Option Nat} {target iter elt : Expr} {ifs : List Expr} {iit icond ielt : E} {pos : Pos} (hcalm : X.calm = true) (CS : CScope X own caps scope) (hd : caps.Nodup) (hown : own.length = tg.getD 1) (hpk : isPeek ielt = false)
    (hit : PI X target iter (tI cf X.K iit)) (hfs : ∀ x, foldedSetIterable iter X.env x = pure x) (B : BlkOk X cf own caps scope tg target ifs elt icond ielt) :
    PE X (.ListComp elt [⟨target, iter, ifs, 0⟩] scope pos) (tE cf X.K (.comp tg caps iit icond ielt)) := by
  intro pins s σ H Q I h
  obtain ⟨G, ρ, p, S, e, k⟩ := h
  obtain ⟨sq, e1, e⟩ := bnd_eq.mp (show bnd (evE cf iit ρ) _ = some p from e)
  obtain ⟨xs, e2, e⟩ := bnd_eq.mp e
  obtain ⟨rs, e3, e⟩ := bnd_eq.mp e
  cases (show some (PyData.list rs) = some p from e)
  have hfr : ∀ x ∈ scope.names, x.2 = .free → ∃ c, X.env.cells.lookup x.1 = some c := fun x hx e => I.ok.has x.1 (CS.frees x hx e)
  rw [eval_ListComp]
  refine wpAny_comprehension_free (use := none) rfl hfs (closure_of hfr) CS.kind CS.locals ?_
  refine comp_core (RR := fun acc C => compPost (model X.prog X.w) X.A X.xe none (EP X pins σ Q) acc C) hcalm CS hd hown hpk hit B I S e1 e2 e3 fun D s3 s' σ' H3 H' G' ys fp I3 I' fp3 hDH x hD' gD' r' => ?_
  obtain ⟨m', hn', _⟩ := I'.loc
  refine ⟨m', hn', fun h'' hs'' => ?_⟩
  refine ⟨.ref D, H', inv_back I3 I' hs'' fp3, rfl, k _ _ _ (x.frz hDH gD' hD') (.of rfl ⟨D, ys, rfl, SqL.of upd_same, r'.mono ?_⟩)⟩
  exact .new gD' _
theorem ps_comp {own : List Str} {caps : List Nat} {scope : Scope} {tg : Option Nat} {target iter elt : Expr} {ifs : List Expr} {iit icond ielt : E} {pos spos py : Pos} {i : Nat} {y : Str} (hcalm : X.calm = true) (CS : CScope X own caps scope) (hd : caps.Nodup) (hown : own.length = tg.getD 1) (hpk : isPeek ielt = false)
    (hit : PI X target iter (tI cf X.K iit)) (hfs : ∀ x, foldedSetIterable iter X.env x = pure x) (B : BlkOk X cf own caps scope tg target ifs elt icond ielt)
    (hN : X.N.Nodup) (hi : X.N[i]? = some y) (hy : X.env.scope.names.lookup y = some .local) (hsw : swapsWith (.ListComp elt [⟨target, iter, ifs, 0⟩] scope pos) (some (.Name y py)) spos.line X.env = pure true) :
    PS X (.Assign [.Name y py] (.ListComp elt [⟨target, iter, ifs, 0⟩] scope pos) spos) (tAsg (tE cf X.K (.comp tg caps iit icond ielt)) (gName i)) := by
  intro pins s σ H D0 I h
  obtain ⟨G, ρ, p, S, e, k⟩ := h
  obtain ⟨sq, e1, e⟩ := bnd_eq.mp (show bnd (evE cf iit ρ) _ = some p from e)
  obtain ⟨xs, e2, e⟩ := bnd_eq.mp e
  obtain ⟨rs, e3, e⟩ := bnd_eq.mp e
  cases (show some (PyData.list rs) = some p from e)
  have hfr : ∀ x ∈ scope.names, x.2 = .free → ∃ c, X.env.cells.lookup x.1 = some c := fun x hx e => I.ok.has x.1 (CS.frees x hx e)
  rw [exec_Assign_Name_used _ _ _ _ hsw]
  refine wpAny_bind (wpAny_standAt (wpAny_bind ?_))
  show wpAny _ X.A (do let _ ← comprehension (.ListComp elt [⟨target, iter, ifs, 0⟩] scope pos) scope X.env _ (newList []) false (eval iter X.env) (some (assign (.Name y py) X.env))) _ _ s
  refine wpAny_bind (wpAny_mono (wpAny_comprehension_free (use := some (assign (.Name y py) X.env)) (Q := fun _ s' => SP X pins D0 .next s') rfl hfs (closure_of hfr) CS.kind CS.locals ?_) (fun _ s' hq => wpAny_pure (wpAny_pure hq)) fun _ _ e => e)
  refine comp_core (RR := fun acc C => compPost (model X.prog X.w) X.A X.xe (some (assign (.Name y py) X.env)) (fun _ s' => SP X pins D0 .next s') acc C) hcalm CS hd hown hpk hit B I S e1 e2 e3 fun D s3 s' σ' H3 H' G' ys fp I3 I' fp3 hDH x hD' gD' r' => ?_
  have Ib : Inv X pins σ H' s' := inv_back (h'' := s'.heap) I3 I' (.refl ..) fp3
  have hnx : D0.nx (σ.set i (some (.ref D))) H' := k _ _ _ (x.frz hDH gD' hD') (.of rfl ⟨D, ys, rfl, SqL.of upd_same, r'.mono (.new gD' _)⟩)
  show wpAny _ X.A (assign (.Name y py) X.env (.ref D)) _ _ _
  have hCC : s3.heap.objs.size ≠ X.env.locals := fun z => absurd I3.lt (by rw [← z]; exact Nat.lt_irrefl _)
  refine wpAny_assign_Name (store_ok2 Ib hN hi (.inl hy) (v := .ref D) rfl (fun s'' I'' hch => ?_) (.inr hy))
  obtain ⟨m', hn', _⟩ := I'.loc
  obtain ⟨a, hsa, ha⟩ := hch
  have hCa : s3.heap.objs.size ≠ a := by
    rcases ha with z | z
    · rw [z]; exact hCC
    · intro w
      obtain ⟨cv, hcv⟩ := I3.cell y a z
      exact absurd hcv.lt (by rw [← w]; exact Nat.lt_irrefl _)
  refine ⟨m', hn'.sameBut hsa hCa, fun h'' hs'' => ⟨σ.set i (some (.ref D)), H', ?_, hnx⟩⟩
  -- the block's own dict is let go
  refine I''.call' (s' := { s'' with heap := h'' }) (ch := [s3.heap.objs.size]) rfl ⟨fun b o e n hb hx => ?_, fun b o e n hb hx => ?_, fun b o e n hx => n, fun b o e hx => ?_, fun _ _ e => e, fun _ _ _ e => e, fun b ps e => ⟨#[], by rw [e]; simp⟩⟩ (fun b ob e => ?_) I''.bare (fun b hb => ?_)
  · exact (hs''.2 b fun z => hx (by simp [z])).trans e
  · exact ⟨o.slots, (hs''.2 b fun z => hx (by simp [z])).trans e⟩
  · exact ⟨o, (hs''.2 b fun z => hx (by simp [z])).trans e⟩
  · refine (I''.hok b ob e).stay (fun c w' hc q => (hs''.2 c ?_).trans q) (fun _ q => q) fun _ _ q => q
    rintro rfl
    have hfree : H' s3.heap.objs.size = none := I'.free
    rcases hc with rfl | hc
    · rw [hfree] at e; cases e
    · rw [hfree] at hc; cases hc
  · have eb : b = s3.heap.objs.size := by simpa using hb
    subst eb
    refine ⟨.inr (I3.sz), hCC, fun z c ec w => ?_, fun q hq w => ?_⟩
    · obtain ⟨cv, hcv⟩ := I3.cell z c ec
      exact absurd hcv.lt (by rw [w]; exact Nat.lt_irrefl _)
    · exact absurd (Heap.lt_size (I3.pin q hq).1) (by rw [w]; exact Nat.lt_irrefl _)
end
end DD
set_option Elab.async false
set_option linter.all false
set_option maxRecDepth 100000
namespace DD
open PySem PySem.Spec PyProof.Rows L2
structure ST (K : PySem.W.Frag) (G0 H0 G H : Hp) (σ : St) (ρ : Env) : Prop where
  sr : SR K G H σ ρ
  ex : Ext G0 H0 G H
  new : ∀ (i : Nat) (ps : List PV) (a : Addr), ρ[i]? = some (Sl.own ps) → σ[i]? = some (some (V.ref a)) → H0 a = none
theorem ST.ext {K : PySem.W.Frag} {G0 H0 G H G' H' : Hp} {σ : St} {ρ : Env} (T : ST K G0 H0 G H σ ρ) (x : Ext G H G' H') : ST K G0 H0 G' H' σ ρ := ⟨T.sr.ext x, T.ex.trans x, T.new⟩
theorem ST.setVal {K : PySem.W.Frag} {G0 H0 G H : Hp} {σ : St} {ρ : Env} (T : ST K G0 H0 G H σ ρ) {i : Nat} {p : PV} {v : V} (r : Rp K G p v) : ST K G0 H0 G H (σ.set i (some v)) (ρ.set i (.val p)) := by
  refine ⟨T.sr.setVal r, T.ex, fun j ps a e1 e2 => ?_⟩
  rw [List.getElem?_set] at e1
  by_cases hij : i = j
  · rw [if_pos hij] at e1
    split at e1 <;> cases e1
  · rw [if_neg hij] at e1
    rw [List.getElem?_set_ne hij] at e2
    exact T.new j ps a e1 e2
theorem ST.setOwn {K : PySem.W.Frag} {G0 H0 G H : Hp} {σ : St} {ρ : Env} (T : ST K G0 H0 G H σ ρ) {i : Nat} {ps : List PV} {vs : List V} {l : Addr} (hl : H l = none) (r : RpL K G ps vs) :
    ST K G0 H0 G (L2.upd H l (.lst vs)) (σ.set i (some (.ref l))) (ρ.set i (.own ps)) := by
  have gl := T.sr.sub.fresh hl
  have h0l : H0 l = none := by
    cases q : H0 l with
    | none => rfl
    | some o => have := T.ex.hh l o q; rw [hl] at this; cases this
  have x1 : Ext G H G (L2.upd H l (.lst vs)) := Ext.own T.sr.sub hl _
  have T1 := T.ext x1
  have lt : ∀ (j : Nat) (qs : List PV), ρ[j]? = some (Sl.own qs) → σ[j]? ≠ some (some (V.ref l)) := fun j qs e z => by
    obtain ⟨o, eo, a, ws, rfl, h1, _⟩ := T.sr.at e
    rw [eo] at z; cases z
    rw [hl] at h1; cases h1
  refine ⟨⟨by simpa using T.sr.len, x1.gh, fun j sl o e1 e2 => ?_, fun j k sj sk a hjk e1 e2 o1 o2 e3 e4 => ?_⟩, T1.ex, fun j qs a e1 e2 => ?_⟩
  · rw [List.getElem?_set] at e1 e2
    by_cases hij : i = j
    · rw [if_pos hij] at e1 e2
      split at e1
      · rename_i hlt
        rw [if_pos (by rw [T.sr.len]; exact hlt)] at e2
        cases e1; cases e2
        exact ⟨l, vs, rfl, upd_same, gl, r⟩
      · cases e1
    · rw [if_neg hij] at e1 e2
      exact T1.sr.get j sl o e1 e2
  · rw [List.getElem?_set] at e1 e2 e3 e4
    by_cases hij : i = j
    · have hik : i ≠ k := fun z => hjk (hij.symm.trans z)
      rw [if_neg hik] at e2 e4
      rw [if_pos hij] at e3
      split at e3
      · cases e3
        cases sk with
        | own qs => exact lt k qs e2 e4
        | un => cases o2
        | val p => cases o2
      · cases e3
    · rw [if_neg hij] at e1 e3
      by_cases hik : i = k
      · rw [if_pos hik] at e4
        split at e4
        · cases e4
          cases sj with
          | own qs => exact lt j qs e1 e3
          | un => cases o1
          | val p => cases o1
        · cases e4
      · rw [if_neg hik] at e2 e4
        exact T.sr.apart j k sj sk a hjk e1 e2 o1 o2 e3 e4
  · rw [List.getElem?_set] at e1 e2
    by_cases hij : i = j
    · rw [if_pos hij] at e2
      split at e2
      · cases e2; exact h0l
      · cases e2
    · rw [if_neg hij] at e1 e2
      exact T.new j qs a e1 e2
theorem ST.grow {K : PySem.W.Frag} {G0 H0 G H : Hp} {σ : St} {ρ : Env} (T : ST K G0 H0 G H σ ρ) {i : Nat} {ps qs : List PV} {vs ws : List V} {l : Addr} (ei : ρ[i]? = some (Sl.own ps)) (es : σ[i]? = some (some (V.ref l))) (hl : H l = some (.lst vs))
    (gl : G l = none) (r : RpL K G qs ws) : ST K G0 H0 G (L2.upd H l (.lst ws)) σ (ρ.set i (.own qs)) := by
  have hi : i < ρ.length := (List.getElem?_eq_some_iff.mp ei).1
  have old : ∀ (j : Nat) (sl : Sl), (ρ.set i (.own qs))[j]? = some sl → (i = j ∧ sl = .own qs) ∨ (i ≠ j ∧ ρ[j]? = some sl) := fun j sl e => by
    rw [List.getElem?_set] at e
    by_cases hij : i = j
    · rw [if_pos hij, if_pos hi] at e
      cases e
      exact .inl ⟨hij, rfl⟩
    · rw [if_neg hij] at e; exact .inr ⟨hij, e⟩
  refine ⟨⟨by simpa using T.sr.len, fun b u q => by rw [upd_ne (ne_of_none q gl)]; exact T.sr.sub b u q, fun j sl o e1 e2 => ?_, fun j k sj sk a hjk e1 e2 o1 o2 e3 e4 => ?_⟩, T.ex.mut (T.new i ps l ei es) gl _, fun j qs' a e1 e2 => ?_⟩
  · rcases old j sl e1 with ⟨rfl, rfl⟩ | ⟨hij, e1'⟩
    · rw [es] at e2
      cases e2
      exact ⟨l, ws, rfl, upd_same, gl, r⟩
    · have h := T.sr.get j sl o e1' e2
      cases sl with
      | un => exact h
      | val p => exact h
      | own ts =>
        obtain ⟨b, us, rfl, h1, h2, rr⟩ := h
        refine ⟨b, us, rfl, ?_, h2, rr⟩
        rw [upd_ne]
        · exact h1
        · rintro rfl
          exact T.sr.apart i j (.own ps) (.own ts) b hij ei e1' rfl rfl es e2
  · have back : ∀ (m : Nat) (sl : Sl), (ρ.set i (.own qs))[m]? = some sl → isOwn sl = true → ∃ sl', ρ[m]? = some sl' ∧ isOwn sl' = true := fun m sl e h => by
      rcases old m sl e with ⟨rfl, rfl⟩ | ⟨_, e'⟩
      · exact ⟨_, ei, rfl⟩
      · exact ⟨sl, e', h⟩
    obtain ⟨s1, f1, g1⟩ := back j sj e1 o1
    obtain ⟨s2, f2, g2⟩ := back k sk e2 o2
    exact T.sr.apart j k s1 s2 a hjk f1 f2 g1 g2 e3 e4
  · rcases old j _ e1 with ⟨rfl, _⟩ | ⟨_, e1'⟩
    · exact T.new i ps a ei e2
    · exact T.new j qs' a e1' e2
theorem ST.frz {K : PySem.W.Frag} {G0 H0 G H : Hp} {σ : St} {ρ : Env} (T : ST K G0 H0 G H σ ρ) {i : Nat} {ps : List PV} (ei : ρ[i]? = some (Sl.own ps)) : ∃ G', ST K G0 H0 G' H σ (ρ.set i (.val (.list ps))) := by
  obtain ⟨o, es, l, vs, rfl, hl, gl, r⟩ := T.sr.at ei
  have hi : i < ρ.length := (List.getElem?_eq_some_iff.mp ei).1
  have sg : Sub G (L2.upd G l (.lst vs)) := .new gl _
  have old : ∀ (j : Nat) (sl : Sl), (ρ.set i (.val (.list ps)))[j]? = some sl → (i = j ∧ sl = .val (.list ps)) ∨ (i ≠ j ∧ ρ[j]? = some sl) := fun j sl e => by
    rw [List.getElem?_set] at e
    by_cases hij : i = j
    · rw [if_pos hij, if_pos hi] at e
      cases e
      exact .inl ⟨hij, rfl⟩
    · rw [if_neg hij] at e; exact .inr ⟨hij, e⟩
  have x1 := T.ex.frz (T.new i ps l ei es) gl hl
  refine ⟨L2.upd G l (.lst vs), ⟨by simpa using T.sr.len, x1.gh, fun j sl o e1 e2 => ?_, fun j k sj sk a hjk e1 e2 o1 o2 e3 e4 => ?_⟩, x1, fun j qs' a e1 e2 => ?_⟩
  · rcases old j sl e1 with ⟨rfl, rfl⟩ | ⟨hij, e1'⟩
    · rw [es] at e2
      cases e2
      exact ⟨_, rfl, l, vs, rfl, SqL.of upd_same, r.mono sg⟩
    · have h := T.sr.get j sl o e1' e2
      cases sl with
      | un => exact h
      | val p => obtain ⟨v, e, rr⟩ := h; exact ⟨v, e, rr.mono sg⟩
      | own ts =>
        obtain ⟨b, us, rfl, h1, h2, rr⟩ := h
        refine ⟨b, us, rfl, h1, ?_, rr.mono sg⟩
        rw [upd_ne]
        · exact h2
        · rintro rfl
          exact T.sr.apart i j (.own ps) (.own ts) b hij ei e1' rfl rfl es e2
  · have back : ∀ (m : Nat) (sl : Sl), (ρ.set i (.val (.list ps)))[m]? = some sl → isOwn sl = true → ρ[m]? = some sl := fun m sl e h => by
      rcases old m sl e with ⟨rfl, rfl⟩ | ⟨_, e'⟩
      · cases h
      · exact e'
    exact T.sr.apart j k sj sk a hjk (back j sj e1 o1) (back k sk e2 o2) o1 o2 e3 e4
  · rcases old j _ e1 with ⟨rfl, z⟩ | ⟨_, e1'⟩
    · cases z
    · exact T.new j qs' a e1' e2
noncomputable def Post (K : PySem.W.Frag) (D : Ends) (G0 H0 : Hp) : Out → Prop
  | .nx ρ => ∀ σ G H, ST K G0 H0 G H σ ρ → D.nx σ H
  | .bk ρ => ∀ σ G H, ST K G0 H0 G H σ ρ → D.bk σ H
  | .ct ρ => ∀ σ G H, ST K G0 H0 G H σ ρ → D.ct σ H
  | .rt p => ∀ v G H, Ext G0 H0 G H → Rp K G p v → D.rt v H
noncomputable def tS (cf : CF) (K : PySem.W.Frag) (is : DD.S) : TS := fun D σ H => ∃ G0 H0 G ρ o, ST K G0 H0 G H σ ρ ∧ evS cf is ρ = some o ∧ Post K D G0 H0 o
section
variable {X : Cx} {cf : CF}
theorem _root_.L2.PS.weak {st : Stmt} {t t' : TS} (h : PS X st t) (w : ∀ D σ H, t' D σ H → t D σ H) : PS X st t' := fun pins s σ H D I q => h pins s σ H D I (w D σ H q)
theorem _root_.L2.PSs.weak {st : List Stmt} {t t' : TS} (h : PSs X st t) (w : ∀ D σ H, t' D σ H → t D σ H) : PSs X st t' := fun pins s σ H D I q => h pins s σ H D I (w D σ H q)
theorem ss_nil : PSs X [] (tS cf X.K .nx) := pss_nil.weak fun D σ H ⟨G0, H0, G, ρ, o, T, e, k⟩ => by
  cases (show some (Out.nx ρ) = some o from e)
  exact k σ G H T
theorem seqO_inv {x : Option Out} {f : Env → Option Out} {o : Out} (h : seqO x f = some o) : (∃ ρ, x = some (.nx ρ) ∧ f ρ = some o) ∨ (x = some o ∧ ∀ ρ, o ≠ .nx ρ) := by
  cases x with
  | none => cases h
  | some a =>
    cases a with
    | nx ρ => exact .inl ⟨ρ, rfl, h⟩
    | rt p => cases h; exact .inr ⟨rfl, fun _ z => nomatch z⟩
    | bk p => cases h; exact .inr ⟨rfl, fun _ z => nomatch z⟩
    | ct p => cases h; exact .inr ⟨rfl, fun _ z => nomatch z⟩
theorem ss_cons {a b : DD.S} {st : Stmt} {rest : List Stmt} (ha : PS X st (tS cf X.K a)) (hb : PSs X rest (tS cf X.K b)) : PSs X (st :: rest) (tS cf X.K (.seq a b)) :=
  (pss_cons ha hb).weak fun D σ H ⟨G0, H0, G, ρ, o, T, e, k⟩ => by
    rcases seqO_inv (show seqO (evS cf a ρ) (fun ρ1 => evS cf b ρ1) = some o from e) with ⟨ρ1, e1, e2⟩ | ⟨e1, hne⟩
    · exact ⟨G0, H0, G, ρ, .nx ρ1, T, e1, fun σ' G' H' T' => ⟨G0, H0, G', ρ1, o, T', e2, k⟩⟩
    · refine ⟨G0, H0, G, ρ, o, T, e1, ?_⟩
      cases o with
      | nx ρ' => exact absurd rfl (hne ρ')
      | rt p => exact k
      | bk ρ' => exact k
      | ct ρ' => exact k
theorem ss_one {a : DD.S} {st : Stmt} (ha : PS X st (tS cf X.K a)) : PSs X [st] (tS cf X.K a) := pss_one ha
theorem ss_frz {i : Nat} {b : DD.S} {sts : List Stmt} (hb : PSs X sts (tS cf X.K b)) : PSs X sts (tS cf X.K (.seq (.frz i) b)) :=
  hb.weak fun D σ H ⟨G0, H0, G, ρ, o, T, e, k⟩ => by
    rcases seqO_inv (show seqO (bnd ρ[i]? (frzF i ρ)) (fun ρ1 => evS cf b ρ1) = some o from e) with ⟨ρ1, e1, e2⟩ | ⟨e1, hne⟩
    · obtain ⟨sl, e3, e4⟩ := bnd_eq.mp e1
      cases sl with
      | own ps =>
        cases (show some (Out.nx (ρ.set i (.val (.list ps)))) = some (.nx ρ1) from e4)
        obtain ⟨G', T'⟩ := T.frz e3
        exact ⟨G0, H0, G', _, o, T', e2, k⟩
      | un => cases (show some (Out.nx ρ) = some (.nx ρ1) from e4); exact ⟨G0, H0, G, ρ, o, T, e2, k⟩
      | val p => cases (show some (Out.nx ρ) = some (.nx ρ1) from e4); exact ⟨G0, H0, G, ρ, o, T, e2, k⟩
    · obtain ⟨sl, e3, e4⟩ := bnd_eq.mp e1
      cases sl with
      | own ps => cases (show some (Out.nx (ρ.set i (.val (.list ps)))) = some o from e4); exact absurd rfl (hne _)
      | un => cases (show some (Out.nx ρ) = some o from e4); exact absurd rfl (hne _)
      | val p => cases (show some (Out.nx ρ) = some o from e4); exact absurd rfl (hne _)
theorem asg_w {i : Nat} {ie : E} (hk : isPeek ie = false) : ∀ D σ H, tS cf X.K (.set i ie) D σ H → tAsg (tE cf X.K ie) (gName i) D σ H := fun D σ H ⟨G0, H0, G, ρ, o, T, e, k⟩ => by
  obtain ⟨p, e1, e2⟩ := bnd_eq.mp (show bnd (evE cf ie ρ) (fun p => some (Out.nx (ρ.set i (.val p)))) = some o from e)
  cases e2
  exact ⟨G, ρ, p, T.sr, e1, fun v G' H' x r => k _ G' H' ((T.ext x).setVal (r.rp hk))⟩
theorem st_set {i : Nat} {x : Str} {e : Expr} {ie : E} {pos pos' : Pos} (hN : X.N.Nodup) (hi : X.N[i]? = some x) (hx : Loc X.env.scope x) (hf : X.fn x = true ∨ X.env.scope.names.lookup x = some .local) (he : PE X e (tE cf X.K ie)) (hk : isPeek ie = false)
    (hs : swapsWith e (some (.Name x pos')) pos.line X.env = pure false) : PS X (.Assign [.Name x pos'] e pos) (tS cf X.K (.set i ie)) := (ps_set hN hi hx he hs hf).weak (asg_w hk)
theorem st_own {i : Nat} {x : Str} {es : List Expr} {a : E} {n : Nat} {pos pos' lpos : Pos} (hN : X.N.Nodup) (hi : X.N[i]? = some x) (hx : Loc X.env.scope x) (hf : X.fn x = true ∨ X.env.scope.names.lookup x = some .local) (h : PA X es (tA cf X.K a)) (hn : argN a = some n) (hs : n ≤ 1000) :
    PS X (.Assign [.Name x pos'] (.List es lpos) pos) (tS cf X.K (.own i (.lst a))) := by
  refine (ps_set hN hi hx (pe_lst h) rfl hf).weak fun D σ H ⟨G0, H0, G, ρ, o, T, e, k⟩ => ?_
  obtain ⟨p, e1, e2⟩ := bnd_eq.mp (show bnd (evE cf (.lst a) ρ) (ownF i ρ) = some o from e)
  obtain ⟨r, e3, e4⟩ := bnd_eq.mp (show bnd (evE cf a ρ) lstF = some p from e1)
  obtain ⟨ps, rfl, hl⟩ := args_len a n ρ r hn e3
  obtain ⟨hd, e5⟩ := tst_none (show DD.tst (anyD ps) none (some (PyData.list ps)) = some p from e4)
  cases e5
  cases (show some (Out.nx (ρ.set i (.own ps))) = some o from e2)
  refine ⟨G, ρ, ps, T.sr, e3, fun vs G1 H1 x1 r1 => ⟨?_, fun l hf => ?_⟩⟩
  · have := r1.length; rw [line_eq]; lia
  · exact k _ G1 _ ((T.ext x1).setOwn hf (r1.list hd))
theorem st_ret {e : Expr} {ie : E} {pos : Pos} (he : PE X e (tE cf X.K ie)) (hk : isPeek ie = false) : PS X (.Return (some e) pos) (tS cf X.K (.ret ie)) :=
  (ps_ret he).weak fun D σ H ⟨G0, H0, G, ρ, o, T, e, k⟩ => by
    obtain ⟨p, e1, e2⟩ := bnd_eq.mp (show bnd (evE cf ie ρ) (fun p => some (Out.rt p)) = some o from e)
    cases e2
    exact ⟨G, ρ, p, T.sr, e1, fun v G' H' x r => k v G' H' (T.ex.trans x) (r.rp hk)⟩
theorem st_ife {c : Expr} {a b : List Stmt} {ic : E} {ia ib : DD.S} {pos : Pos} (hc : PT X c (tT cf X.K ic)) (ha : PSs X a (tS cf X.K ia)) (hb : PSs X b (tS cf X.K ib)) : PS X (.If c a b pos) (tS cf X.K (.ife ic ia ib)) :=
  (ps_if hc ha hb).weak fun D σ H ⟨G0, H0, G, ρ, o, T, e, k⟩ => by
    obtain ⟨x, e1, e2⟩ := bnd_eq.mp (show bnd (evE cf ic ρ) (fun x => bnd (truthF x) fun t => DD.tst t (evS cf ia ρ) (evS cf ib ρ)) = some o from e)
    obtain ⟨t, e3, e4⟩ := bnd_eq.mp e2
    refine ⟨G, ρ, x, t, T.sr, e1, e3, fun G' H' xx => ?_⟩
    cases t with
    | true => exact iteT ⟨G0, H0, G', ρ, o, T.ext xx, e4, k⟩
    | false => exact iteF ⟨G0, H0, G', ρ, o, T.ext xx, e4, k⟩
end
end DD
set_option Elab.async false
set_option linter.all false
set_option maxRecDepth 100000
namespace DD
open PySem PySem.Spec PyProof.Rows L2
noncomputable def gMany : List Nat → TGs
  | [] => gNil
  | i :: is => gCons (gName i) (gMany is)
noncomputable def gS (K : PySem.W.Frag) : Tg → TG
  | .one i => gName i
  | .many is => gTup K is.length (gMany is)
theorem many_ok {K : PySem.W.Frag} {G0 H0 G H : Hp} {Q : St → Hp → Prop} : ∀ (is : List Nat) (ps : List PV) (vs : List V) (σ : St) (ρ ρ' : Env), ST K G0 H0 G H σ ρ → RpL K G ps vs → setMany is ps ρ = some ρ' → (∀ σ', ST K G0 H0 G H σ' ρ' → Q σ' H) → gMany is vs σ H Q
  | [], [], _, σ, ρ, ρ', T, r, e, k => by
    cases (show _ = [] from r)
    cases (show some ρ = some ρ' from e)
    exact ⟨rfl, k σ T⟩
  | i :: is, p :: ps, _, σ, ρ, ρ', T, r, e, k => by
    obtain ⟨v, w, rfl, ⟨_, r1⟩, r2⟩ := (show ∃ v r, _ = v :: r ∧ (isDict p = false ∧ Rp K G p v) ∧ RpL K G ps r from r)
    exact ⟨v, w, rfl, many_ok is ps w _ _ ρ' (T.setVal r1) r2 e k⟩
  | [], _ :: _, _, _, _, _, _, _, e, _ => by cases e
  | _ :: _, [], _, _, _, _, _, _, e, _ => by cases e
theorem setMany_len : ∀ (is : List Nat) (ps : List PV) (ρ ρ' : Env), setMany is ps ρ = some ρ' → is.length = ps.length
  | [], [], _, _, _ => rfl
  | _ :: is, _ :: ps, _, ρ', e => by simp [setMany_len is ps _ ρ' e]
  | [], _ :: _, _, _, e => by cases e
  | _ :: _, [], _, _, e => by cases e
theorem bindS_ok {K : PySem.W.Frag} {G0 H0 G H : Hp} {Q : St → Hp → Prop} {t : Tg} {p : PV} {v : V} {σ : St} {ρ ρ' : Env} (T : ST K G0 H0 G H σ ρ) (r : Rp K G p v) (e : bindS t p ρ = some ρ') (k : ∀ σ', ST K G0 H0 G H σ' ρ' → Q σ' H) : gS K t v σ H Q := by
  cases t with
  | one i =>
    cases (show some (ρ.set i (.val p)) = some ρ' from e)
    exact k _ (T.setVal r)
  | many is =>
    cases p with
    | tuple xs =>
      obtain ⟨a, vs, rfl, q, rr⟩ := (show ∃ a vs, v = V.ref a ∧ SqT K G a vs ∧ RpL K G xs vs from r)
      have hl := setMany_len is xs ρ ρ' e
      exact ⟨a, vs, rfl, T.sr.sub.sqT q, by rw [← rr.length]; exact hl.symm, many_ok is xs vs σ ρ ρ' T rr e k⟩
    | _ => cases (show none = some ρ' from e)
noncomputable def midH (G H0 H : Hp) : Hp := fun a => if (G a).isSome || (H0 a).isSome then H a else none
theorem midH_some {G H0 H : Hp} {a : Addr} {o : HO} (h : midH G H0 H a = some o) : H a = some o ∧ ((G a).isSome = true ∨ (H0 a).isSome = true) := by
  unfold midH at h
  split at h
  · rename_i q
    exact ⟨h, by simpa using q⟩
  · cases h
theorem midH_of {G H0 H : Hp} {a : Addr} (h : (G a).isSome = true ∨ (H0 a).isSome = true) : midH G H0 H a = H a := by
  unfold midH
  rw [if_pos (by simpa using h)]
theorem ST.mid {K : PySem.W.Frag} {G0 H0 G H : Hp} {σ : St} {ρ : Env} (T : ST K G0 H0 G H σ ρ) : ST K G (midH G H0 H) G H σ ρ := by
  refine ⟨T.sr, ⟨fun a o h => (midH_some h).1, .refl _, T.sr.sub, fun _ _ _ => rfl⟩, fun i ps a e1 e2 => ?_⟩
  obtain ⟨o, eo, b, vs, rfl, h1, h2, _⟩ := T.sr.at e1
  rw [eo] at e2
  have eb : b = a := by injection e2 with e2; injection e2 with e2; injection e2
  subst eb
  have h3 := T.new i ps b e1 eo
  unfold midH
  rw [h2, h3]; rfl
theorem ST.back {K : PySem.W.Frag} {G0 H0 G H G2 H2 : Hp} {σ σ2 : St} {ρ ρ2 : Env} (T : ST K G0 H0 G H σ ρ) (T2 : ST K G (midH G H0 H) G2 H2 σ2 ρ2) : ST K G0 H0 G2 H2 σ2 ρ2 ∧ Sub G G2 := by
  have inM : ∀ a o, H0 a = some o → midH G H0 H a = some o := fun a o h => by rw [midH_of (.inr (by rw [h]; rfl))]; exact T.ex.hh a o h
  refine ⟨⟨T2.sr, ⟨fun a o h => T2.ex.hh a o (inM a o h), T.ex.gg.trans T2.ex.gg, T2.ex.gh, fun a o h => (T2.ex.old a o (inM a o h)).trans (T.ex.old a o h)⟩, fun i ps a e1 e2 => ?_⟩, T2.ex.gg⟩
  have := T2.new i ps a e1 e2
  cases q : H0 a with
  | none => rfl
  | some o => rw [inM a o q] at this; cases this
theorem Ext.back {K : PySem.W.Frag} {G0 H0 G H G2 H2 : Hp} {σ : St} {ρ : Env} (T : ST K G0 H0 G H σ ρ) (x : Ext G (midH G H0 H) G2 H2) : Ext G0 H0 G2 H2 := by
  have inM : ∀ a o, H0 a = some o → midH G H0 H a = some o := fun a o h => by rw [midH_of (.inr (by rw [h]; rfl))]; exact T.ex.hh a o h
  exact ⟨fun a o h => x.hh a o (inM a o h), T.ex.gg.trans x.gg, x.gh, fun a o h => (x.old a o (inM a o h)).trans (T.ex.old a o h)⟩
section
variable {X : Cx} {cf : CF}
theorem turnO_inv {x : Option Out} {f : Env → Option Out} {o : Out} (h : turnO x f = some o) :
    (∃ ρ, (x = some (.nx ρ) ∨ x = some (.ct ρ)) ∧ f ρ = some o) ∨ (∃ ρ, x = some (.bk ρ) ∧ o = .nx ρ) ∨ (∃ p, x = some (.rt p) ∧ o = .rt p) := by
  cases x with
  | none => cases h
  | some a =>
    cases a with
    | nx ρ => exact .inl ⟨ρ, .inl rfl, h⟩
    | ct ρ => exact .inl ⟨ρ, .inr rfl, h⟩
    | bk ρ => cases h; exact .inr (.inl ⟨ρ, rfl, rfl⟩)
    | rt p => cases h; exact .inr (.inr ⟨p, rfl, rfl⟩)
theorem st_loop {t : Tg} {iit : E} {ib : DD.S} {tg iter : Expr} {body : List Stmt} {pos : Pos} (hxe : X.xe = fun _ _ => False) (hc : X.calm = true) (hit : PI X tg iter (tI cf X.K iit)) (hg : PG X tg (gS X.K t)) (hb : PSs X body (tS cf X.K ib))
    (hfs : ∀ x, foldedSetIterable iter X.env x = pure x) : PS X (.For tg iter body [] pos) (tS cf X.K (.loop t iit ib)) := by
  have hp : PassesOwn (model X.prog X.w) X.A X.env X.xe := by rw [hxe]; exact PassesOwn.never
  refine (ps_for hp hc hit hg hb hfs).weak fun D σ H ⟨G0, H0, G, ρ, o, T, e, k⟩ => ?_
  obtain ⟨sq, e1, e⟩ := bnd_eq.mp (show bnd (evE cf iit ρ) (fun s => bnd (seqOf s) fun xs => loopF t (evS cf ib) xs ρ) = some o from e)
  obtain ⟨xs, e2, e3⟩ := bnd_eq.mp e
  refine ⟨G, ρ, sq, xs, T.sr, e1, e2, fun J G1 H1 x1 wk => ?_⟩
  refine ⟨fun i m σ' H' => m = xs.length - i ∧ i ≤ xs.length ∧ ∃ G' ρ', ST X.K G0 H0 G' H' σ' ρ' ∧ Sub G1 G' ∧ loopF t (evS cf ib) (xs.drop i) ρ' = some o, ⟨xs.length, by simp, Nat.zero_le _, G1, ρ, T.ext x1, .refl _, by simpa using e3⟩, ?_⟩
  rintro i m σ' H' ⟨rfl, hi, G', ρ', T', sg, el⟩
  by_cases hlt : i < xs.length
  · have hx : xs.drop i = xs[i] :: xs.drop (i + 1) := List.drop_eq_getElem_cons hlt
    rw [hx] at el
    unfold loopF at el
    obtain ⟨ρ1, eb, et⟩ := bnd_eq.mp el
    refine .inr ⟨wk.go i H' (sg.trans T'.sr.sub) hlt, fun σ2 H2 => i + 1 ≤ xs.length ∧ ∃ G2 ρ2, ST X.K G0 H0 G2 H2 σ2 ρ2 ∧ Sub G1 G2 ∧ loopF t (evS cf ib) (xs.drop (i + 1)) ρ2 = some o, ?_, fun x H2 y => ?_⟩
    · rintro σ2 H2 ⟨h1, h2⟩
      exact ⟨xs.length - (i + 1), by lia, rfl, h1, h2⟩
    · obtain ⟨G3, p, x3, ep, rp⟩ := wk.step sg T'.sr.sub hlt y
      have ep' : xs[i] = p := by rw [List.getElem?_eq_getElem hlt] at ep; exact Option.some.inj ep
      subst ep'
      -- the entry stays; what was there at this loop's start stays frozen: keep G1 by the entry of the turn
      replace T' := T'.ext x3
      replace sg := sg.trans x3.gg
      refine bindS_ok T' rp eb fun σ3 T3 => ?_
      have go : ∀ {ρ2 : Env}, loopF t (evS cf ib) (xs.drop (i + 1)) ρ2 = some o → ∀ σ4 G4 H4, ST X.K G3 (midH G3 H0 H2) G4 H4 σ4 ρ2 → i + 1 ≤ xs.length ∧ ∃ G2 ρ2, ST X.K G0 H0 G2 H4 σ4 ρ2 ∧ Sub G1 G2 ∧ loopF t (evS cf ib) (xs.drop (i + 1)) ρ2 = some o := fun {ρ2} e σ4 G4 H4 T4 => by
        obtain ⟨T5, s5⟩ := T3.back T4
        exact ⟨hlt, G4, ρ2, T5, sg.trans s5, e⟩
      rcases turnO_inv et with ⟨ρ2, e4 | e4, e5⟩ | ⟨ρ2, e4, rfl⟩ | ⟨p, e4, rfl⟩
      · exact ⟨G3, midH G3 H0 H2, G3, ρ1, _, T3.mid, e4, go e5⟩
      · exact ⟨G3, midH G3 H0 H2, G3, ρ1, _, T3.mid, e4, go e5⟩
      · exact ⟨G3, midH G3 H0 H2, G3, ρ1, _, T3.mid, e4, fun σ4 G4 H4 T4 => k σ4 G4 H4 (T3.back T4).1⟩
      · exact ⟨G3, midH G3 H0 H2, G3, ρ1, _, T3.mid, e4, fun v G4 H4 x4 r4 => k v G4 H4 (Ext.back T3 x4) r4⟩
  · have hie : i = xs.length := by lia
    subst hie
    rw [List.drop_length] at el
    cases (show some (Out.nx ρ') = some o from el)
    exact .inl ⟨wk.stop _ H' (sg.trans T'.sr.sub) (Nat.le_refl _), k σ' G' H' T'⟩
theorem st_app {i : Nat} {x : Str} {e : Expr} {ie : E} {pos apos cpos npos : Pos} (hi : X.N[i]? = some x) (hv : Vis X.env.scope x) (hd : (x == ("__debug__" : Str)) = false) (hcd : (x == ("__classdict__" : Str)) = false)
    (he : PE X e (tE cf X.K ie)) (hk : isPeek ie = false) (hs : plainE e = true) (hline : (apos.endLine == cpos.line) = true) :
    PS X (.Expr (.Call (.Attribute (.Name x npos) "append" apos) [e] [] cpos) pos) (tS cf X.K (.app i ie)) := by
  have hst := star_of hs [] X.env
  have hfew : ((backTo cpos (starEach [e] X.env)).all (fun x => !x.1) && (backToKw cpos (keywordEach [] X.env)).all (fun x => x.1.isSome)
      && decide ([e].length + ([] : List Keyword).length + (if ([] : List Keyword).isEmpty then 0 else 1) < 30)) = true := by
    rw [hst]; rfl
  refine (ps_expr (pe_bm (X := X) (o := .Name x npos) PySem.F.plainAttrs_list PySem.F.slot_list_append PySem.F.type_list_append mt_append (pe_var hi hv hd hcd) (pa_cons he pa_nil hst) rfl hfew hline hst rfl) rfl).weak fun D σ H ⟨G0, H0, G, ρ, o, T, e, k⟩ => ?_
  obtain ⟨p, e1, e2⟩ := bnd_eq.mp (show bnd (evE cf ie ρ) (fun p => bnd ρ[i]? (appF i ρ p)) = some o from e)
  obtain ⟨sl, e3, e4⟩ := bnd_eq.mp e2
  cases sl with
  | own ps =>
    have e4' : (if ps.length < 1000000 ∧ isDict p = false then some (Out.nx (ρ.set i (.own (ps ++ [p])))) else none) = some o := e4
    by_cases hl : ps.length < 1000000 ∧ isDict p = false
    · rw [if_pos hl] at e4'
      cases e4'
      obtain ⟨o', eo, l, vs, rfl, h1, h2, r⟩ := T.sr.at e3
      refine ⟨.ref l, eo, .inl ⟨rfl, vs, SqL.of h1⟩, G, ρ, p, T.sr, e1, fun v G1 H1 x1 r1 => ?_⟩
      have h1' := x1.hh _ _ h1
      have g1' : G1 l = none := (x1.old _ _ h1).trans h2
      refine ⟨l, vs, v, rfl, rfl, h1', by have := r.length; rw [line_eq]; lia, ?_⟩
      exact k _ G1 _ ((T.ext x1).grow e3 eo h1' g1' ((r.mono x1.gg).append (.one hl.2 (r1.rp hk))))
    · rw [if_neg hl] at e4'; cases e4'
  | un => cases (show none = some o from e4)
  | val q => cases (show none = some o from e4)
end
end DD
set_option Elab.async false
set_option linter.all false
set_option maxRecDepth 100000
namespace DD
open PySem PySem.Spec PyProof.Rows L2
noncomputable def ixE : Expr → Bool
  | .Slice .. => false
  | _ => true
theorem plainIx {b : Expr} (h : ixE b = true) : PlainIx b := by
  intro o i
  cases b <;> first | rfl | exact absurd (show false = true from h) Bool.false_ne_true
section
variable {X : Cx} {cf : CF}
theorem snd_ix {ia ib : E} {a b : Expr} {pos : Pos} (hu : X.A.units + 190 < cLine) (ha : PE X a (tE cf X.K ia)) (hb : PE X b (tE cf X.K ib)) (hs : ixE b = true) : Snd X cf (.op2 .ix ia ib) (.Subscript a b pos) :=
  .plain ((pe_ix (s_ix hu) ha hb (plainIx hs)).weak op2_w) (fun _ => rfl)
noncomputable def tP (cf : CF) (K : PySem.W.Frag) (ie : E) : TO := fun σ H Q => ∃ G ρ p o, SR K G H σ ρ ∧ evE cf ie ρ = some p ∧ partF p = some o ∧ ∀ G' H', Ext G H G' H' → Q o H'
theorem part_none : PO X none (tP cf X.K (.con .none)) := fun pins s σ H Q I ⟨G, ρ, p, o, S, e1, e2, k⟩ => by
  cases (show some PyData.none = some p from e1)
  cases (show some none = some o from e2)
  exact po_none pins s σ H Q I (k G H (.refl S.sub))
theorem part_some {e : Expr} {ie : E} (h : PE X e (tE cf X.K ie)) (hk : isPeek ie = false) : PO X (some e) (tP cf X.K ie) := fun pins s σ H Q I ⟨G, ρ, p, o, S, e1, e2, k⟩ => by
  have w := h pins s σ H (fun v H1 => ∃ G1, Ext G H G1 H1 ∧ Rp X.K G1 p v) I ⟨G, ρ, p, S, e1, fun v G' H' x r => ⟨G', x, r.rp hk⟩⟩
  refine thn w fun u s1 ⟨v, H1, I1, rv, G1, x1, r1⟩ => ?_
  cases p with
  | int i =>
    cases (show some (some i) = some o from e2)
    cases (show v = .int i from r1)
    obtain ⟨t, rfl⟩ := rv
    exact ⟨some i, H1, I1, .int i t, k G1 H1 x1⟩
  | none =>
    cases (show some none = some o from e2)
    cases (show v = .non from r1)
    cases (show u = Value.none from rv)
    exact ⟨none, H1, I1, .none, k G1 H1 x1⟩
  | _ => cases (show none = some o from e2)
theorem snd_sl {ia il ih : E} {a : Expr} {lo hi : Option Expr} {pos p2 : Pos} (ha : PE X a (tE cf X.K ia)) (hl : PO X lo (tP cf X.K il)) (hh : PO X hi (tP cf X.K ih)) : Snd X cf (.sl ia il ih) (.Subscript a (.Slice lo hi none p2) pos) := by
  refine .plain ((pe_slice s_sl ha hl hh).weak fun σ H Q ⟨G, ρ, p, S, e, k⟩ => ?_) (fun _ => rfl)
  obtain ⟨x, e1, e⟩ := bnd_eq.mp (show bnd (evE cf ia ρ) (fun x => bnd (evE cf il ρ) fun l => bnd (evE cf ih ρ) fun h => slF x l h) = some p from e)
  obtain ⟨l, e2, e⟩ := bnd_eq.mp e
  obtain ⟨h, e3, e⟩ := bnd_eq.mp e
  obtain ⟨ol, e4, e⟩ := bnd_eq.mp (show bnd (partF l) (fun l => bnd (partF h) fun h => cutF l h x) = some p from e)
  obtain ⟨oh, e5, e6⟩ := bnd_eq.mp e
  exact ⟨G, ρ, x, S, e1, fun v G1 H1 x1 r1 => ⟨G1, ρ, l, ol, S.ext x1, e2, e4, fun G2 H2 x2 => ⟨G2, ρ, h, oh, (S.ext x1).ext x2, e3, e5, fun G3 H3 x3 =>
    ⟨G3, x, p, x3.gh, ((r1.rk x1.gh).ext x2).ext x3, e6, fun u G4 H4 x4 r4 => k u G4 H4 (x1.trans (x2.trans (x3.trans x4))) (.of rfl r4)⟩⟩⟩⟩
theorem op1_w {o : Op1} {a : E} : ∀ σ H Q, tE cf X.K (.op1 o a) σ H Q → (tE cf X.K a) σ H fun v H1 => rOp1 X.K o v H1 Q := fun σ H Q ⟨G, ρ, p, S, e, k⟩ => by
  obtain ⟨x, e1, e2⟩ := bnd_eq.mp (show bnd (evE cf a ρ) (opF1 o) = some p from e)
  exact ⟨G, ρ, x, S, e1, fun v G1 H1 x1 r1 => ⟨G1, x, p, x1.gh, r1.rk x1.gh, e2, fun u G2 H2 x2 r2 => k u G2 H2 (x1.trans x2) (.of rfl r2)⟩⟩
theorem tE_mono {ie : E} {σ : St} {H : Hp} {Q Q' : VK} (h : tE cf X.K ie σ H Q) (w : ∀ v H', Q v H' → Q' v H') : tE cf X.K ie σ H Q' := by
  obtain ⟨G, ρ, p, S, e, k⟩ := h
  exact ⟨G, ρ, p, S, e, fun v G' H' x r => w v H' (k v G' H' x r)⟩
theorem snd_callB {o : Op1} {ia : E} {a : Expr} {x : Str} {id : String} {p pos : Pos} (hc : CallR X (.builtin id) (rC1 X.K o)) (hg : Gl X x) (hm : X.mg x = none) (hv : bootBuiltins x = some (.builtin id)) (hn : x ≠ "__name__") (hdb : (x == ("__debug__" : Str)) = false)
    (ha : PE X a (tE cf X.K ia)) (hs : plainE a = true) : Snd X cf (.op1 o ia) (.Call (.Name x p) [a] [] pos) := by
  refine .plain ((pe_callB hc hg hm hv (pa_cons ha pa_nil (star_of hs _ _)) hn hdb (star_of hs _ _)).weak fun σ H Q h => ?_) (fun _ => rfl)
  exact tE_mono (op1_w σ H Q h) fun v H' q => ⟨v, rfl, q⟩
theorem snd_callT {o : Op1} {ia : E} {a : Expr} {x : Str} {T : String} {p pos : Pos} (hc : CallR X (.type T) (rC1 X.K o)) (hg : Gl X x) (hm : X.mg x = none) (hv : bootBuiltins x = some (.type T)) (hn : x ≠ "__name__") (hdb : (x == ("__debug__" : Str)) = false)
    (ha : PE X a (tE cf X.K ia)) (hs : plainE a = true) : Snd X cf (.op1 o ia) (.Call (.Name x p) [a] [] pos) := by
  refine .plain ((pe_callTy hc hg hm hv (pa_cons ha pa_nil (star_of hs _ _)) hn hdb (star_of hs _ _)).weak fun σ H Q h => ?_) (fun _ => rfl)
  exact tE_mono (op1_w σ H Q h) fun v H' q => ⟨v, rfl, q⟩
theorem snd_isi {o : Op1} {ia : E} {a : Expr} {x : Str} {T : String} {p p2 pos : Pos} (hc : CallR X (.builtin "isinstance") (rIsi X.K o T)) (hg : Gl X "isinstance") (hm : X.mg "isinstance" = none) (hgT : Gl X x) (hmT : X.mg x = none) (hvT : bootBuiltins x = some (.type T))
    (hn : x ≠ "__name__") (hdb : (x == ("__debug__" : Str)) = false) (ha : PE X a (tE cf X.K ia)) (hs : plainE a = true) : Snd X cf (.op1 o ia) (.Call (.Name "isinstance" p) [a, .Name x p2] [] pos) := by
  refine .plain ((pe_callB hc hg hm boot_isinstance (pa_cons ha (pa_cons (pe_bltn (v := .ty T) hgT hmT hvT rfl hn hdb) pa_nil rfl) (star_of hs _ _)) (by decide) (by decide) (star_of hs _ _)).weak fun σ H Q h => ?_) (fun _ => rfl)
  exact tE_mono (op1_w σ H Q h) fun v H' q => ⟨v, rfl, q⟩
theorem snd_not {ia : E} {a : Expr} {pos : Pos} (ha : Snd X cf ia a) : Snd X cf (.not ia) (.UnaryOp .Not a pos) := by
  refine ⟨fun pins s σ H Q I h => ?_, (pt_not ha.pt).weak fun σ H Q ⟨G, ρ, p, b, S, e, et, k⟩ => ?_⟩
  · obtain ⟨G, ρ, p, S, e, k⟩ := h
    obtain ⟨x, e1, e2⟩ := bnd_eq.mp (show bnd (evE cf ia ρ) (fun x => bnd (truthF x) fun t => some (PyData.bool (!t))) = some p from e)
    obtain ⟨t, e3, e4⟩ := bnd_eq.mp e2
    cases e4
    refine UnaryOp_ (thn (ha.pe pins s σ H (fun v H1 => ∃ G1, Ext G H G1 H1 ∧ Rk X.K G1 H1 x v) I ⟨G, ρ, x, S, e1, fun v G1 H1 x1 r1 => ⟨G1, x1, r1.rk x1.gh⟩⟩) fun u s1 ⟨v, H1, I1, rv, G1, x1, r1⟩ => ?_)
    refine not_of (thn (tru_ok pins s1 σ H1 v u (fun b H' => b = t ∧ H' = H1) I1 rv ⟨t, truV x1.gh r1 e3, rfl, rfl⟩) fun b s2 ⟨H2, I2, hb, hH⟩ => ?_)
    subst hb hH
    exact ⟨.bl (!b), H2, I2, rfl, k _ G1 H2 x1 (.of rfl rfl)⟩
  · obtain ⟨x, e1, e2⟩ := bnd_eq.mp (show bnd (evE cf ia ρ) (fun x => bnd (truthF x) fun t => some (PyData.bool (!t))) = some p from e)
    obtain ⟨t, e3, e4⟩ := bnd_eq.mp e2
    cases e4
    have et' : (!t) = b := Option.some.inj et
    subst et'
    exact ⟨G, ρ, x, t, S, e1, e3, k⟩
structure SndB (X : Cx) (cf : CF) (op : BoolOp) (ie : E) (es : List Expr) (pos : Pos) : Prop where
  pe : PE X (.BoolOp op es pos) (tE cf X.K ie)
  pw : PW X (.BoolOp op es pos) (tT cf X.K ie)
theorem sndb_one {op : BoolOp} {ia : E} {a : Expr} {pos : Pos} (ha : Snd X cf ia a) : SndB X cf op ia [a] pos := by
  refine ⟨pe_one ha.pe, ?_⟩
  cases op with
  | And => exact pw_and1 ha.pt
  | Or => exact pw_or1 ha.pt
theorem sndb_and {ia ib : E} {a b : Expr} {rest : List Expr} {pos : Pos} (ha : Snd X cf ia a) (hka : isPeek ia = false) (hb : SndB X cf .And ib (b :: rest) pos) (hkb : isPeek ib = false) : SndB X cf .And (.and ia ib) (a :: b :: rest) pos := by
  refine ⟨fun pins s σ H Q I h => ?_, (pw_and ha.pt hb.pw).weak fun σ H Q ⟨G, ρ, p, c, S, e, et, k⟩ => ?_⟩
  · obtain ⟨G, ρ, p, S, e, k⟩ := h
    obtain ⟨x, e1, e2⟩ := bnd_eq.mp (show bnd (evE cf ia ρ) (fun x => bnd (truthF x) fun t => DD.tst t (evE cf ib ρ) (some x)) = some p from e)
    obtain ⟨t, e3, e4⟩ := bnd_eq.mp e2
    refine BoolOp_and (thn (ha.pe pins s σ H (fun v H1 => ∃ G1, Ext G H G1 H1 ∧ Rp X.K G1 x v) I ⟨G, ρ, x, S, e1, fun v G1 H1 x1 r1 => ⟨G1, x1, r1.rp hka⟩⟩) fun u s1 ⟨v, H1, I1, rv, G1, x1, r1⟩ => ?_)
    refine thn (tru_ok pins s1 σ H1 v u (fun b H' => b = t ∧ H' = H1) I1 rv ⟨t, truV x1.gh (r1.rk x1.gh) e3, rfl, rfl⟩) fun b s2 ⟨H2, I2, hb', hH⟩ => ?_
    subst hb' hH
    cases b with
    | true => exact hb.pe pins s2 σ H2 Q I2 ⟨G1, ρ, p, S.ext x1, e4, fun w G2 H3 x2 r2 => k w G2 H3 (x1.trans x2) (.of rfl (r2.rp hkb))⟩
    | false =>
      have e5 : x = p := Option.some.inj e4
      subst e5
      exact ⟨v, H2, I2, rv, k v G1 H2 x1 (.of rfl r1)⟩
  · obtain ⟨x, e1, e2⟩ := bnd_eq.mp (show bnd (evE cf ia ρ) (fun x => bnd (truthF x) fun t => DD.tst t (evE cf ib ρ) (some x)) = some p from e)
    obtain ⟨t, e3, e4⟩ := bnd_eq.mp e2
    refine ⟨G, ρ, x, t, S, e1, e3, fun G1 H1 x1 => ?_⟩
    cases t with
    | true => exact iteT ⟨G1, ρ, p, c, S.ext x1, e4, et, fun G2 H2 x2 => k G2 H2 (x1.trans x2)⟩
    | false =>
      have e5 : x = p := Option.some.inj e4
      subst e5
      rw [e3] at et
      have e6 : false = c := Option.some.inj et
      subst e6
      exact iteF (k G1 H1 x1)
theorem sndb_or {ia ib : E} {a b : Expr} {rest : List Expr} {pos : Pos} (ha : Snd X cf ia a) (hka : isPeek ia = false) (hb : SndB X cf .Or ib (b :: rest) pos) (hkb : isPeek ib = false) : SndB X cf .Or (.or ia ib) (a :: b :: rest) pos := by
  refine ⟨fun pins s σ H Q I h => ?_, (pw_or ha.pt hb.pw).weak fun σ H Q ⟨G, ρ, p, c, S, e, et, k⟩ => ?_⟩
  · obtain ⟨G, ρ, p, S, e, k⟩ := h
    obtain ⟨x, e1, e2⟩ := bnd_eq.mp (show bnd (evE cf ia ρ) (fun x => bnd (truthF x) fun t => DD.tst t (some x) (evE cf ib ρ)) = some p from e)
    obtain ⟨t, e3, e4⟩ := bnd_eq.mp e2
    refine BoolOp_or (thn (ha.pe pins s σ H (fun v H1 => ∃ G1, Ext G H G1 H1 ∧ Rp X.K G1 x v) I ⟨G, ρ, x, S, e1, fun v G1 H1 x1 r1 => ⟨G1, x1, r1.rp hka⟩⟩) fun u s1 ⟨v, H1, I1, rv, G1, x1, r1⟩ => ?_)
    refine thn (tru_ok pins s1 σ H1 v u (fun b H' => b = t ∧ H' = H1) I1 rv ⟨t, truV x1.gh (r1.rk x1.gh) e3, rfl, rfl⟩) fun b s2 ⟨H2, I2, hb', hH⟩ => ?_
    subst hb' hH
    cases b with
    | false => exact hb.pe pins s2 σ H2 Q I2 ⟨G1, ρ, p, S.ext x1, e4, fun w G2 H3 x2 r2 => k w G2 H3 (x1.trans x2) (.of rfl (r2.rp hkb))⟩
    | true =>
      have e5 : x = p := Option.some.inj e4
      subst e5
      exact ⟨v, H2, I2, rv, k v G1 H2 x1 (.of rfl r1)⟩
  · obtain ⟨x, e1, e2⟩ := bnd_eq.mp (show bnd (evE cf ia ρ) (fun x => bnd (truthF x) fun t => DD.tst t (some x) (evE cf ib ρ)) = some p from e)
    obtain ⟨t, e3, e4⟩ := bnd_eq.mp e2
    refine ⟨G, ρ, x, t, S, e1, e3, fun G1 H1 x1 => ?_⟩
    cases t with
    | false => exact iteF ⟨G1, ρ, p, c, S.ext x1, e4, et, fun G2 H2 x2 => k G2 H2 (x1.trans x2)⟩
    | true =>
      have e5 : x = p := Option.some.inj e4
      subst e5
      rw [e3] at et
      have e6 : true = c := Option.some.inj et
      subst e6
      exact iteT (k G1 H1 x1)
theorem SndB.snd {op : BoolOp} {ie : E} {es : List Expr} {pos : Pos} (h : SndB X cf op ie es pos) : Snd X cf ie (.BoolOp op es pos) := ⟨h.pe, h.pw.pt⟩
theorem chain_w {o o' : Op2} (ho2 : ∀ p q r, opF2 o p q = some r → ∃ b, r = .bool b) {a b c : E} : ∀ σ H Q, tE cf X.K (.chain o o' a b c) σ H Q → tChain (rOp2 X.K o) (rOp2 X.K o') (tE cf X.K a) (tE cf X.K b) (tE cf X.K c) σ H Q := fun σ H Q ⟨G, ρ, p, S, e, k⟩ => by
  obtain ⟨x, e1, e⟩ := bnd_eq.mp (show bnd (evE cf a ρ) (fun x => bnd (evE cf b ρ) fun y => bnd (opF2 o x y) (chainF fun _ => bnd (evE cf c ρ) fun z => opF2 o' y z)) = some p from e)
  obtain ⟨y, e2, e⟩ := bnd_eq.mp e
  obtain ⟨r, e3, e4⟩ := bnd_eq.mp e
  obtain ⟨t, rfl⟩ := ho2 x y r e3
  refine ⟨G, ρ, x, S, e1, fun v G1 H1 x1 r1 => ⟨G1, ρ, y, S.ext x1, e2, fun w G2 H2 x2 r2 => ⟨G2, x, y, .bool t, x2.gh, (r1.rk x1.gh).ext x2, r2.rk x2.gh, e3, fun u G3 H3 x3 r3 => ⟨t, r3, ?_⟩⟩⟩⟩
  cases t with
  | false =>
    cases (show some (PyData.bool false) = some p from e4)
    exact iteF (k _ G3 H3 (x1.trans (x2.trans x3)) (.of rfl rfl))
  | true =>
    obtain ⟨z, e5, e6⟩ := bnd_eq.mp (show bnd (evE cf c ρ) (fun z => opF2 o' y z) = some p from e4)
    exact iteT ⟨G3, ρ, z, ((S.ext x1).ext x2).ext x3, e5, fun u' G4 H4 x4 r4 => ⟨G4, y, z, p, x4.gh, ((r2.rk x2.gh).ext x3).ext x4, r4.rk x4.gh, e6, fun u5 G5 H5 x5 r5 => k u5 G5 H5 (x1.trans (x2.trans (x3.trans (x4.trans x5)))) (.of rfl r5)⟩⟩
theorem chain_bool {o o' : Op2} (ho' : ∀ p q r, opF2 o' p q = some r → ∃ b, r = .bool b) {a b c : E} {ρ : Env} {p : PV} (e : evE cf (.chain o o' a b c) ρ = some p) : ∃ t, p = .bool t := by
  obtain ⟨x, e1, e⟩ := bnd_eq.mp (show bnd (evE cf a ρ) (fun x => bnd (evE cf b ρ) fun y => bnd (opF2 o x y) (chainF fun _ => bnd (evE cf c ρ) fun z => opF2 o' y z)) = some p from e)
  obtain ⟨y, e2, e⟩ := bnd_eq.mp e
  obtain ⟨r, e3, e4⟩ := bnd_eq.mp e
  cases r with
  | bool t =>
    cases t with
    | true =>
      obtain ⟨z, e5, e6⟩ := bnd_eq.mp (show bnd (evE cf c ρ) (fun z => opF2 o' y z) = some p from e4)
      exact ho' _ _ _ e6
    | false => cases (show some (PyData.bool false) = some p from e4); exact ⟨false, rfl⟩
  | _ => cases (show none = some p from e4)
theorem snd_chain {op op' : CmpOp} {o o' : Op2} {ia ib ic : E} {a b c : Expr} {pos : Pos} (ho : OpR X (compareOp op) (rOp2 X.K o)) (ho' : OpR X (compareOp op') (rOp2 X.K o')) (h2 : ∀ p q r, opF2 o p q = some r → ∃ b, r = .bool b) (h2' : ∀ p q r, opF2 o' p q = some r → ∃ b, r = .bool b)
    (ha : PE X a (tE cf X.K ia)) (hb : PE X b (tE cf X.K ib)) (hc : PE X c (tE cf X.K ic)) (hm : lastMarks [op, op'] [b, c] = false) : Snd X cf (.chain o o' ia ib ic) (.Compare a [op, op'] [b, c] pos) := by
  refine ⟨(pe_chain ho ho' ha hb hc hm).weak (chain_w h2), (pt_chain ho ho' ha hb hc hm).weak fun σ H Q ⟨G, ρ, p, t, S, e, et, k⟩ => ?_⟩
  refine chain_w h2 σ H (fun x H' => ∃ c, x = .bl c ∧ Q c H') ⟨G, ρ, p, S, e, fun v G' H' x r => ?_⟩
  obtain ⟨b', rfl⟩ := chain_bool h2' e
  have et' : b' = t := Option.some.inj et
  subst et'
  have rv : Rp X.K G' (.bool b') v := r.rp rfl
  cases (show v = .bl b' from rv)
  exact ⟨b', rfl, k G' H' x⟩
noncomputable def spD (K : PySem.W.Frag) (np : Nat) (r : List PV → Option PV) : Sp := fun vs H Q _ => vs.length = np ∧ ∃ G ps p, Sub G H ∧ RpA K G ps vs ∧ r ps = some p ∧ ∀ v G' H', Ext G H G' H' → Rp K G' p v → Q v H'
theorem snd_call {f : Nat} {ia : E} {es : List Expr} {x : Str} {p pos : Pos} {k : Nat} {fa : Addr} {fd : FuncData} {ps : List Str} {e : Expr} (F : FnOk X.prog X.w X.K X.mg X.base CX0 k fa fd ps (spD X.K ps.length (cf f))) (hr : Room k X.A) (hg : Gl X x) (hm : X.mg x = some (.ref fa))
    (hk : PySem.W.keepIn X.K (.ref fa) = true) (hb : Binds X.K fd ps []) (ha : PA X (e :: es) (tA cf X.K ia)) (hn : argN ia = some ps.length) (hdb : (x == ("__debug__" : Str)) = false) (hs : plainE e = true) (hpl : es.all plainE = true) :
    Snd X cf (.call f ia) (.Call (.Name x p) (e :: es) [] pos) := by
  have hany : (backTo pos (starEach es X.env)).any (·.1) = false := by
    have : ∀ l : List Expr, l.all plainE = true → (starEach l X.env).any (·.1) = false := by
      intro l
      induction l with
      | nil => intro _; rfl
      | cons y l ih =>
        intro h
        rw [List.all_cons, Bool.and_eq_true] at h
        rw [star_of h.1, List.any_cons, ih h.2]; rfl
    have h2 := this es hpl
    have h3 : ∀ l : List (Bool × Sem Value), (backTo pos l).any (·.1) = l.any (·.1) := by
      intro l
      unfold backTo
      rw [List.any_map]
      rfl
    rw [h3]; exact h2
  refine .plain ((pe_call F hr hg hm hk hb .nil pass0 ha hdb (star_of hs _ _) hany).weak fun σ H Q ⟨G, ρ, q, S, e, k⟩ => ?_) (fun _ => rfl)
  obtain ⟨r, e1, e2⟩ := bnd_eq.mp (show bnd (evE cf ia ρ) (callF cf f) = some q from e)
  obtain ⟨xs, rfl, hl⟩ := args_len ia _ ρ r hn e1
  refine ⟨G, ρ, xs, S, e1, fun vs G1 H1 x1 r1 => ?_⟩
  show spD X.K ps.length (cf f) (vs ++ []) H1 Q E0
  rw [List.append_nil]
  exact ⟨by rw [← r1.length]; exact hl, G1, xs, q, x1.gh, r1, e2, fun v G2 H2 x2 r2 => k v G2 H2 (x1.trans x2) (.of rfl r2)⟩
end
end DD
set_option Elab.async false
set_option linter.all false
set_option genInjectivity false
namespace DD
open PySem
noncomputable def onName (e : Expr) (k : Str → Pos → Bool) : Bool := match e with
  | .Name x p => k x p
  | _ => false
@[elab_as_elim] theorem onName_el {e : Expr} {k : Str → Pos → Bool} {P : Expr → Prop} (h : onName e k = true) (H : ∀ x p, k x p = true → P (.Name x p)) : P e := by
  cases e with
  | Name x p => exact H x p h
  | _ => exact nomatch (show false = true from h)
noncomputable def onConst (e : Expr) (k : Const → Nat → Pos → Bool) : Bool := match e with
  | .Constant c j p => k c j p
  | _ => false
@[elab_as_elim] theorem onConst_el {e : Expr} {k : Const → Nat → Pos → Bool} {P : Expr → Prop} (h : onConst e k = true) (H : ∀ c j p, k c j p = true → P (.Constant c j p)) : P e := by
  cases e with
  | Constant c j p => exact H c j p h
  | _ => exact nomatch (show false = true from h)
noncomputable def onCall (e : Expr) (k : Expr → List Expr → Pos → Bool) : Bool := match e with
  | .Call g as ks p => ks.isEmpty && k g as p
  | _ => false
@[elab_as_elim] theorem onCall_el {e : Expr} {k : Expr → List Expr → Pos → Bool} {P : Expr → Prop} (h : onCall e k = true) (H : ∀ g as p, k g as p = true → P (.Call g as [] p)) : P e := by
  cases e with
  | Call g as ks p =>
    have h' : (ks.isEmpty && k g as p) = true := h
    cases ks with
    | nil => exact H g as p h'
    | cons _ _ => exact nomatch (show false = true from h')
  | _ => exact nomatch (show false = true from h)
noncomputable def onAttr (e : Expr) (k : Expr → Str → Pos → Bool) : Bool := match e with
  | .Attribute v m p => k v m p
  | _ => false
@[elab_as_elim] theorem onAttr_el {e : Expr} {k : Expr → Str → Pos → Bool} {P : Expr → Prop} (h : onAttr e k = true) (H : ∀ v m p, k v m p = true → P (.Attribute v m p)) : P e := by
  cases e with
  | Attribute v m p => exact H v m p h
  | _ => exact nomatch (show false = true from h)
noncomputable def onUn (e : Expr) (k : UnaryOp → Expr → Pos → Bool) : Bool := match e with
  | .UnaryOp u x p => k u x p
  | _ => false
@[elab_as_elim] theorem onUn_el {e : Expr} {k : UnaryOp → Expr → Pos → Bool} {P : Expr → Prop} (h : onUn e k = true) (H : ∀ u x p, k u x p = true → P (.UnaryOp u x p)) : P e := by
  cases e with
  | UnaryOp u x p => exact H u x p h
  | _ => exact nomatch (show false = true from h)
noncomputable def isUSub : UnaryOp → Bool
  | .USub => true
  | _ => false
theorem isUSub_of {u : UnaryOp} (h : isUSub u = true) : u = .USub := by cases u <;> first | rfl | exact nomatch (show false = true from h)
noncomputable def isNotU : UnaryOp → Bool
  | .Not => true
  | _ => false
theorem isNotU_of {u : UnaryOp} (h : isNotU u = true) : u = .Not := by cases u <;> first | rfl | exact nomatch (show false = true from h)
noncomputable def onBin (e : Expr) (k : Expr → Operator → Expr → Pos → Bool) : Bool := match e with
  | .BinOp x o y p => k x o y p
  | _ => false
@[elab_as_elim] theorem onBin_el {e : Expr} {k : Expr → Operator → Expr → Pos → Bool} {P : Expr → Prop} (h : onBin e k = true) (H : ∀ x o y p, k x o y p = true → P (.BinOp x o y p)) : P e := by
  cases e with
  | BinOp x o y p => exact H x o y p h
  | _ => exact nomatch (show false = true from h)
noncomputable def onBool (e : Expr) (k : BoolOp → List Expr → Pos → Bool) : Bool := match e with
  | .BoolOp o xs p => k o xs p
  | _ => false
@[elab_as_elim] theorem onBool_el {e : Expr} {k : BoolOp → List Expr → Pos → Bool} {P : Expr → Prop} (h : onBool e k = true) (H : ∀ o xs p, k o xs p = true → P (.BoolOp o xs p)) : P e := by
  cases e with
  | BoolOp o xs p => exact H o xs p h
  | _ => exact nomatch (show false = true from h)
noncomputable def onCmp (e : Expr) (k : Expr → List CmpOp → List Expr → Pos → Bool) : Bool := match e with
  | .Compare x os ys p => k x os ys p
  | _ => false
@[elab_as_elim] theorem onCmp_el {e : Expr} {k : Expr → List CmpOp → List Expr → Pos → Bool} {P : Expr → Prop} (h : onCmp e k = true) (H : ∀ x os ys p, k x os ys p = true → P (.Compare x os ys p)) : P e := by
  cases e with
  | Compare x os ys p => exact H x os ys p h
  | _ => exact nomatch (show false = true from h)
noncomputable def onSub (e : Expr) (k : Expr → Expr → Pos → Bool) : Bool := match e with
  | .Subscript x y p => k x y p
  | _ => false
@[elab_as_elim] theorem onSub_el {e : Expr} {k : Expr → Expr → Pos → Bool} {P : Expr → Prop} (h : onSub e k = true) (H : ∀ x y p, k x y p = true → P (.Subscript x y p)) : P e := by
  cases e with
  | Subscript x y p => exact H x y p h
  | _ => exact nomatch (show false = true from h)
noncomputable def onSlice (e : Expr) (k : Option Expr → Option Expr → Option Expr → Pos → Bool) : Bool := match e with
  | .Slice a b c p => k a b c p
  | _ => false
@[elab_as_elim] theorem onSlice_el {e : Expr} {k : Option Expr → Option Expr → Option Expr → Pos → Bool} {P : Expr → Prop} (h : onSlice e k = true) (H : ∀ a b c p, k a b c p = true → P (.Slice a b c p)) : P e := by
  cases e with
  | Slice a b c p => exact H a b c p h
  | _ => exact nomatch (show false = true from h)
noncomputable def onTup (e : Expr) (k : List Expr → Nat → Pos → Bool) : Bool := match e with
  | .Tuple xs j p => k xs j p
  | _ => false
@[elab_as_elim] theorem onTup_el {e : Expr} {k : List Expr → Nat → Pos → Bool} {P : Expr → Prop} (h : onTup e k = true) (H : ∀ xs j p, k xs j p = true → P (.Tuple xs j p)) : P e := by
  cases e with
  | Tuple xs j p => exact H xs j p h
  | _ => exact nomatch (show false = true from h)
noncomputable def onList (e : Expr) (k : List Expr → Pos → Bool) : Bool := match e with
  | .List xs p => k xs p
  | _ => false
@[elab_as_elim] theorem onList_el {e : Expr} {k : List Expr → Pos → Bool} {P : Expr → Prop} (h : onList e k = true) (H : ∀ xs p, k xs p = true → P (.List xs p)) : P e := by
  cases e with
  | List xs p => exact H xs p h
  | _ => exact nomatch (show false = true from h)
noncomputable def onDict (e : Expr) (k : List (Option Expr) → List Expr → Pos → Bool) : Bool := match e with
  | .Dict es vs p => k es vs p
  | _ => false
@[elab_as_elim] theorem onDict_el {e : Expr} {k : List (Option Expr) → List Expr → Pos → Bool} {P : Expr → Prop} (h : onDict e k = true) (H : ∀ es vs p, k es vs p = true → P (.Dict es vs p)) : P e := by
  cases e with
  | Dict es vs p => exact H es vs p h
  | _ => exact nomatch (show false = true from h)
noncomputable def onIfE (e : Expr) (k : Expr → Expr → Expr → Pos → Bool) : Bool := match e with
  | .IfExp t x y p => k t x y p
  | _ => false
noncomputable def onLC (e : Expr) (k : Expr → List Comprehension → Scope → Pos → Bool) : Bool := match e with
  | .ListComp y gs sc p => k y gs sc p
  | _ => false
@[elab_as_elim] theorem onLC_el {e : Expr} {k : Expr → List Comprehension → Scope → Pos → Bool} {P : Expr → Prop} (h : onLC e k = true) (H : ∀ y gs sc p, k y gs sc p = true → P (.ListComp y gs sc p)) : P e := by
  cases e with
  | ListComp y gs sc p => exact H y gs sc p h
  | _ => exact nomatch (show false = true from h)
noncomputable def on1 {α : Type} (l : List α) (k : α → Bool) : Bool := match l with
  | [x] => k x
  | _ => false
@[elab_as_elim] theorem on1_el {α : Type} {l : List α} {k : α → Bool} {P : List α → Prop} (h : on1 l k = true) (H : ∀ x, k x = true → P ([x])) : P l := by
  cases l with
  | nil => exact nomatch (show false = true from h)
  | cons x l =>
    cases l with
    | nil => exact H x h
    | cons _ _ => exact nomatch (show false = true from h)
noncomputable def on2 {α : Type} (l : List α) (k : α → α → Bool) : Bool := match l with
  | x :: r => on1 r (k x)
  | _ => false
@[elab_as_elim] theorem on2_el {α : Type} {l : List α} {k : α → α → Bool} {P : List α → Prop} (h : on2 l k = true) (H : ∀ x y, k x y = true → P ([x, y])) : P l := by
  cases l with
  | nil => exact nomatch (show false = true from h)
  | cons x l =>
    exact on1_el (P := fun r => P (x :: r)) (show on1 l (k x) = true from h) fun y h => H x y h
noncomputable def onCons {α : Type} (l : List α) (k : α → List α → Bool) : Bool := match l with
  | x :: r => k x r
  | _ => false
@[elab_as_elim] theorem onCons_el {α : Type} {l : List α} {k : α → List α → Bool} {P : List α → Prop} (h : onCons l k = true) (H : ∀ x r, k x r = true → P (x :: r)) : P l := by
  cases l with
  | nil => exact nomatch (show false = true from h)
  | cons x l => exact H x l h
noncomputable def onSo {α : Type} (o : Option α) (k : α → Bool) : Bool := match o with
  | some x => k x
  | none => false
@[elab_as_elim] theorem onSo_el {α : Type} {o : Option α} {k : α → Bool} {P : Option α → Prop} (h : onSo o k = true) (H : ∀ x, k x = true → P (some x)) : P o := by
  cases o with
  | none => exact nomatch (show false = true from h)
  | some x => exact H x h
theorem onSo_of {α : Type} {o : Option α} {k : α → Bool} (h : onSo o k = true) : ∃ x, o = some x ∧ k x = true := onSo_el (P := fun o => ∃ x, o = some x ∧ k x = true) h fun x h => ⟨x, rfl, h⟩
theorem isN_of {α : Type} {o : Option α} (h : o.isNone = true) : o = none := by
  cases o with
  | none => rfl
  | some _ => exact nomatch (show false = true from h)
noncomputable def onInt (c : Const) (k : Int → Bool) : Bool := match c with
  | .int i => k i
  | _ => false
@[elab_as_elim] theorem onInt_el {c : Const} {k : Int → Bool} {P : Const → Prop} (h : onInt c k = true) (H : ∀ i, k i = true → P (.int i)) : P c := by
  cases c with
  | int i => exact H i h
  | _ => exact nomatch (show false = true from h)
noncomputable def onStr (c : Const) (k : Str → Bool) : Bool := match c with
  | .str i => k i
  | _ => false
noncomputable def isNonC : Const → Bool
  | .none => true
  | _ => false
noncomputable def onAsg (st : Stmt) (k : Expr → Expr → Pos → Bool) : Bool := match st with
  | .Assign ts v p => on1 ts fun t => k t v p
  | _ => false
@[elab_as_elim] theorem onAsg_el {st : Stmt} {k : Expr → Expr → Pos → Bool} {P : Stmt → Prop} (h : onAsg st k = true) (H : ∀ t v p, k t v p = true → P (.Assign [t] v p)) : P st := by
  cases st with
  | Assign ts v p =>
    exact on1_el (P := fun r => P (.Assign r v p)) (show on1 ts (fun t => k t v p) = true from h) fun t h => H t v p h
  | _ => exact nomatch (show false = true from h)
noncomputable def onRet (st : Stmt) (k : Expr → Bool) : Bool := match st with
  | .Return v _ => onSo v k
  | _ => false
@[elab_as_elim] theorem onRet_el {st : Stmt} {k : Expr → Bool} {P : Stmt → Prop} (h : onRet st k = true) (H : ∀ v p, k v = true → P (.Return (some v) p)) : P st := by
  cases st with
  | Return v p =>
    exact onSo_el (P := fun r => P (.Return r p)) (show onSo v k = true from h) fun v h => H v p h
  | _ => exact nomatch (show false = true from h)
noncomputable def onIfS (st : Stmt) (k : Expr → List Stmt → List Stmt → Bool) : Bool := match st with
  | .If t x y _ => k t x y
  | _ => false
@[elab_as_elim] theorem onIfS_el {st : Stmt} {k : Expr → List Stmt → List Stmt → Bool} {P : Stmt → Prop} (h : onIfS st k = true) (H : ∀ t x y p, k t x y = true → P (.If t x y p)) : P st := by
  cases st with
  | If t x y p => exact H t x y p h
  | _ => exact nomatch (show false = true from h)
noncomputable def onFor (st : Stmt) (k : Expr → Expr → List Stmt → Bool) : Bool := match st with
  | .For t i b o _ => o.isEmpty && k t i b
  | _ => false
@[elab_as_elim] theorem onFor_el {st : Stmt} {k : Expr → Expr → List Stmt → Bool} {P : Stmt → Prop} (h : onFor st k = true) (H : ∀ t i b p, k t i b = true → P (.For t i b [] p)) : P st := by
  cases st with
  | For t i b o p =>
    have h' : (o.isEmpty && k t i b) = true := h
    cases o with
    | nil => exact H t i b p h'
    | cons _ _ => exact nomatch (show false = true from h')
  | _ => exact nomatch (show false = true from h)
noncomputable def onExS (st : Stmt) (k : Expr → Bool) : Bool := match st with
  | .Expr e _ => k e
  | _ => false
@[elab_as_elim] theorem onExS_el {st : Stmt} {k : Expr → Bool} {P : Stmt → Prop} (h : onExS st k = true) (H : ∀ e p, k e = true → P (.Expr e p)) : P st := by
  cases st with
  | Expr e p => exact H e p h
  | _ => exact nomatch (show false = true from h)
end DD
set_option Elab.async false
set_option linter.all false
set_option maxRecDepth 100000
namespace DD
open PySem PySem.Spec PyProof.Rows L2
section
variable {X : Cx}
theorem truths_rel {K : PySem.W.Frag} {G : Hp} : ∀ {ps : List PV} {vs : List V} {us : List Value} {bs : List Bool}, RpL K G ps vs → Vals vs us → truths ps = some bs → us = bs.map Value.bool
  | [], _, _, _, h, r, e => by
    cases (show _ = [] from h)
    cases r
    cases (show some [] = some _ from e)
    rfl
  | p :: ps, _, _, bs, h, r, e => by
    obtain ⟨v, w, rfl, ⟨_, h1⟩, h2⟩ := (show ∃ v r, _ = v :: r ∧ (isDict p = false ∧ Rp K G p v) ∧ RpL K G ps r from h)
    cases r with
    | cons r1 r2 =>
      cases p with
      | bool b =>
        obtain ⟨q, e1, e2⟩ := bnd_eq.mp (show bnd (truths ps) (fun q => some (b :: q)) = some bs from e)
        cases e2
        cases (show v = .bl b from h1)
        cases (show _ = Value.bool b from r1)
        rw [truths_rel h2 r2 e1]; rfl
      | _ => simp [truths] at e
theorem range_all (bs : List Bool) : (List.range bs.length).all (fun i => bs.getD i true) = bs.all id := by
  induction bs with
  | nil => rfl
  | cons b bs ih =>
    rw [List.length_cons, List.range_succ_eq_map, List.all_cons, List.all_map, List.all_cons, ← ih]
    rfl
theorem truth_bools {prog : Program} {w : World} {A : Around} (bs : List Bool) : TruthOf prog w A (fun i v => (bs.map Value.bool).toArray[i]? = some v) (fun i => bs.getD i true) := by
  intro i v s Q E hP hQ
  rw [List.getElem?_toArray, List.getElem?_map] at hP
  cases e : bs[i]? with
  | none => rw [e] at hP; cases hP
  | some b =>
    rw [e] at hP
    cases hP
    have : bs.getD i true = b := by rw [List.getD_eq_getElem?_getD, e]; rfl
    have hQ' : Q (bs.getD i true) s := hQ
    rw [this] at hQ'
    exact wpAny_truthy_bool hQ'
theorem s_all (hcm : X.calm = true) : CallR X (.builtin "all") (rC1 X.K .all) := by
  intro pins s σ H xs us Q I r h
  have hh : X.A.handled = none := I.ok.hd hcm
  obtain ⟨x, rfl, G, p, q, sb, hp, e, k⟩ := h
  cases p with
  | list ps =>
    obtain ⟨bs, e1, e2⟩ := bnd_eq.mp (show bnd (truths ps) (fun bs => some (PyData.bool (bs.all id))) = some q from e)
    cases e2
    obtain ⟨a, vs, rfl, q1, r1⟩ := (show ∃ a vs, x = V.ref a ∧ SqL X.K H a vs ∧ RpL X.K G ps vs from hp)
    obtain ⟨u, rfl, ru⟩ := vals1 r
    cases (show u = Value.ref a from ru)
    obtain ⟨its, rv, pl, hz⟩ := I.list q1
    have hb := truths_rel r1 rv e1
    subst hb
    refine call_all_walk ?_
    refine wpAny_pyIter_list pl.isList ?_
    have hne : a ≠ s.heap.objs.size := by
      obtain ⟨o, n, e, _⟩ := pl
      exact Nat.ne_of_lt (Heap.lt_size e)
    refine ⟨s.heap.objs.size, _, _, _, _, _, fun i => bs.getD i true, rfl, Walks.list (show X.A.in1.handled = none from hh) _ a hne (bs.map Value.bool).toArray, ⟨⟨_, Heap.get?_push_size _ rfl, rfl, rfl⟩, ?_⟩, truth_bools bs, fun h' tk hk => ?_⟩
    · exact pl.isList.at fun o e => Heap.get?_push_of_some _ e
    · have hsz : (bs.map Value.bool).toArray.size = bs.length := by simp
      rw [hsz, range_all]
      refine ⟨.bl _, H, I.kept (t' := tk) fun b o e => ?_, rfl, k _ G H (.refl sb) rfl⟩
      exact hk b o (by simpa using Nat.ne_of_lt (Heap.lt_size e)) (Heap.get?_push_of_some _ e)
  | _ => exact nomatch (show none = some _ from e)
theorem s_pow : OpR X (binaryOp .Pow) (rOp2 X.K .pow) := by
  intro pins s σ H x y v u Q I rx ry h
  obtain ⟨G, p, q, r, sb, hp, hq, e, k⟩ := h
  cases p with
  | int i =>
    cases q with
    | int j =>
      have e' : (if i = 10 ∧ 0 ≤ j ∧ j ≤ 64 then some (PyData.int (10 ^ j.toNat)) else none) = some r := e
      by_cases hl : i = 10 ∧ 0 ≤ j ∧ j ≤ 64
      · rw [if_pos hl] at e'
        cases e'
        obtain ⟨rfl, h0, h1⟩ := hl
        cases (show x = .int 10 from hp); cases (show y = .int j from hq)
        obtain ⟨t, rfl⟩ := (show ∃ t, v = Value.int 10 t from rx)
        obtain ⟨t', rfl⟩ := (show ∃ t, u = Value.int j t from ry)
        have fin : ∀ tk, EP X pins σ Q (.int (10 ^ j.toNat) s.toks) { s with toks := tk } := fun tk => ⟨.int _, H, I.tok tk, ⟨_, rfl⟩, k _ G H (.refl sb) rfl⟩
        by_cases hz : j = 0
        · subst hz
          exact PySem.AutoIntOps.pow_0 (by decide) (by decide) (fin _)
        · refine PySem.AutoIntOps.pow_4 h0 (by simpa using hz) (by decide) (by decide) ?_ (fin _)
          have : (Builtin.Int.intBits 10 : Nat) = 4 := by decide +kernel
          rw [this]
          have hb : ((4 : Nat) : Int) * j ≤ 256 := by lia
          have hz : (256 : Nat) ≤ bitsLine := by decide
          unfold Builtin.Int.intTooBig
          simp
          lia
      · rw [if_neg hl] at e'; cases e'
    | _ => simp [opF2, powF] at e
  | _ => cases q <;> simp [opF2, powF] at e
end
end DD
set_option Elab.async false
set_option linter.all false
set_option maxRecDepth 100000
namespace DD
open PySem PySem.Spec PyProof.Rows L2
theorem strOk_of (s : String) : PyData.strOk (Str.ofString s) = true := by
  rw [Str.ofString_eq_toList]
  unfold PyData.strOk
  rw [Array.all_eq_true_iff_forall_mem]
  intro c hc
  have hc' : c ∈ s.toList.map Char.toNat := by simpa using hc
  obtain ⟨ch, _, rfl⟩ := List.mem_map.mp hc'
  have hv : ch.val.toNat < 1114112 := by
    rcases ch.valid with h | ⟨_, h⟩
    · have : ch.val.toNat < 55296 := h
      lia
    · exact h
  exact decide_eq_true hv
theorem log2_lt {n : Nat} (h : n < 2 ^ 64) : n.log2 < 1920 := by
  by_cases h0 : n = 0
  · subst h0; decide
  · have := (Nat.log2_lt h0 (k := 64)).mpr h
    lia
theorem fm_map {α β : Type} {f : α → Option β} {g : α → β} : ∀ l : List α, (∀ x ∈ l, f x = some (g x)) → l.filterMap f = l.map g
  | [], _ => rfl
  | x :: l, h => by
    rw [List.filterMap_cons, h x List.mem_cons_self, fm_map l fun y hy => h y (List.mem_cons_of_mem _ hy)]
    rfl
theorem rev_pick {α : Type} (xs : List α) : (List.range xs.length).filterMap (fun (k : Nat) => xs.toArray[(((xs.length : Nat) : Int) - 1 + (k : Int) * (-1)).toNat]?) = xs.reverse := by
  cases xs with
  | nil => rfl
  | cons d r =>
    rw [fm_map (g := fun k => (d :: r).getD ((d :: r).length - 1 - k) d)]
    · apply List.ext_getElem?
      intro i
      by_cases hi : i < (d :: r).length
      · rw [List.getElem?_map, List.getElem?_range hi, List.getElem?_reverse hi, Option.map_some, List.getD_eq_getElem?_getD, List.getElem?_eq_getElem (by lia)]
        rfl
      · rw [List.getElem?_eq_none (by simpa using hi), List.getElem?_eq_none (by simpa using hi)]
    · intro k hk
      have hk' := List.mem_range.mp hk
      have e : ((((d :: r).length : Nat) : Int) - 1 + (k : Int) * (-1)).toNat = (d :: r).length - 1 - k := by lia
      rw [e, List.getElem?_toArray, List.getD_eq_getElem?_getD, List.getElem?_eq_getElem (by lia)]
      rfl
theorem adjust_rev (n : Nat) : Builtin.Slice.sliceAdjust none none (-1) (n : Int) = ((n : Int) - 1, -1) := by
  unfold Builtin.Slice.sliceAdjust
  simp
theorem places_rev (n : Nat) : Builtin.Slice.slicePlaces ((n : Int) - 1) (-1) (-1) = n := by
  unfold Builtin.Slice.slicePlaces
  simp
  split <;> lia
section
variable {prog : Program} {w : World} {A : Around} {E : Value → Shared → Prop} {s : Shared}
theorem sliceApplied_rev {sl : Addr} {t : Tok} {n : Nat} {Q : Int × Int × Nat → Shared → Prop} (hs : s.heap.IsSliceOf sl .none .none (.int (-1) t)) (h : Q ((n : Int) - 1, -1, n) s) :
    wpAny (model prog w) A (Builtin.Slice.sliceApplied (.ref sl) (pure (n : Int))) Q E s := by
  obtain ⟨os, hos, hcs, hds⟩ := id hs
  unfold Builtin.Slice.sliceApplied Builtin.Slice.sliceFields
  refine wpAny_bind (wpAny_bind (wpAny_field hos hds (x := .none) rfl (wpAny_bind (wpAny_field hos hds (x := .none) rfl (wpAny_bind (wpAny_field hos hds (x := .int (-1) t) rfl (wpAny_pure ?_)))))))
  refine wpAny_bind (slicePart_int ?_)
  show wpAny _ _ (if ((-1 : Int) == 0) = true then _ else _) _ _ s
  rw [if_neg (by decide)]
  refine wpAny_bind (slicePart_none (wpAny_bind (slicePart_none (wpAny_bind (wpAny_pure ?_)))))
  simp only [Option.getD_some]
  rw [adjust_rev]
  refine wpAny_pure ?_
  rw [places_rev]
  exact h
theorem getItem_tuple_rev {t sl : Addr} {tk : Tok} {items : Array Value} {Q : Value → Shared → Prop} (ht : IsTup s.heap t items) (hs : s.heap.IsSliceOf sl .none .none (.int (-1) tk)) (hsz : items.size ≤ sizeLine)
    (h : Q (.ref s.heap.objs.size) { s with heap := s.heap.push { cls := .type "tuple", data := .seq items.toList.reverse.toArray } }) : wpAny (model prog w) A (getItem (.ref t) (.ref sl)) Q E s := by
  have htake : sizeOk (.seq items.toList.reverse.toArray) := by
    show items.toList.reverse.toArray.size ≤ sizeLine
    simpa using hsz
  obtain ⟨os, hos, hcs, hds⟩ := id hs
  have hTs : s.TypeIs (.ref sl) "slice" := ⟨os, hos, hcs⟩
  unfold getItem
  try with_reducible refine wpAny_holding ?_
  first | refine wpAny_bind (wpAny_pure ?_) | skip
  refine wpAny_bind (wpAny_sequenceKey ht.typeIs (by decide) ?_)
  refine wpAny_bind (wpAny_callSpecial?_slot (name := Str.ofString "__getitem__") ht.typeIs PyProof.Rows.slot_tuple_getitem
    (wpAny_call_entry PyProof.Rows.slot_tuple_getitem ht.typeIs entry_tuple_getitem ?_ (args_tuple_getitem _ _)))
  show wpAny _ _ (Builtin.Tuple.tupleItemsOf (.ref t) >>= _) _ _ s
  refine wpAny_bind (tupleItemsOf_ ht ?_)
  refine wpAny_bind (wpAny_typeOf hTs ?_)
  rw [if_pos (by decide)]
  refine wpAny_bind (sliceApplied_rev hs ?_)
  show wpAny _ _ (if ((((items.size : Nat) : Int) - 1) == 0 && (-1 : Int) == 1 && items.size == items.size) = true then _ else _) _ _ s
  rw [if_neg (by simp)]
  have hp := rev_pick items.toList
  rw [Array.length_toList, Array.toArray_toList] at hp
  rw [hp]
  first
    | exact wpAny_bind (m := Builtin.Tuple.tupleExact _) (wpAny_newObj_type (wpAny_pure ⟨_, rfl, wpAny_pure h⟩) htake)
    | exact wpAny_bind (m := Builtin.Tuple.tupleExact _) (wpAny_newObj_type (wpAny_bind (wpAny_pure (wpAny_pure ⟨_, rfl, wpAny_pure h⟩))) htake)
    | exact wpAny_bind (wpAny_bind (m := Builtin.Tuple.tupleExact _) (wpAny_newObj_type (wpAny_pure (wpAny_pure ⟨_, rfl, wpAny_pure h⟩)) htake))
    | exact wpAny_bind (wpAny_bind (m := Builtin.Tuple.tupleExact _) (wpAny_newObj_type (wpAny_pure ⟨_, rfl, wpAny_pure h⟩) htake))
end
end DD
set_option Elab.async false
set_option linter.all false
set_option maxRecDepth 100000
namespace DD
open PySem PySem.Spec PyProof.Rows L2
section
variable {X : Cx} {cf : CF}
theorem s_toStr : CallR X (.type "str") (rC1 X.K .toStr) := by
  intro pins s σ H xs us Q I r h
  obtain ⟨x, rfl, G, p, q, sb, hp, e, k⟩ := h
  obtain ⟨u, rfl, ru⟩ := vals1 r
  cases p with
  | int i =>
    have e' : (if i.natAbs < 2 ^ 64 then some (PyData.str (intStr i)) else none) = some q := e
    by_cases hl : i.natAbs < 2 ^ 64
    · rw [if_pos hl] at e'
      cases e'
      cases (show x = .int i from hp)
      obtain ⟨t, rfl⟩ := (show ∃ t, u = Value.int i t from ru)
      refine PySem.P.str_of_int (log2_lt hl) ⟨.str (intStr i), H, I.tok _, ⟨_, rfl⟩, k _ G H (.refl sb) ⟨rfl, strOk_of _, ?_⟩⟩
      have := int_text_fits (log2_lt hl)
      rw [← line_eq]
      exact this
    · rw [if_neg hl] at e'; cases e'
  | _ => exact nomatch (show none = some _ from e)
noncomputable def keyC : PV → Expr → Bool
  | .str x, .Constant (.str y) _ _ => x == y && PyData.strOk x && decide (x.length ≤ 16777216)
  | .int i, .Constant (.int j) _ _ => i == j
  | _, _ => false
theorem keyC_ok {k : PV} {e : Expr} (h : keyC k e = true) : ∃ key, keyOf k = some key ∧ PE X e (tC (kV key)) := by
  cases k with
  | str x =>
    cases e with
    | Constant c j p =>
      cases c with
      | str y =>
        have h' : (x == y && PyData.strOk x && decide (x.length ≤ 16777216)) = true := h
        simp only [Bool.and_eq_true, beq_iff_eq] at h'
        obtain ⟨⟨rfl, _⟩, _⟩ := h'
        exact ⟨_, rfl, pe_str⟩
      | _ => exact nomatch (show false = true from h)
    | _ => exact nomatch (show false = true from h)
  | int x =>
    cases e with
    | Constant c j p =>
      cases c with
      | int y =>
        cases eq_of_beq (show (x == y) = true from h)
        exact ⟨_, rfl, pe_int⟩
      | _ => exact nomatch (show false = true from h)
    | _ => exact nomatch (show false = true from h)
  | _ => exact nomatch (show false = true from h)
theorem put_new {l : List (Key × V)} {k : Key} (v : V) (h : ∀ x ∈ l, x.1 ≠ k) : putK l k v = l ++ [(k, v)] := by
  unfold putK
  rw [if_neg]
  simp only [List.any_eq_true, decide_eq_true_eq, not_exists, not_and]
  exact h
theorem merge_new : ∀ (more l : List (Key × V)), (more.map (·.1)).Nodup → (∀ x ∈ l, ∀ y ∈ more, x.1 ≠ y.1) → mergeK l more = l ++ more
  | [], l, _, _ => by simp [mergeK]
  | p :: r, l, hn, hl => by
    rw [List.map_cons, List.nodup_cons] at hn
    show mergeK (putK l p.1 p.2) r = _
    rw [put_new _ fun x hx => hl x hx p List.mem_cons_self, merge_new r _ hn.2]
    · simp
    · intro x hx y hy
      rcases List.mem_append.mp hx with z | z
      · exact hl x z y (List.mem_cons_of_mem _ hy)
      · rw [List.mem_singleton.mp z]
        intro e
        exact hn.1 (by rw [e]; exact List.mem_map.mpr ⟨y, hy, rfl⟩)
section
variable (f : E → Expr → Bool)
noncomputable def chkD : List PV → E → List (Option Expr) → List Expr → Bool
  | [], .nil, [], [] => true
  | k :: ks, .cons h t, some e :: es, v :: vs => keyC k e && !isPeek h && f h v && chkD ks t es vs
  | _, _, _, _ => false
end
theorem disp_ok {f : E → Expr → Bool} (IH : ∀ ie e, f ie e = true → Snd X cf ie e) {pos : Pos} : ∀ (ks : List PV) (a : E) (es : List (Option Expr)) (vs : List Expr), chkD f ks a es vs = true →
    es.length = ks.length ∧ vs.length = ks.length ∧ es.all (·.isSome) = true ∧ ∃ (keys : List Key) (trs : List (TE × TE)), ks.map keyOf = keys.map some ∧ PPs X pos es vs trs ∧ ∀ (σ : St) (H : Hp) (Q : List (V × V) → Hp → Prop) (G : Hp) (ρ : Env) (xs : List PV),
      SR X.K G H σ ρ → evE cf a ρ = some (.tuple xs) → (∀ ws G' H', Ext G H G' H' → RpA X.K G' xs ws → ws.length = keys.length → Q ((keys.zip ws).map fun kv => (kV kv.1, kv.2)) H') → tPairs trs σ H Q := by
  intro ks
  induction ks with
  | nil =>
    intro a es vs h
    cases a with
    | nil =>
      cases es with
      | nil =>
        cases vs with
        | nil =>
          exact ⟨rfl, rfl, rfl, [], [], rfl, pps_nil, fun σ H Q G ρ xs S e k => by
            cases (show some (PyData.tuple []) = some (.tuple xs) from e)
            exact k [] G H (.refl S.sub) .nil rfl⟩
        | cons _ _ => exact nomatch (show false = true from h)
      | cons _ _ => exact nomatch (show false = true from h)
    | _ => exact nomatch (show false = true from h)
  | cons k0 ks ih =>
    intro a es vs h
    cases a with
    | cons h0 t =>
      cases es with
      | nil => exact nomatch (show false = true from h)
      | cons oe es =>
        cases oe with
        | none => exact nomatch (show false = true from h)
        | some e =>
          cases vs with
          | nil => exact nomatch (show false = true from h)
          | cons v vs =>
            have hc : (keyC k0 e && !isPeek h0 && f h0 v && chkD f ks t es vs) = true := h
            simp only [Bool.and_eq_true, Bool.not_eq_true'] at hc
            obtain ⟨⟨⟨h1, h2⟩, h3⟩, h4⟩ := hc
            obtain ⟨l1, l2, l3, keys, trs, hk, hp, hr⟩ := ih t es vs h4
            obtain ⟨key, ek, pk⟩ := keyC_ok (X := X) h1
            refine ⟨congrArg (· + 1) l1, congrArg (· + 1) l2, l3, key :: keys, (tC (kV key), tE cf X.K h0) :: trs, by rw [List.map_cons, List.map_cons, hk, ek], pps_cons pk (IH h0 v h3).pe hp, fun σ H Q G ρ xs S ev k => ?_⟩
            obtain ⟨x, e1, e2⟩ := bnd_eq.mp (show bnd (evE cf h0 ρ) (fun x => bnd (evE cf t ρ) (consF x)) = some (.tuple xs) from ev)
            obtain ⟨r, e3, e4⟩ := bnd_eq.mp e2
            cases r with
            | tuple ys =>
              cases (show some (PyData.tuple (x :: ys)) = some (.tuple xs) from e4)
              refine (show tE cf X.K h0 σ H _ from ⟨G, ρ, x, S, e1, fun w G1 H1 x1 r1 => ?_⟩)
              refine hr σ H1 _ G1 ρ ys (S.ext x1) e3 fun ws G2 H2 x2 r2 lw => ?_
              exact k (w :: ws) G2 H2 (x1.trans x2) (.cons ((r1.rp h2).mono x2.gg) r2) (congrArg (· + 1) lw)
            | _ => exact nomatch (show none = some (PyData.tuple xs) from e4)
    | _ => exact nomatch (show false = true from h)
theorem rpD_of {K : PySem.W.Frag} {G : Hp} : ∀ {ks : List PV} {keys : List Key} {xs : List PV} {ws : List V}, ks.map keyOf = keys.map some → RpL K G xs ws → ks.length = xs.length → RpD K G (ks.zip xs) (keys.zip ws)
  | [], keys, xs, ws, hk, r, hl => by
    have : keys = [] := by simpa using hk.symm
    subst this
    exact rfl
  | k :: ks, [], _, _, hk, _, _ => by simp at hk
  | k :: ks, key :: keys, [], _, _, _, hl => by simp at hl
  | k :: ks, key :: keys, x :: xs, _, hk, r, hl => by
    obtain ⟨v, w, rfl, h1, h2⟩ := (show ∃ v r, _ = v :: r ∧ (isDict x = false ∧ Rp K G x v) ∧ RpL K G xs r from r)
    simp only [List.map_cons, List.cons.injEq] at hk
    exact ⟨key, v, _, rfl, hk.1, h1, rpD_of hk.2 h2 (by simpa using hl)⟩
theorem snd_dct {f : E → Expr → Bool} (IH : ∀ ie e, f ie e = true → Snd X cf ie e) {ks : List PV} {a : E} {es : List (Option Expr)} {vs : List Expr} {pos : Pos} (hc : chkD f ks a es vs = true) (hn : (ks.map keyOf).Nodup) (h0 : ks ≠ []) (h15 : ks.length ≤ 15) :
    Snd X cf (.dct ks a) (.Dict es vs pos) := by
  obtain ⟨l1, l2, l3, keys, trs, hk, hp, hr⟩ := disp_ok (pos := pos) IH ks a es vs hc
  have hes : es ≠ [] := fun z => by rw [z] at l1; exact h0 (List.length_eq_zero_iff.mp l1.symm)
  refine .plain ((pe_disp hp l3 (l1.trans l2.symm) hes (by lia)).weak fun σ H Q ⟨G, ρ, p, S, e, k⟩ => ?_) (fun _ => rfl)
  obtain ⟨t, e1, e2⟩ := bnd_eq.mp (show bnd (evE cf a ρ) (dctF ks) = some p from e)
  cases t with
  | tuple xs =>
    obtain ⟨hd, e3⟩ := tst_none (show DD.tst (anyD xs || ks.length != xs.length) none (some (PyData.dict (ks.zip xs))) = some p from e2)
    cases e3
    rw [Bool.or_eq_false_iff] at hd
    have hl : ks.length = xs.length := by simpa using hd.2
    intro d hdn
    have x0 := Ext.own S.sub hdn (.dK [])
    refine hr σ _ _ G ρ xs (S.ext x0) e1 fun ws G2 H2 x2 r2 lw => ⟨x2.hh _ _ upd_same, keys.zip ws, rfl, ?_, ?_⟩
    · rw [List.length_zip]
      have : keys.length = ks.length := by have := congrArg List.length hk; simpa using this.symm
      lia
    · have hG2 : G2 d = none := (x2.old _ _ upd_same).trans (S.sub.fresh hdn)
      have xx := x0.trans x2
      have m : mergeK [] (keys.zip ws) = keys.zip ws := by
        rw [merge_new _ _ ?_ (by simp)]
        · simp
        · have hkn : keys.Nodup := by
            have h2 : (keys.map some).Nodup := by rw [← hk]; exact hn
            exact List.Pairwise.of_map some (fun a b h e => h (congrArg some e)) h2
          rw [List.map_fst_zip (by lia)]
          exact hkn
      rw [m]
      have y1 := xx.mut hdn hG2 (.dK (keys.zip ws))
      have y2 := y1.frz hdn hG2 upd_same
      refine k _ _ _ y2 (.of rfl ⟨d, keys.zip ws, rfl, .inl upd_same, ?_⟩)
      exact (rpD_of hk (r2.list hd.1) hl).mono (.new hG2 _)
  | _ => cases (show none = some p from e2)
theorem snd_dgt {ia ik id : E} {a e1 e2 : Expr} {apos pos : Pos} (hu : X.A.units + 190 < cLine) (ha : PE X a (tE cf X.K ia)) (hk : PE X e1 (tE cf X.K ik)) (hd : PE X e2 (tE cf X.K id)) (hpd : isPeek id = false)
    (m : M2 X a "get" apos e1 e2 pos) : Snd X cf (.dgt ia ik id) (.Call (.Attribute a "get" apos) [e1, e2] [] pos) := by
  refine .plain ((pe_dget2 (by lia) ha hk hd m).weak fun σ H Q ⟨G, ρ, p, S, e, k⟩ => ?_) (fun _ => rfl)
  obtain ⟨x, h1, e⟩ := bnd_eq.mp (show bnd (evE cf ia ρ) (fun x => bnd (evE cf ik ρ) fun y => bnd (evE cf id ρ) fun z => dgtF y z x) = some p from e)
  obtain ⟨y, h2, e⟩ := bnd_eq.mp e
  obtain ⟨z, h3, e⟩ := bnd_eq.mp e
  cases x with
  | dict kvs =>
    obtain ⟨hi, e4⟩ := tst_some (show DD.tst (isKey y) (some ((dlook y kvs).getD z)) none = some p from e)
    obtain ⟨key, hkey⟩ := isKey_of hi
    refine ⟨G, ρ, .dict kvs, S, h1, fun v G1 H1 x1 r1 => ?_⟩
    obtain ⟨d, l, rfl, hl, rd⟩ := (show ∃ a l, v = V.ref a ∧ Rd G1 a (.dK l) ∧ RpD X.K G1 kvs l from (r1.rk x1.gh))
    refine ⟨d, rfl, .inl ⟨l, x1.gh.rd hl⟩, G1, ρ, y, S.ext x1, h2, fun vy G2 H2 x2 r2 => ⟨G2, ρ, z, (S.ext x1).ext x2, h3, fun vz G3 H3 x3 r3 => ?_⟩⟩
    have ey := key_V hkey (r2.rk x2.gh)
    subst ey
    obtain ⟨d1, d2⟩ := dlook_rel hkey ((rd.mono x2.gg).mono x3.gg)
    refine ⟨valV l key, .inl ⟨l, key, (x2.hh.trans x3.hh).rd (x1.gh.rd hl), rfl, rfl⟩, ?_⟩
    have xx := x1.trans (x2.trans x3)
    cases hq : dlook y kvs with
    | none =>
      rw [hq] at e4
      cases e4
      rw [d2 hq]
      exact k _ G3 H3 xx (.of rfl (r3.rp hpd))
    | some r =>
      rw [hq] at e4
      cases e4
      obtain ⟨w, ew, _, rw'⟩ := d1 r hq
      rw [ew]
      exact k _ G3 H3 xx (.of rfl rw')
  | _ => cases (show none = some p from e)
end
end DD
set_option Elab.async false
set_option linter.all false
set_option maxRecDepth 100000
namespace DD
open PySem PySem.Spec PyProof.Rows L2
theorem noFillT : fillsNumberSlot (.type "tuple") "mul" = pure false :=
  PyProof.Rows.fillsNumberSlot_seq (T := "tuple") (id := "tuple.__mul__") (r := some (.builtin "tuple.__rmul__")) PySem.F.slot_tuple_mul.lookup (by decide +kernel) PySem.F.slot_tuple_rmul.lookup (by decide +kernel)
theorem repeatT : seqRepeat? (.type "tuple") = pure (some (.builtin "tuple.__mul__")) := by
  unfold seqRepeat?
  rw [PyProof.Rows.seqSlot_of (T := "tuple") (name := "__mul__") (id := "tuple.__mul__") PySem.F.slot_tuple_mul.lookup (by decide +kernel),
    PyProof.Rows.seqSlot_of (T := "tuple") (name := "__rmul__") (id := "tuple.__rmul__") PySem.F.slot_tuple_rmul.lookup (by decide +kernel)]
  rfl
theorem rmulT (a : Int) (t : Tok) (l : Addr) (d : Option Addr) (items : Array Value) (n : Nat) (sl : Array (Option Value)) :
    Meets (Builtin.«int.__rmul__» ⟨[.int a t, .ref l], []⟩) (fun _ R s => s.heap.get? l = some ⟨.type "tuple", d, .seq items n, sl⟩ ∧ R (.ok (.ret Value.notImplemented)) s) :=
  .of_wp fun prog w A R s h => by
    obtain ⟨hp, g, d', tk, os⟩ := s
    obtain ⟨hl, h⟩ := h
    wp_walk
    exact ⟨_, rfl, h⟩
theorem mulT_same (a : Int) (t : Tok) (l : Addr) (d : Option Addr) (items : Array Value) (n : Nat) (sl : Array (Option Value)) (h1 : -(2 ^ 63) ≤ a) (h2 : a < 2 ^ 63) (hc : (items.isEmpty || a == 1) = true) :
    Meets (Builtin.«tuple.__mul__» ⟨[.ref l, .int a t], []⟩) (fun _ R s => s.heap.get? l = some ⟨.type "tuple", d, .seq items n, sl⟩ ∧ R (.ok (.ret (.ref l))) s) :=
  .of_wp fun prog w A R s h => by
    obtain ⟨hp, g, d', tk, os⟩ := s
    obtain ⟨hl, h⟩ := h
    have hov : ¬ (decide (a < -(2 ^ 63)) || decide (a ≥ 2 ^ 63)) = true := by simp; lia
    wp_walk
    rw [if_neg hov]
    wp_walk
    exact ⟨_, rfl, h⟩
theorem mulT_none (a : Int) (t : Tok) (l : Addr) (d : Option Addr) (items : Array Value) (n : Nat) (sl : Array (Option Value)) (h1 : -(2 ^ 63) ≤ a) (h2 : a < 2 ^ 63) (hc : ¬ (items.isEmpty || a == 1) = true) (hz : a ≤ 0) :
    Meets (Builtin.«tuple.__mul__» ⟨[.ref l, .int a t], []⟩) (fun _ R s => s.heap.get? l = some ⟨.type "tuple", d, .seq items n, sl⟩ ∧ R (.ok (.ret (.ref s.heap.objs.size))) { s with heap := s.heap.push { cls := .type "tuple", data := .seq #[] } }) :=
  .of_wp fun prog w A R s h => by
    obtain ⟨hp, g, d', tk, os⟩ := s
    obtain ⟨hl, h⟩ := h
    have hov : ¬ (decide (a < -(2 ^ 63)) || decide (a ≥ 2 ^ 63)) = true := by simp; lia
    wp_walk
    rw [if_neg hov]
    have hz' : (decide (a ≤ 0) || items.isEmpty) = true := by simp [hz]
    wp_walk
    exact ⟨_, rfl, h⟩
theorem mulT_new (a : Int) (t : Tok) (l : Addr) (d : Option Addr) (items : Array Value) (n : Nat) (sl : Array (Option Value)) (h2 : a < 2 ^ 63) (hc : ¬ (items.isEmpty || a == 1) = true) (hz : 0 < a) (hs : items.size * a.toNat ≤ sizeLine) :
    Meets (Builtin.«tuple.__mul__» ⟨[.ref l, .int a t], []⟩) (fun _ R s => s.heap.get? l = some ⟨.type "tuple", d, .seq items n, sl⟩ ∧ R (.ok (.ret (.ref s.heap.objs.size))) { s with heap := s.heap.push { cls := .type "tuple", data := .seq (List.replicate a.toNat items.toList).flatten.toArray } }) :=
  .of_wp fun prog w A R s h => by
    obtain ⟨hp, g, d', tk, os⟩ := s
    obtain ⟨hl, h⟩ := h
    have hov : ¬ (decide (a < -(2 ^ 63)) || decide (a ≥ 2 ^ 63)) = true := by simp; lia
    have he : ¬ items.isEmpty = true := fun q => hc (by simp [q])
    have hcast : (items.size : Int) * a = ((items.size * a.toNat : Nat) : Int) := by rw [Int.natCast_mul]; congr 1; lia
    have hm : ¬ ((items.size : Int) * a > (2 ^ 63 - 1) / 8) := by
      have : (sizeLine : Nat) ≤ (2 ^ 63 - 1) / 8 := by decide
      rw [hcast]; lia
    have ht : ¬ Builtin.Tuple.tupleTooMany ((items.size : Int) * a) = true := by
      unfold Builtin.Tuple.tupleTooMany
      have hle : ((items.size * a.toNat : Nat) : Int) ≤ (sizeLine : Int) := by exact_mod_cast hs
      rw [hcast]
      simpa using hle
    have hf : List.foldl (fun x1 x2 => x1 ++ x2) #[] (List.replicate a.toNat items) = (List.replicate a.toNat items.toList).flatten.toArray := by
      have := foldl_rep items.toList a.toNat []
      rw [List.nil_append] at this
      simpa using this
    have hz' : ¬ (decide (a ≤ 0) || items.isEmpty) = true := by
      have : ¬ (a ≤ 0) := by lia
      simp [this]
      simpa using he
    have hsz : (List.foldl (fun x1 x2 => x1 ++ x2) #[] (List.replicate a.toNat items)).size ≤ sizeLine := by
      rw [hf, List.size_toArray, len_rep, Nat.mul_comm]; simpa using hs
    rw [← hf] at h
    wp_walk
    rw [if_neg hov]
    wp_walk
    rw [if_neg hc, if_neg hz', if_neg hm, if_neg ht]
    wp_walk
    rw [if_neg (Nat.not_lt.mpr hsz)]
    wp_walk
    exact ⟨_, rfl, h⟩
section
variable {X : Cx}
theorem op_repT : OpR X (binaryOp .Mult) (fun x y H Q => ∃ l k xs, x = .ref l ∧ y = .int k ∧ SqT X.K H l xs ∧ -(2 ^ 63) ≤ k ∧ k < 2 ^ 63 ∧ xs.length * k.toNat ≤ sizeLine ∧
    ((xs = [] ∨ k = 1) → Q (.ref l) H) ∧ (∀ p, H p = none → Q (.ref p) (upd H p (.tup (List.replicate k.toNat xs).flatten)))) := by
  intro pins s σ H x y v u Q I rx ry h
  obtain ⟨l, k, xs, rfl, rfl, hq, h1, h2, hz, q1, q2⟩ := h
  cases rx
  obtain ⟨t, rfl⟩ := ry
  obtain ⟨its, rv, pt, hsz⟩ := I.tuple hq
  obtain ⟨⟨cls, dd, data, sl⟩, ho, hc, n, hd⟩ := id pt
  simp only at hc hd
  subst hc hd
  have hlen : its.toArray.size * k.toNat ≤ sizeLine := by rw [List.size_toArray, ← rv.length]; exact hz
  have go : wpAny (model X.prog X.w) X.A (call (.builtin "tuple.__mul__") [.ref l, .int k t]) (EP X pins σ Q) X.xe s := by
    by_cases c1 : (its.toArray.isEmpty || k == 1) = true
    · refine call_meets PySem.F.slot_tuple_mul ⟨_, ho, rfl⟩ PySem.F.entry_tuple_mul (PySem.F.args_tuple_mul_2 _ _) (mulT_same k t l dd its.toArray n sl h1 h2 c1) ⟨ho, .ref l, H, I, rfl, q1 ?_⟩
      rw [Bool.or_eq_true] at c1
      rcases c1 with c | c
      · have : its = [] := by simpa using c
        exact .inl (rv.nil_iff.mp this)
      · exact .inr (by simpa using c)
    · by_cases hk : k ≤ 0
      · refine call_meets PySem.F.slot_tuple_mul ⟨_, ho, rfl⟩ PySem.F.entry_tuple_mul (PySem.F.args_tuple_mul_2 _ _) (mulT_none k t l dd its.toArray n sl h1 h2 c1 hk) ⟨ho, ?_⟩
        have e0 : (List.replicate k.toNat xs).flatten = [] := by
          have : k.toNat = 0 := by lia
          rw [this]; rfl
        have := q2 s.heap.objs.size (I.hok.fresh (Nat.le_refl _))
        rw [e0] at this
        exact ⟨.ref _, _, I.laid (t' := s.toks) (o := .tup []) (fun b ob q => Heap.get?_push_of_some _ q) (Nat.le_refl _) ⟨Nat.zero_le _, [], .nil, IsTup.new _ _⟩, rfl, this⟩
      · refine call_meets PySem.F.slot_tuple_mul ⟨_, ho, rfl⟩ PySem.F.entry_tuple_mul (PySem.F.args_tuple_mul_2 _ _) (mulT_new k t l dd its.toArray n sl h2 c1 (by lia) hlen) ⟨ho, ?_⟩
        exact ⟨.ref _, _, I.laid (t' := s.toks) (o := .tup (List.replicate k.toNat xs).flatten) (fun b ob q => Heap.get?_push_of_some _ q) (Nat.le_refl _) ⟨by rw [len_rep, Nat.mul_comm]; exact hz, _, rv.rep k.toNat, IsTup.new _ _⟩, rfl, q2 _ (I.hok.fresh (Nat.le_refl _))⟩
  refine wpAny_binaryOp_repeat_ref (T := "tuple") (U := "int") (by decide) ⟨_, ho, rfl⟩ (fun s' => typeIs_int s' k t) noFillT PySem.F.fills_int_mul PySem.F.slot_int_rmul repeatT PySem.F.slot_int_index.lookup
    (call_meets PySem.F.slot_int_rmul (typeIs_int s k t) PySem.F.entry_int_rmul (PySem.F.args_int_rmul_2 _ _) (rmulT k t l dd its.toArray n sl) ⟨ho, rfl, ⟨_, ho, rfl⟩, go⟩)
theorem s_mul : OpR X (binaryOp .Mult) (rOp2 X.K .mul) := by
  intro pins s σ H x y v u Q I rx ry h
  obtain ⟨G, p, q, r, sb, hp, hq, e, k⟩ := h
  cases p with
  | int i =>
    cases q with
    | int j =>
      have e' : (if small i || small j then some (PyData.int (i * j)) else none) = some r := e
      by_cases hl : (small i || small j) = true
      · rw [if_pos hl] at e'
        cases e'
        cases (show x = .int i from hp); cases (show y = .int j from hq)
        refine op_mul pins s σ H _ _ v u Q I rx ry ⟨i, j, rfl, rfl, ?_, k _ G H (.refl sb) rfl⟩
        rw [Bool.or_eq_true] at hl
        exact hl.elim (fun h => .inl (small_of h)) fun h => .inr (small_of h)
      · rw [if_neg hl] at e'; cases e'
    | _ => simp [opF2, mulF] at e
  | tuple xs =>
    cases q with
    | int j =>
      have e' : (if xs.length * j.toNat ≤ 16777216 ∧ -1000000 < j ∧ j < 16777216 then some (PyData.tuple (repL xs j)) else none) = some r := e
      by_cases hl : xs.length * j.toNat ≤ 16777216 ∧ -1000000 < j ∧ j < 16777216
      · rw [if_pos hl] at e'
        cases e'
        obtain ⟨a, vs, rfl, q1, r1⟩ := (show ∃ a vs, x = V.ref a ∧ SqT X.K G a vs ∧ RpL X.K G xs vs from hp)
        cases (show y = .int j from hq)
        refine op_repT pins s σ H _ _ v u Q I rx ry ⟨a, j, vs, rfl, rfl, sb.sqT q1, by lia, by lia, by rw [line_eq, ← r1.length]; exact hl.1, fun z => ?_, fun l hn => ?_⟩
        · refine k _ G H (.refl sb) ⟨a, vs, rfl, q1, ?_⟩
          have : repL xs j = xs := by
            rcases z with z | z
            · have hx : xs = [] := List.length_eq_zero_iff.mp (by rw [r1.length, z]; rfl)
              subst hx
              unfold repL
              simp
            · subst z
              unfold repL
              simp
          rw [this]; exact r1
        · have x1 := Ext.new sb hn (.tup (List.replicate j.toNat vs).flatten)
          exact k _ _ _ x1 ⟨l, _, rfl, SqT.of upd_same, (r1.rep j.toNat).mono x1.gg⟩
      · rw [if_neg hl] at e'; cases e'
    | _ => simp [opF2, mulF] at e
  | _ => cases q <;> simp [opF2, mulF] at e
end
end DD
set_option Elab.async false
set_option linter.all false
set_option maxRecDepth 100000
namespace DD
open PySem PySem.Spec PyProof.Rows L2
section
variable {X : Cx} {cf : CF}
noncomputable def rRev (K : PySem.W.Frag) : V → Hp → VK → Prop := rOp1 K .rev
theorem tail_rev {e : Expr} {o1 o2 p1 p2 : Pos} {j : Nat} {pins : List (Addr × Obj)} {s : Shared} {σ : St} {H : Hp} {x : V} {v : Value} {t : Tok} {sl : Addr} {Q : VK} (I : Inv X pins σ H s) (rx : RelV x v) (hs : s.heap.IsSliceOf sl .none .none (.int (-1) t)) (h : rRev X.K x H Q) :
    ∃ T id, typeLookup (.type T) "__getitem__" = pure (some (.builtin id)) ∧ s.TypeIs v T ∧ wpAny (model X.prog X.w) X.A (getItem v (.ref sl)) (EP X pins σ Q) X.xe s := by
  obtain ⟨G, p, r, sb, hp, e, k⟩ := h
  cases p with
  | tuple xs =>
    cases (show some (PyData.tuple xs.reverse) = some r from e)
    obtain ⟨a, vs, rfl, q1, r1⟩ := (show ∃ a vs, x = V.ref a ∧ SqT X.K G a vs ∧ RpL X.K G xs vs from hp)
    cases rx
    obtain ⟨its, rv, ht, hz⟩ := I.tuple (sb.sqT q1)
    refine ⟨"tuple", _, PyProof.Rows.slot_tuple_getitem.lookup, ht.typeIs, getItem_tuple_rev ht hs (by rw [List.size_toArray, ← rv.length]; exact hz) ?_⟩
    have x1 := Ext.new sb (I.hok.fresh (Nat.le_refl s.heap.objs.size)) (.tup vs.reverse)
    refine ⟨.ref s.heap.objs.size, _, I.laid (t' := s.toks) (o := .tup vs.reverse) (fun b ob q => Heap.get?_push_of_some _ q) (Nat.le_refl _) ⟨by rw [List.length_reverse]; exact hz, _, rv.reverse, IsTup.new _ _⟩, rfl, k _ _ _ x1 ⟨_, _, rfl, SqT.of upd_same, r1.reverse.mono x1.gg⟩⟩
  | _ => exact nomatch (show none = some _ from e)
theorem snd_rev {ia : E} {a : Expr} {j : Nat} {pos p0 p1 p2 : Pos} (ha : PE X a (tE cf X.K ia)) : Snd X cf (.op1 .rev ia) (.Subscript a (.Slice none none (some (.UnaryOp .USub (.Constant (.int 1) j p0) p1)) p2) pos) := by
  refine .plain ?_ (fun _ => rfl)
  intro pins s σ H Q I h
  have h1 := op1_w σ H Q h
  refine Subscript_ (thn (ha pins s σ H _ I h1) fun v s1 ⟨x, H1, I1, r1, q1⟩ => ?_)
  refine wpAny_Slice ?_
  rw [evalPart_none]
  refine wpAny_pure (wpAny_pure ?_)
  rw [evalPart_some]
  have st := (show PE X (.UnaryOp .USub (.Constant (.int 1) j p0) p1) (tUn (rU fun i => .int (-i)) (tC (.int 1))) from pe_un un_neg pe_int) pins s1 σ H1 (fun y H2 => y = .int (-1) ∧ H2 = H1) I1 ⟨1, rfl, rfl, rfl⟩
  refine thn st fun w s2 ⟨y, H2, I2, ry, hy, hH⟩ => ?_
  subst hy hH
  obtain ⟨t, rfl⟩ := ry
  have I4 : Inv X pins σ H2 { s2 with heap := s2.heap.push { cls := .type "slice", data := .fields #[.none, .none, .int (-1) t] } } := I2.kept (t' := s2.toks) fun b ob q => Heap.get?_push_of_some _ q
  obtain ⟨T, id, hT, ht, hg⟩ := tail_rev (e := a) (o1 := p0) (o2 := p0) (p1 := p0) (p2 := p0) (j := 0) I4 r1 (Heap.IsSliceOf.new ..) q1
  exact tail_any (ops := [v, .ref s2.heap.objs.size]) ht hT hg (by with_unfolding_all rfl)
end
end DD
set_option Elab.async false
set_option linter.all false
set_option maxRecDepth 100000
namespace DD
open PySem PySem.Spec PyProof.Rows
noncomputable def LtAt (κ : PyProof.Rows.KeyKind) (prog : Program) (w : World) (A : Around) (s : Shared) (kd : SortKind) : Prop :=
  ∀ (E : Value → Shared → Prop) (x y : Value) (a b : κ.α) (Q : Bool → Shared → Prop), κ.keyOf x = some a → κ.keyOf y = some b → Q (κ.blt a b) s → wpAny (model prog w) A (keyLt' kd x y) Q E s
structure SB (kd : SortKind) (a₀ : Array Keyed) (st : SortSt) : Prop where
  perm : (arrOf st).Perm a₀
  kind : kindOf st = kd
  failed : failedOf st = none
  pend : pendingOf st = #[]
theorem SB.size {kd : SortKind} {a₀ : Array Keyed} {st : SortSt} (h : SB kd a₀ st) : (arrOf st).size = a₀.size := h.perm.size_eq
theorem SB.moved {kd : SortKind} {a₀ : Array Keyed} {st : SortSt} (h : SB kd a₀ st) {xs : Array Keyed} (p : xs.Perm (arrOf st)) : SB kd a₀ (setArr st xs) := ⟨p.trans h.perm, h.kind, h.failed, h.pend⟩
theorem SB.key {κ : PyProof.Rows.KeyKind} {kd : SortKind} {a₀ : Array Keyed} {st : SortSt} (h : SB kd a₀ st) (h0 : KeysOf κ a₀) {i : Nat} (hi : i < a₀.size) :
    ∃ x p a, (arrOf st)[i]? = some (x, p) ∧ κ.keyOf x = some a ∧ KK κ (arrOf st) i = a := by
  have hi' : i < (arrOf st).size := h.size ▸ hi
  obtain ⟨a, ha⟩ := h0 (arrOf st)[i] ((Array.perm_iff_toList_perm.mp h.perm).mem_iff.mp (Array.mem_toList_iff.mpr (Array.getElem_mem hi')))
  have e : (arrOf st)[i]? = some (arrOf st)[i] := getElem?_pos _ i hi'
  exact ⟨_, _, a, e, ha, by unfold KK; rw [e]; simp [ha]⟩
section
variable {prog : Program} {w : World} {A : Around} {E : Value → Shared → Prop} {s : Shared} {a₀ : Array Keyed} {κ : PyProof.Rows.KeyKind} {kd : SortKind}
theorem w_lt (hO : LtAt κ prog w A s kd) {st : SortSt} {i j : Nat} {Q : Option Bool → SortSt → Prop} (hB : SB kd a₀ st) (h0 : KeysOf κ a₀) (hi : i < a₀.size) (hj : j < a₀.size)
    (h : Q (some (κ.blt (KK κ (arrOf st) i) (KK κ (arrOf st) j))) st) : wpS (model prog w) A E s (ltAt' i j) Q st := by
  obtain ⟨x, p, a, e1, ha, ka⟩ := hB.key h0 hi
  obtain ⟨y, q, b, e2, hb, kb⟩ := hB.key h0 hj
  rw [ka, kb] at h
  rw [ltAt'_eq]
  refine wpS_bind (wpS_get ?_)
  show wpS _ _ _ _ (elem' (arrOf st) i >>= fun x => elem' (arrOf st) j >>= fun y => lt' x y) Q st
  rw [elem'_eq, elem'_eq, e1, e2]
  refine wpS_bind (wpS_pure (wpS_bind (wpS_pure ?_)))
  rw [lt'_eq]
  refine wpS_bind (wpS_get ?_)
  rw [hB.kind]
  exact wpS_bind (wpS_lift (wpAny_attempt (hO _ x y a b _ ha hb ⟨rfl, wpS_pure h⟩)))
theorem w_rev {st : SortSt} {i j : Nat} {Q : Unit → SortSt → Prop} (h : Q () (setArr st (mirror (arrOf st) i j ((j - i) / 2)))) : wpS (model prog w) A E s (reverseSlice' i j) Q st := by
  rw [reverseSlice'_eq]
  exact wpS_modify h
theorem sorted_more {xs : Array Keyed} {x : Nat} (hs : SortedToK κ xs x) (h : x = 0 ∨ κ.kle (KK κ xs (x - 1)) (KK κ xs x)) : SortedToK κ xs (x + 1) := by
  intro i j hij hj
  rcases Nat.lt_or_ge j x with c | c
  · exact hs i j hij c
  · have : j = x := by lia
    subst this
    rcases Nat.lt_or_ge i j with c2 | c2
    · rcases h with h | h
      · lia
      · exact KeyOrd.kle_trans (hs i (j - 1) (by lia) (by lia)) h
    · have : i = j := by lia
      subst this; exact KeyOrd.kle_refl _
theorem nonInc_more {xs : Array Keyed} {x : Nat} (hs : NonIncK κ xs x) (h : x = 0 ∨ κ.kle (KK κ xs x) (KK κ xs (x - 1))) : NonIncK κ xs (x + 1) := by
  intro i j hij hj
  rcases Nat.lt_or_ge j x with c | c
  · exact hs i j hij c
  · have : j = x := by lia
    subst this
    rcases Nat.lt_or_ge i j with c2 | c2
    · rcases h with h | h
      · lia
      · exact KeyOrd.kle_trans h (hs i (j - 1) (by lia) (by lia))
    · have : i = j := by lia
      subst this; exact KeyOrd.kle_refl _
theorem w_asc (hO : LtAt κ prog w A s kd) (h0 : KeysOf κ a₀) {st : SortSt} {a nrem : Nat} {Q : AscSt → SortSt → Prop} (hn : nrem ≤ a₀.size) (ha : 1 ≤ a) (han : a ≤ nrem) (hB : SB kd a₀ st) (hs : SortedToK κ (arrOf st) a)
    (h : ∀ n, a ≤ n → n ≤ nrem → SortedToK κ (arrOf st) n → (n = nrem ∨ κ.klt (KK κ (arrOf st) n) (KK κ (arrOf st) (n - 1))) → Q (none, n) st) : wpS (model prog w) A E s (ascLoop a nrem) Q st := by
  unfold ascLoop
  refine wpS_forRange (I := fun x c st' => st' = st ∧ c = (none, x) ∧ SortedToK κ (arrOf st) x) (fun x c st' hax hxn hI => ?_) (fun c st' hI => ?_) ⟨rfl, rfl, hs⟩
  · obtain ⟨rfl, rfl, hs'⟩ := hI
    refine wpS_bind (w_lt hO hB h0 (by lia) (by lia) ?_)
    cases c : κ.blt (KK κ (arrOf st') x) (KK κ (arrOf st') (x - 1)) with
    | true => exact wpS_pure (h x hax (by lia) hs' (.inr c))
    | false => exact wpS_pure ⟨rfl, rfl, sorted_more hs' (.inr c)⟩
  · obtain ⟨rfl, rfl, hs'⟩ := hI
    have e : max a nrem = nrem := by lia
    rw [e] at hs' ⊢
    exact h nrem han (Nat.le_refl _) hs' (.inl rfl)
theorem w_tail (hO : LtAt κ prog w A s kd) (h0 : KeysOf κ a₀) {st : SortSt} {n nrem : Nat} {Q : Option Nat → SortSt → Prop} (hn : nrem ≤ a₀.size) (h1 : 1 ≤ n) (hnn : n ≤ nrem) (hB : SB kd a₀ st) (hs : NonIncK κ (arrOf st) n)
    (h : ∀ m st', SB kd a₀ st' → 1 ≤ m → m ≤ nrem → SortedToK κ (arrOf st') m → Q (some m) st') : wpS (model prog w) A E s (tail3 n nrem) Q st := by
  unfold tail3
  have hsz : n ≤ (arrOf st).size := by rw [hB.size]; lia
  have hB' : SB kd a₀ (setArr st (mirror (arrOf st) 0 n ((n - 0) / 2))) := hB.moved (mirror_perm _ _ _ _)
  have hs' : SortedToK κ (mirror (arrOf st) 0 n ((n - 0) / 2)) n := fun i j hij hj => by
    rw [KK_mirror hsz, KK_mirror hsz, if_pos ⟨Nat.zero_le _, by lia⟩, if_pos ⟨Nat.zero_le _, hj⟩]
    exact hs _ _ (by lia) (by lia)
  exact wpS_bind (w_rev (wpS_bind (w_asc hO h0 hn h1 hnn hB' hs' fun m g1 g2 g3 _ => wpS_pure (h m _ hB' (by lia) g2 g3))))
theorem w_desc (hO : LtAt κ prog w A s kd) (h0 : KeysOf κ a₀) {st : SortSt} {n nrem : Nat} {Q : DescSt → SortSt → Prop} (hn : nrem ≤ a₀.size) (h1 : 1 ≤ n) (hnn : n ≤ nrem) (hB : SB kd a₀ st) (hs : NonIncK κ (arrOf st) n)
    (h : ∀ m neq st', SB kd a₀ st' → n ≤ m → m ≤ nrem → NonIncK κ (arrOf st') m → neq + 1 ≤ m → (∀ i, m - (neq + 1) ≤ i → i < m → KK κ (arrOf st') i = KK κ (arrOf st') (m - 1)) → Q (none, m, neq) st') :
    wpS (model prog w) A E s (descLoop n nrem) Q st := by
  unfold descLoop
  refine wpS_forRange (I := fun x c st' => ∃ neq, c = (none, x, neq) ∧ SB kd a₀ st' ∧ NonIncK κ (arrOf st') x ∧ neq + 1 ≤ x ∧ ∀ i, x - (neq + 1) ≤ i → i < x → KK κ (arrOf st') i = KK κ (arrOf st') (x - 1))
    (fun x c st' hax hxn hI => ?_) (fun c st' hI => ?_) ⟨0, rfl, hB, hs, h1, fun i g1 g2 => by congr 1; lia⟩
  · obtain ⟨neq, rfl, hB', hs', hq, he⟩ := hI
    have hsz : x ≤ (arrOf st').size := by rw [hB'.size]; lia
    dsimp only
    refine wpS_bind (w_lt hO hB' h0 (by lia) (by lia) ?_)
    cases c : κ.blt (KK κ (arrOf st') x) (KK κ (arrOf st') (x - 1)) with
    | true =>
      have up : NonIncK κ (arrOf st') (x + 1) := nonInc_more hs' (.inr (KeyOrd.kle_of_klt c))
      by_cases hp : neq > 0
      · simp only [hp, if_true]
        have same := KK_mirror_equal (κ := κ) (i := x - (neq + 1)) hsz he
        refine wpS_bind (w_rev (wpS_pure ⟨0, rfl, hB'.moved (mirror_perm _ _ _ _), fun i j hij hj => ?_, by lia, fun i g1 g2 => by congr 1; lia⟩))
        show κ.kle (KK κ (mirror (arrOf st') _ _ _) j) (KK κ (mirror (arrOf st') _ _ _) i)
        rw [same, same]
        exact up i j hij hj
      · simp only [hp, if_true, if_false]
        exact wpS_pure ⟨0, rfl, hB', up, by lia, fun i g1 g2 => by congr 1; lia⟩
    | false =>
      simp only [Bool.false_eq_true, if_false]
      refine wpS_bind (w_lt hO hB' h0 (by lia) (by lia) ?_)
      cases d : κ.blt (KK κ (arrOf st') (x - 1)) (KK κ (arrOf st') x) with
      | true => exact wpS_pure (h x neq st' hB' hax (by lia) hs' hq he)
      | false =>
        have eqx : KK κ (arrOf st') x = KK κ (arrOf st') (x - 1) := KeyOrd.kle_antisymm d c
        refine wpS_pure ⟨neq + 1, rfl, hB', nonInc_more hs' (.inr (by rw [eqx]; exact KeyOrd.kle_refl _)), by lia, fun i g1 g2 => ?_⟩
        rw [Nat.add_sub_cancel]
        rcases Nat.lt_or_ge i x with g | g
        · rw [eqx]; exact he i (by lia) g
        · congr 1; lia
  · obtain ⟨neq, rfl, hB', hs', hq, he⟩ := hI
    have e : max n nrem = nrem := by lia
    rw [e] at hs' hq he ⊢
    exact h nrem neq st' hB' hnn (Nat.le_refl _) hs' hq he
theorem w_descPart (hO : LtAt κ prog w A s kd) (h0 : KeysOf κ a₀) {st : SortSt} {n nrem : Nat} {Q : Option Nat → SortSt → Prop} (hn : nrem ≤ a₀.size) (hnn : n + 1 ≤ nrem) (hB : SB kd a₀ st) (hs : NonIncK κ (arrOf st) (n + 1))
    (h : ∀ m st', SB kd a₀ st' → 1 ≤ m → m ≤ nrem → SortedToK κ (arrOf st') m → Q (some m) st') : wpS (model prog w) A E s (descPart n nrem) Q st := by
  unfold descPart
  refine wpS_bind (wpS_lift (wpAny_rule ⟨rfl, wpS_bind (w_desc hO h0 hn (by lia) hnn hB hs fun m neq st' hB' g1 g2 hs' hq he => ?_)⟩))
  have hsz : m ≤ (arrOf st').size := by rw [hB'.size]; lia
  by_cases hp : neq > 0
  · simp only [hp, if_true]
    have same := KK_mirror_equal (κ := κ) (i := m - (neq + 1)) hsz he
    refine wpS_bind (w_rev (w_tail hO h0 hn (by lia) g2 (hB'.moved (mirror_perm _ _ _ _)) (fun i j hij hj => ?_) h))
    show κ.kle (KK κ (mirror (arrOf st') _ _ _) j) (KK κ (mirror (arrOf st') _ _ _) i)
    rw [same, same]
    exact hs' i j hij hj
  · simp only [hp, if_false]
    exact w_tail hO h0 hn (by lia) g2 hB' hs' h
theorem w_count (hO : LtAt κ prog w A s kd) (h0 : KeysOf κ a₀) {st : SortSt} {nrem : Nat} {Q : Option Nat → SortSt → Prop} (hn : nrem ≤ a₀.size) (h1 : 1 ≤ nrem) (hB : SB kd a₀ st)
    (h : ∀ m st', SB kd a₀ st' → 1 ≤ m → m ≤ nrem → SortedToK κ (arrOf st') m → Q (some m) st') : wpS (model prog w) A E s (countRun' 0 nrem) Q st := by
  rw [countRun0_eq]
  have one : SortedToK κ (arrOf st) 1 := fun i j hij hj => by
    have : i = j := by lia
    subst this; exact KeyOrd.kle_refl _
  refine wpS_bind (w_asc hO h0 hn (Nat.le_refl 1) h1 hB one fun n g1 g2 hsn hor => ?_)
  by_cases hnn : n = nrem
  · simp only [hnn, beq_self_eq_true, if_true]
    exact wpS_pure (h nrem st hB h1 (Nat.le_refl _) (hnn ▸ hsn))
  · have hb : (n == nrem) = false := beq_eq_false_iff_ne.mpr hnn
    have hlt : κ.klt (KK κ (arrOf st) n) (KK κ (arrOf st) (n - 1)) := hor.resolve_left hnn
    simp only [hb, Bool.false_eq_true, if_false]
    by_cases hg : n > 1
    · simp only [hg, if_true]
      refine wpS_bind (w_lt hO hB h0 (by lia) (by lia) ?_)
      cases c : κ.blt (KK κ (arrOf st) 0) (KK κ (arrOf st) (n - 1)) with
      | true => exact wpS_pure (h n st hB g1 g2 hsn)
      | false =>
        have hsz : n ≤ (arrOf st).size := by rw [hB.size]; lia
        have all : ∀ k, 0 ≤ k → k < n → KK κ (arrOf st) k = KK κ (arrOf st) (n - 1) := fun k _ hk =>
          KeyOrd.kle_antisymm (hsn k (n - 1) (by lia) (by lia)) (KeyOrd.kle_trans c (hsn 0 k (Nat.zero_le _) hk))
        have same := KK_mirror_equal (κ := κ) (i := 0) hsz all
        refine wpS_bind (w_rev (w_descPart hO h0 hn (by lia) (hB.moved (mirror_perm _ _ _ _)) (nonInc_more (fun i j hij hj => ?_) (.inr ?_)) h))
        · show κ.kle (KK κ (mirror (arrOf st) _ _ _) j) (KK κ (mirror (arrOf st) _ _ _) i)
          rw [same, same, all i (Nat.zero_le _) (by lia), all j (Nat.zero_le _) hj]
          exact KeyOrd.kle_refl _
        · show κ.kle (KK κ (mirror (arrOf st) _ _ _) n) (KK κ (mirror (arrOf st) _ _ _) (n - 1))
          rw [same, same]
          exact KeyOrd.kle_of_klt hlt
    · simp only [hg, if_false]
      have e1 : n = 1 := by lia
      subst e1
      refine w_descPart hO h0 hn (by lia) hB (nonInc_more (fun i j hij hj => ?_) (.inr (KeyOrd.kle_of_klt hlt))) h
      have : i = j := by lia
      subst this; exact KeyOrd.kle_refl _
theorem w_binary (hO : LtAt κ prog w A s kd) (h0 : KeysOf κ a₀) {st : SortSt} {n ok : Nat} {Q : Bool → SortSt → Prop} (hn : n ≤ a₀.size) (hok : ok ≤ n) (hB : SB kd a₀ st) (hs : SortedToK κ (arrOf st) ok)
    (h : ∀ st', SB kd a₀ st' → SortedToK κ (arrOf st') n → Q true st') : wpS (model prog w) A E s (binarySort' 0 n ok) Q st := by
  rw [binarySort'_eq]
  simp only [Nat.zero_add]
  refine wpS_bind (wpS_mono (wpS_forRange (I := fun k c st' => c = (none, ()) ∧ SB kd a₀ st' ∧ SortedToK κ (arrOf st') (min k n)) (Q := fun c st' => c = (none, ()) ∧ SB kd a₀ st' ∧ SortedToK κ (arrOf st') n)
    (fun k c st' hak hkn hI => ?_) (fun c st' hI => ?_) ⟨rfl, hB, fun i j hij hj => ?_⟩) fun c st' hI => ?_)
  · obtain ⟨rfl, hB', hs'⟩ := hI
    have ek : min k n = k := by lia
    rw [ek] at hs'
    have hk : k < a₀.size := by lia
    refine wpS_bind (wpS_mono (wpS_forRange
      (I := fun x c st2 => st2 = st' ∧ ∃ l r, c = (none, l, r) ∧ l ≤ r ∧ r ≤ k ∧ r - l ≤ k - x ∧ (∀ i, i < l → κ.kle (KK κ (arrOf st') i) (KK κ (arrOf st') k)) ∧ ∀ i, r ≤ i → i < k → κ.klt (KK κ (arrOf st') k) (KK κ (arrOf st') i))
      (Q := fun c st2 => st2 = st' ∧ ∃ l r, c = (none, l, r) ∧ l ≤ k ∧ (∀ i, i < l → κ.kle (KK κ (arrOf st') i) (KK κ (arrOf st') k)) ∧ ∀ i, l ≤ i → i < k → κ.klt (KK κ (arrOf st') k) (KK κ (arrOf st') i))
      (fun x c st2 _ hx hJ => ?_) (fun c st2 hJ => ?_) ⟨rfl, 0, k, rfl, Nat.zero_le _, Nat.le_refl _, by lia, fun i g => by lia, fun i g1 g2 => by lia⟩) fun c st2 hJ => ?_)
    · obtain ⟨rfl, l, r, rfl, hlr, hrk, hm, hlo, hhi⟩ := hJ
      by_cases hge : l ≥ r
      · simp only [hge, if_true]
        have e : l = r := by lia
        subst e
        exact wpS_pure ⟨rfl, l, l, rfl, hrk, hlo, hhi⟩
      · simp only [hge, if_false]
        refine wpS_bind (w_lt hO hB' h0 hk (by lia) ?_)
        cases c : κ.blt (KK κ (arrOf st2) k) (KK κ (arrOf st2) ((l + r) / 2)) with
        | true => exact wpS_pure ⟨rfl, l, (l + r) / 2, rfl, by lia, by lia, by lia, hlo, fun i g1 g2 => KeyOrd.klt_of_klt_of_kle c (hs' _ _ g1 g2)⟩
        | false => exact wpS_pure ⟨rfl, (l + r) / 2 + 1, r, rfl, by lia, by lia, by lia, fun i g => KeyOrd.kle_trans (hs' i ((l + r) / 2) (by lia) (by lia)) (show κ.kle _ _ from c), hhi⟩
    · obtain ⟨rfl, l, r, rfl, hlr, hrk, hm, hlo, hhi⟩ := hJ
      have e : l = r := by lia
      subst e
      exact ⟨rfl, l, l, rfl, hrk, hlo, hhi⟩
    · obtain ⟨rfl, l, r, rfl, hlk, hlo, hhi⟩ := hJ
      show wpS _ _ _ _ (moveDown' k l >>= fun _ => pure (ForInStep.yield (none, ()))) _ _
      rw [moveDown'_eq]
      refine wpS_bind (wpS_modify (wpS_pure ⟨rfl, hB'.moved (bubble_perm _ _ _), ?_⟩))
      have e2 : min (k + 1) n = k + 1 := by lia
      rw [e2]
      have hks : k < (arrOf st2).size := by rw [hB'.size]; exact hk
      intro i j hij hj
      show κ.kle (KK κ (bubble (arrOf st2) k (k - l)) i) (KK κ (bubble (arrOf st2) k (k - l)) j)
      have e3 : k - (k - l) = l := by lia
      rw [KK_bubble hks (by lia), KK_bubble hks (by lia), e3]
      by_cases c1 : i = l
      · subst c1
        rw [if_pos rfl]
        by_cases c2 : j = i
        · rw [if_pos c2]; exact KeyOrd.kle_refl _
        · rw [if_neg c2, if_pos ⟨by lia, by lia⟩]
          exact KeyOrd.kle_of_klt (hhi _ (by lia) (by lia))
      · rw [if_neg c1]
        by_cases c3 : l < i ∧ i ≤ k
        · rw [if_pos c3, if_neg (by lia), if_pos ⟨by lia, by lia⟩]
          exact hs' _ _ (by lia) (by lia)
        · rw [if_neg c3]
          by_cases c2 : j = l
          · rw [if_pos c2]; exact hlo _ (by lia)
          · rw [if_neg c2]
            by_cases c4 : l < j ∧ j ≤ k
            · rw [if_pos c4]; exact hs' _ _ (by lia) (by lia)
            · rw [if_neg c4]; exact hs' _ _ (by lia) (by lia)
  · obtain ⟨rfl, hB', hs'⟩ := hI
    have e : min (max (max ok 1) n) n = n := by lia
    rw [e] at hs'
    exact ⟨rfl, hB', hs'⟩
  · by_cases c : ok = 0
    · have : i = j := by lia
      subst this; exact KeyOrd.kle_refl _
    · exact hs i j hij (by lia)
  · obtain ⟨rfl, hB', hs'⟩ := hI
    exact wpS_pure (h st' hB' hs')
end
end DD
set_option Elab.async false
set_option linter.all false
set_option maxRecDepth 100000
namespace DD
open PySem PySem.Spec PyProof.Rows
section
variable {prog : Program} {w : World} {A : Around} {E : Value → Shared → Prop} {s : Shared} {a₀ : Array Keyed} {κ : PyProof.Rows.KeyKind} {kd : SortKind}
noncomputable def Done (κ : PyProof.Rows.KeyKind) (a₀ : Array Keyed) (st : SortSt) : Prop :=
  (arrOf st).Perm a₀ ∧ failedOf st = none ∧ (pendingOf st).size = 1 ∧ SortedToK κ (arrOf st) a₀.size
theorem w_runs (hO : LtAt κ prog w A s kd) (h0 : KeysOf κ a₀) {st : SortSt} {Q : Unit → SortSt → Prop} (hB : SB kd a₀ st) (h2 : 2 ≤ a₀.size) (h64 : a₀.size < 64)
    (h : ∀ st', (arrOf st').Perm a₀ → failedOf st' = none → SortedToK κ (arrOf st') a₀.size → Q () st') : wpS (model prog w) A E s sortRuns' Q st := by
  rw [sortRuns'_eq]
  refine wpS_bind (wpS_get ?_)
  have hmr : minRun' a₀.size a₀.size 0 = a₀.size := by
    cases hz : a₀.size with
    | zero => lia
    | succ f => rw [minRun'_succ, if_pos (by lia)]
  simp only [hB.size, hmr]
  refine wpS_bind (wpS_mono (wpS_forRange (I := fun x c st' => (x = 0 ∧ c = (none, 0) ∧ SB kd a₀ st') ∨ (1 ≤ x ∧ c = (none, a₀.size) ∧ Done κ a₀ st')) (Q := fun c st' => c = (none, a₀.size) ∧ Done κ a₀ st')
    (fun x c st' _ hx hI => ?_) (fun c st' hI => ?_) (.inl ⟨rfl, rfl, hB⟩)) fun c st' hI => ?_)
  · rcases hI with ⟨rfl, rfl, hB'⟩ | ⟨_, rfl, hD⟩
    · dsimp only
      rw [if_neg (by lia)]
      simp only [Nat.sub_zero, Nat.min_self, Nat.zero_add]
      have fin : ∀ st3, SB kd a₀ st3 → SortedToK κ (arrOf st3) a₀.size → Done κ a₀ (setPending st3 ((pendingOf st3).push (0, a₀.size, 0))) := fun st3 g1 g2 =>
        ⟨g1.perm, g1.failed, by show ((pendingOf st3).push _).size = 1; rw [g1.pend]; rfl, g2⟩
      refine wpS_bind (w_count hO h0 (Nat.le_refl _) (by lia) hB' fun m st2 hB2 g1 g2 hs2 => ?_)
      dsimp only
      by_cases hlt : m < a₀.size
      · rw [if_pos hlt]
        refine wpS_bind (wpS_lift (wpAny_rule ⟨rfl, wpS_bind (w_binary hO h0 (Nat.le_refl _) g2 hB2 hs2 fun st3 hB3 hs3 => ?_)⟩))
        simp only [Bool.not_true, Bool.false_eq_true, if_false]
        refine wpS_bind (wpS_get ?_)
        have hb : (pendingOf st3).back? = none := by rw [hB3.pend]; rfl
        rw [hb]
        exact wpS_bind (wpS_modify (wpS_pure (.inr ⟨by lia, rfl, fin st3 hB3 hs3⟩)))
      · rw [if_neg hlt]
        have hm : m = a₀.size := by lia
        rw [hm] at hs2 ⊢
        refine wpS_bind (wpS_get ?_)
        have hb : (pendingOf st2).back? = none := by rw [hB2.pend]; rfl
        rw [hb]
        exact wpS_bind (wpS_modify (wpS_pure (.inr ⟨by lia, rfl, fin st2 hB2 hs2⟩)))
    · dsimp only
      rw [if_pos (Nat.le_refl _)]
      exact wpS_pure ⟨rfl, hD⟩
  · rcases hI with ⟨hx, _, _⟩ | ⟨_, hc, hD⟩
    · lia
    · exact ⟨hc, hD⟩
  · obtain ⟨rfl, hD⟩ := hI
    dsimp only
    refine wpS_bind (wpS_mono (wpS_forRange (I := fun _ c st'' => st'' = st' ∧ c = (none, ())) (Q := fun c st'' => st'' = st' ∧ c = (none, ())) (fun x c st'' _ _ hJ => ?_) (fun _ _ hh => hh) ⟨rfl, rfl⟩) fun c st'' hJ => ?_)
    · obtain ⟨rfl, rfl⟩ := hJ
      refine wpS_bind (wpS_get ?_)
      rw [if_pos (Nat.le_of_eq hD.2.2.1)]
      exact wpS_pure ⟨rfl, rfl⟩
    · obtain ⟨rfl, rfl⟩ := hJ
      exact wpS_pure (h _ hD.1 hD.2.1 hD.2.2.2)
noncomputable def KindAt (prog : Program) (w : World) (A : Around) (s : Shared) (vs : List Value) (kd : SortKind) : Prop :=
  ∀ (E : Value → Shared → Prop) (Q : SortKind → Shared → Prop), Q kd s → wpAny (model prog w) A (keyKind' vs.toArray) Q E s
theorem w_sort {a : Addr} {vs : List Value} {n : Nat} {P : Fin → Shared → Prop} (ho : s.heap.get? a = some (seqObj "list" vs.toArray n)) (h0 : KeysOf κ (pairsOf vs)) (h64 : vs.length < 64)
    (hO : ∀ h' : Heap, (∀ b o, b ≠ a → s.heap.get? b = some o → h'.get? b = some o) → LtAt κ prog w A { s with heap := h' } kd ∧ (2 ≤ vs.length → KindAt prog w A { s with heap := h' } vs kd))
    (h : ∀ xs : Array Keyed, xs.Perm (pairsOf vs) → SortedToK κ xs (pairsOf vs).size → P (.done (.ret .none)) { s with heap := sortedHeap s.heap a vs (xs.map (·.2)) }) :
    wpAny (model prog w) A (Builtin.«list.sort» ⟨[.ref a], []⟩) P E s := by
  rw [list_sort_plain]
  have ha : a < s.heap.objs.size := Heap.lt_size ho
  refine wpAny_bind (listItems_at ho rfl (wpAny_bind (listUpdate_at ho rfl ?_)))
  obtain ⟨e1, ho1⟩ : ∃ e1, (s.heap.update a (Obj.mapSeq fun _ => #[])).get? a = some (seqObj "list" #[] e1) := ⟨_, get?_update_seq ho (fun _ => #[])⟩
  refine wpAny_bind (seqEpoch_at ho1 rfl (wpAny_bind (wpAny_newTuple (wpAny_bind (wpAny_newList (wpAny_holding ?_))))))
  have n1 : a ≠ (s.heap.update a (Obj.mapSeq fun _ => #[])).objs.size := by rw [Heap.size_update]; exact Nat.ne_of_lt ha
  have n2 : a ≠ ((s.heap.update a (Obj.mapSeq fun _ => #[])).push (seqObj "tuple" vs.toArray 0)).objs.size := by rw [size_push', Heap.size_update]; exact Nat.ne_of_lt (Nat.lt_succ_of_lt ha)
  have ho6 : (((s.heap.update a (Obj.mapSeq fun _ => #[])).push (seqObj "tuple" vs.toArray 0)).push (seqObj "list" #[] 0)).get? a = some (seqObj "list" #[] e1) := by
    rw [Heap.get?_push_ne _ _ _ n2, Heap.get?_push_ne _ _ _ n1]; exact ho1
  have keep : ∀ b o, b ≠ a → s.heap.get? b = some o → (((s.heap.update a (Obj.mapSeq fun _ => #[])).push (seqObj "tuple" vs.toArray 0)).push (seqObj "list" #[] 0)).get? b = some o := fun b o hb e => by
    refine Heap.get?_push_of_some _ (Heap.get?_push_of_some _ ?_)
    rw [Heap.get?_update_ne _ _ _ _ hb]; exact e
  obtain ⟨hL, hK⟩ := hO _ keep
  show wpAny (model prog w) A _ P E { s with heap := ((s.heap.update a (Obj.mapSeq fun _ => #[])).push (seqObj "tuple" vs.toArray 0)).push (seqObj "list" #[] 0) }
  dsimp only
  have hsz : vs.toArray.size = vs.length := by simp
  have hps : (pairsOf vs).size = vs.length := pairsOf_size vs
  have fit : ∀ xs : Array Keyed, xs.Perm (pairsOf vs) → (xs.map (·.2)).size ≤ sizeLine + 1 := fun xs p => by
    rw [Array.size_map, p.size_eq, hps, sizeLine_eq]; lia
  by_cases h2 : vs.toArray.size < 2
  · rw [if_pos h2, if_pos h2]
    refine wpAny_bind (wpAny_pure ?_)
    rw [StateT.run_pure]
    refine wpAny_bind (wpAny_pure ?_)
    dsimp only
    refine wpAny_bind (seqEpoch_at ho6 rfl (wpAny_bind (listUpdate_at ho6 rfl ?_ (hsz2 := fit (pairsOf vs) (Array.Perm.refl _)))))
    simp only [bne_self_eq_false, Bool.false_eq_true, if_false]
    refine wpAny_pure (h (pairsOf vs) (Array.Perm.refl _) fun i j hij hj => ?_)
    have : i = j := by lia
    subst this; exact KeyOrd.kle_refl _
  · rw [if_neg h2, if_neg h2]
    refine wpAny_bind (hK (by lia) _ _ ?_)
    refine wpAny_bind (wpAny_mono (w_runs (κ := κ) hL (a₀ := pairsOf vs) (st := SortSt.mk' kd (vs.toArray.zip vs.toArray) #[] 7 none)
      (Q := fun _ st' => (arrOf st').Perm (pairsOf vs) ∧ failedOf st' = none ∧ SortedToK κ (arrOf st') (pairsOf vs).size)
      h0 ⟨Array.Perm.refl _, rfl, rfl, rfl⟩ (by lia) (by lia) fun st' g1 g2 g3 => ⟨g1, g2, g3⟩) ?_ fun _ _ e => e)
    rintro ⟨⟨⟩, st'⟩ s' ⟨rfl, hp, hf, hs⟩
    dsimp only
    refine wpAny_bind (seqEpoch_at ho6 rfl (wpAny_bind (listUpdate_at ho6 rfl ?_ (hsz2 := fit (arrOf st') hp))))
    rw [hf]
    simp only [bne_self_eq_false, Bool.false_eq_true, if_false]
    exact wpAny_pure (h (arrOf st') hp hs)
end
end DD
set_option Elab.async false
set_option linter.all false
set_option maxRecDepth 100000
namespace DD
open PySem PySem.Spec PyProof.Rows
section
open PySem.SeqAt
open PySem.AutoSeq1 (wpAny_loadPart')
open PySem.MeetsSeq PySem.MeetsSeq2 PySem.MeetsSeq3
end
end DD
set_option Elab.async false
set_option linter.all false
set_option maxRecDepth 100000
namespace DD
open PySem
noncomputable def lcg : Nat → Nat → Nat
  | 0, z => z
  | n + 1, z => lcg n (5 * z + 1)
theorem lcg_add (m n z : Nat) : lcg (m + n) z = lcg n (lcg m z) := by
  induction m generalizing z with
  | zero => simp [lcg]
  | succ m ih => rw [Nat.succ_add]; simp only [lcg]; exact ih _
theorem lcg_pow (k : Nat) : ∃ c d, ∀ z, lcg (2 ^ k) z = (1 + 4 * 2 ^ k * c) * z + 2 ^ k * (2 * d + 1) := by
  induction k with
  | zero => exact ⟨1, 0, fun z => by simp [lcg]⟩
  | succ k ih =>
    obtain ⟨c, d, h⟩ := ih
    generalize hP : 2 ^ k = P at h
    have h2 : 2 ^ (k + 1) = P + P := by rw [Nat.pow_succ, hP]; lia
    refine ⟨c + 2 * P * c * c, d + P * c * (2 * d + 1), fun z => ?_⟩
    rw [h2, lcg_add, h, h]
    generalize hQ : P * c = Q
    have e1 : 4 * P * c = 4 * Q := by rw [Nat.mul_assoc, hQ]
    have e2 : 2 * P * c * c = 2 * (Q * c) := by rw [Nat.mul_assoc 2 P c, hQ, Nat.mul_assoc]
    have e3 : 4 * (P + P) * (c + 2 * P * c * c) = 8 * Q + 16 * Q * Q := by
      rw [e2, Nat.mul_add]
      have : 4 * (P + P) * c = 8 * Q := by rw [← hQ, show 4 * (P + P) = 8 * P from by lia, Nat.mul_assoc]
      have t2 : 4 * (P + P) * (2 * (Q * c)) = 16 * Q * Q := by
        rw [show 4 * (P + P) = 8 * P from by lia]
        calc 8 * P * (2 * (Q * c)) = 16 * ((P * c) * Q) := by
              grind
          _ = 16 * Q * Q := by rw [hQ, Nat.mul_assoc]
      lia
    rw [e1, e3]
    have e4 : (P + P) * (2 * (d + Q * (2 * d + 1)) + 1) = 2 * (P * (2 * d + 1)) + 4 * Q * (P * (2 * d + 1)) := by
      generalize hD : 2 * d + 1 = D
      have : 2 * (d + Q * D) + 1 = D + 2 * (Q * D) := by lia
      rw [this, Nat.mul_add]
      have t1 : (P + P) * D = 2 * (P * D) := by rw [Nat.add_mul]; lia
      have t2 : (P + P) * (2 * (Q * D)) = 4 * Q * (P * D) := by
        rw [show P + P = 2 * P from by lia]
        simp only [Nat.mul_assoc, Nat.mul_left_comm, Nat.mul_comm]
        try lia
      rw [t1, t2]
    rw [e4]
    generalize P * (2 * d + 1) = B
    rw [Nat.mul_add]
    have : (1 + 4 * Q) * ((1 + 4 * Q) * z) = (1 + (8 * Q + 16 * Q * Q)) * z := by grind
    rw [this, Nat.add_mul 1 (4 * Q) B]
    lia
theorem lcg_mod (n z M : Nat) : lcg n (z % M) % M = lcg n z % M := by
  induction n generalizing z with
  | zero => simp [lcg]
  | succ n ih =>
    simp only [lcg]
    rw [← ih (5 * (z % M) + 1), ← ih (5 * z + 1)]
    congr 2
    rw [Nat.add_mod, Nat.mul_mod, Nat.mod_mod, ← Nat.mul_mod, ← Nat.add_mod]
theorem lcg_cover (k : Nat) : ∀ z y, ∃ n, n < 2 ^ k ∧ lcg n z % 2 ^ k = y % 2 ^ k := by
  induction k with
  | zero => intro z y; exact ⟨0, by simp, by simp [Nat.mod_one]⟩
  | succ k ih =>
    intro z y
    obtain ⟨n, hn, h⟩ := ih z y
    obtain ⟨c, d, hp⟩ := lcg_pow k
    generalize hP : 2 ^ k = P at *
    have h2 : 2 ^ (k + 1) = 2 * P := by rw [Nat.pow_succ, hP]; lia
    have hpos : 0 < P := by rw [← hP]; exact Nat.two_pow_pos k
    rw [h2]
    by_cases e : lcg n z % (2 * P) = y % (2 * P)
    · exact ⟨n, by lia, e⟩
    · refine ⟨n + P, by lia, ?_⟩
      rw [lcg_add, hp]
      generalize lcg n z = u at *
      have e1 : (1 + 4 * P * c) * u + P * (2 * d + 1) = (u + P) + 2 * P * (2 * c * u + d) := by
        rw [Nat.add_mul, Nat.one_mul, Nat.mul_add, Nat.mul_add]
        have t1 : 4 * P * c * u = 2 * P * (2 * c * u) := by
          rw [show 4 * P = 2 * P * 2 from by lia]; simp only [Nat.mul_assoc]
        have t2 : P * (2 * d) = 2 * P * d := by rw [← Nat.mul_assoc, Nat.mul_comm P 2]
        lia
      rw [e1, Nat.add_mul_mod_self_left]
      have a1 := Nat.div_add_mod u P
      have a2 := Nat.div_add_mod y P
      have b1 : u % (2 * P) = u % P + P * (u / P % 2) := by rw [Nat.mul_comm 2 P, Nat.mod_mul]
      have b2 : y % (2 * P) = y % P + P * (y / P % 2) := by rw [Nat.mul_comm 2 P, Nat.mod_mul]
      have b3 : (u + P) % (2 * P) = (u + P) % P + P * ((u + P) / P % 2) := by rw [Nat.mul_comm 2 P, Nat.mod_mul]
      have c1 : (u + P) % P = u % P := Nat.add_mod_right u P
      have c2 : (u + P) / P = u / P + 1 := Nat.add_div_right u hpos
      rw [b3, b2, c1, c2, h]
      rw [b1, b2, h] at e
      rcases Nat.mod_two_eq_zero_or_one (u / P) with q1 | q1 <;> rcases Nat.mod_two_eq_zero_or_one (y / P) with q2 | q2
      · rw [q1, q2] at e; exact absurd rfl e
      · rw [q2, show (u / P + 1) % 2 = 1 from by lia]
      · rw [q2, show (u / P + 1) % 2 = 0 from by lia]
      · rw [q1, q2] at e; exact absurd rfl e
noncomputable def leaps (mask : Nat) : Nat → Nat × Nat → Nat × Nat
  | 0, p => p
  | n + 1, p => leaps mask n (SetTable.leap mask p.1 p.2)
theorem leaps_add (mask m n : Nat) (p : Nat × Nat) : leaps mask (m + n) p = leaps mask n (leaps mask m p) := by
  induction m generalizing p with
  | zero => simp [leaps]
  | succ m ih => rw [Nat.succ_add]; simp only [leaps]; exact ih _
theorem leaps_snd (mask n : Nat) (p : Nat × Nat) : (leaps mask n p).2 = p.2 / 32 ^ n := by
  induction n generalizing p with
  | zero => simp [leaps]
  | succ n ih => rw [leaps, ih]; simp only [SetTable.leap]; rw [Nat.div_div_eq_div_mul, Nat.pow_succ, Nat.mul_comm]
theorem leaps_flat (mask n i q : Nat) (hq : q < 32) (hi : i ≤ mask) : (leaps mask n (i, q)).1 = lcg n i % (mask + 1) := by
  induction n generalizing i q with
  | zero => simp [leaps, lcg]; exact (Nat.mod_eq_of_lt (Nat.lt_succ_of_le hi)).symm
  | succ n ih =>
    rw [leaps, lcg]
    have : q / 32 = 0 := Nat.div_eq_of_lt hq
    simp only [SetTable.leap, this, Nat.add_zero]
    rw [ih _ _ (by lia) (Nat.le_of_lt_succ (Nat.mod_lt _ (Nat.succ_pos _))), lcg_mod, Nat.mul_comm i 5]
theorem leaps_le (mask n : Nat) (p : Nat × Nat) (h : p.1 ≤ mask) : (leaps mask n p).1 ≤ mask := by
  induction n generalizing p with
  | zero => exact h
  | succ n ih => exact ih _ (Nat.le_of_lt_succ (Nat.mod_lt _ (Nat.succ_pos _)))
theorem bits_lt (h : Int) : SetTable.bits h < 2 ^ 64 := by
  unfold SetTable.bits
  have h1 := Int.emod_nonneg h (show (2 ^ 64 : Int) ≠ 0 by decide)
  have h2 := Int.emod_lt_of_pos h (show (0 : Int) < 2 ^ 64 by decide)
  lia
theorem leaps_cover (k mask : Nat) (hk : mask + 1 = 2 ^ k) (h : Int) (i y : Nat) (hi : i ≤ mask) (hy : y ≤ mask) : ∃ r, r < mask + 15 ∧ (leaps mask r (i, SetTable.bits h)).1 = y := by
  obtain ⟨n, hn, e⟩ := lcg_cover k (leaps mask 12 (i, SetTable.bits h)).1 y
  refine ⟨12 + n, by lia, ?_⟩
  rw [leaps_add]
  have s := leaps_snd mask 12 (i, SetTable.bits h)
  have b := bits_lt h
  have l := leaps_le mask 12 (i, SetTable.bits h) hi
  generalize leaps mask 12 (i, SetTable.bits h) = p at *
  obtain ⟨p1, p2⟩ := p
  simp only at s l e
  rw [leaps_flat mask n p1 p2 ?_ l, hk, e, ← hk]
  · exact Nat.mod_eq_of_lt (Nat.lt_succ_of_le hy)
  · rw [s]
    have : (32 ^ 12 : Nat) = 1152921504606846976 := by decide
    rw [this]
    lia
end DD
set_option Elab.async false
set_option linter.all false
set_option maxRecDepth 100000
namespace DD
open PySem
theorem below_go (xs : Array Nat) (hs : ∀ (a b u v : Nat), a < b → xs[a]? = some u → xs[b]? = some v → u < v) (j : Nat) : ∀ fuel lo hi, hi - lo ≤ fuel → lo ≤ hi → hi ≤ xs.size →
    (∀ (a v : Nat), a < lo → xs[a]? = some v → v < j) → (∀ (a v : Nat), hi ≤ a → xs[a]? = some v → j ≤ v) →
    SetTable.below.go xs j fuel lo hi ≤ xs.size ∧ (∀ (a v : Nat), a < SetTable.below.go xs j fuel lo hi → xs[a]? = some v → v < j) ∧ (∀ (a v : Nat), SetTable.below.go xs j fuel lo hi ≤ a → xs[a]? = some v → j ≤ v) := by
  intro fuel
  induction fuel with
  | zero =>
    intro lo hi h1 h2 h3 h4 h5
    have : hi = lo := by lia
    subst this
    simp only [SetTable.below.go]
    exact ⟨h3, h4, h5⟩
  | succ fuel ih =>
    intro lo hi h1 h2 h3 h4 h5
    simp only [SetTable.below.go]
    by_cases hl : lo < hi
    · rw [if_pos hl]
      have hm : (lo + hi) / 2 < xs.size := by lia
      have hg : xs[(lo + hi) / 2]? = some xs[(lo + hi) / 2] := Array.getElem?_eq_getElem hm
      have hd : xs.getD ((lo + hi) / 2) j = xs[(lo + hi) / 2] := by simp [Array.getD, hm]
      by_cases hc : xs.getD ((lo + hi) / 2) j < j
      · rw [if_pos hc]
        rw [hd] at hc
        refine ih _ _ (by lia) (by lia) h3 (fun a v ha hv => ?_) h5
        by_cases ha' : a < (lo + hi) / 2
        · exact Nat.lt_trans (hs _ _ _ _ ha' hv hg) hc
        · have : a = (lo + hi) / 2 := by lia
          subst this; rw [hg] at hv; injection hv with hv; lia
      · rw [if_neg hc]
        rw [hd] at hc
        refine ih _ _ (by lia) (by lia) (by lia) h4 (fun a v ha hv => ?_)
        by_cases ha' : (lo + hi) / 2 < a
        · have := hs _ _ _ _ ha' hg hv; lia
        · have : a = (lo + hi) / 2 := by lia
          subst this; rw [hg] at hv; injection hv with hv; lia
    · rw [if_neg hl]
      have : hi = lo := by lia
      subst this
      exact ⟨h3, h4, h5⟩
theorem ris_ix {xs : Array Nat} (h : xs.toList.Pairwise (· < ·)) (a b u v : Nat) (hab : a < b) (hu : xs[a]? = some u) (hv : xs[b]? = some v) : u < v := by
  rw [List.pairwise_iff_getElem] at h
  rw [← Array.getElem?_toList] at hu hv
  obtain ⟨ha, hu⟩ := List.getElem?_eq_some_iff.mp hu
  obtain ⟨hb, hv⟩ := List.getElem?_eq_some_iff.mp hv
  have := h a b ha hb hab
  rw [hu, hv] at this; exact this
theorem below_spec {xs : Array Nat} (h : xs.toList.Pairwise (· < ·)) (j : Nat) :
    SetTable.below xs j ≤ xs.size ∧ (∀ (a v : Nat), a < SetTable.below xs j → xs[a]? = some v → v < j) ∧ (∀ (a v : Nat), SetTable.below xs j ≤ a → xs[a]? = some v → j ≤ v) := by
  refine below_go xs (ris_ix h) j xs.size 0 xs.size (by lia) (by lia) (by lia) (fun a v ha => absurd ha (Nat.not_lt_zero a)) (fun a v ha hv => ?_)
  have : xs[a]? = none := Array.getElem?_eq_none (by lia)
  rw [this] at hv; cases hv
theorem below_at {xs : Array Nat} (h : xs.toList.Pairwise (· < ·)) {i j : Nat} (hi : xs[i]? = some j) : SetTable.below xs j = i := by
  obtain ⟨h1, h2, h3⟩ := below_spec h j
  have a1 : ¬ i < SetTable.below xs j := fun c => Nat.lt_irrefl _ (h2 i j c hi)
  have a2 : ¬ SetTable.below xs j < i := fun c => by
    have hsz : i < xs.size := (Array.getElem?_eq_some_iff.mp hi).1
    have hb : SetTable.below xs j < xs.size := by lia
    have e := Array.getElem?_eq_getElem hb
    have := h3 _ _ (Nat.le_refl _) e
    have := ris_ix h _ _ _ _ c e hi
    lia
  lia
theorem below_next {xs : Array Nat} (h : xs.toList.Pairwise (· < ·)) {i j : Nat} (hi : xs[i]? = some j) : SetTable.below xs (j + 1) = i + 1 := by
  obtain ⟨h1, h2, h3⟩ := below_spec h (j + 1)
  have hsz : i < xs.size := (Array.getElem?_eq_some_iff.mp hi).1
  have a1 : ¬ SetTable.below xs (j + 1) ≤ i := fun c => by have := h3 i j c hi; lia
  have a2 : ¬ i + 1 < SetTable.below xs (j + 1) := fun c => by
    have hb : i + 1 < xs.size := by lia
    have e := Array.getElem?_eq_getElem hb
    have := h2 _ _ c e
    have := ris_ix h i (i + 1) _ _ (by lia) hi e
    lia
  lia
theorem below_zero {xs : Array Nat} (h : xs.toList.Pairwise (· < ·)) : SetTable.below xs 0 = 0 := by
  obtain ⟨h1, h2, h3⟩ := below_spec h 0
  refine Nat.eq_zero_of_not_pos fun c => ?_
  have hb : 0 < xs.size := by lia
  have e := Array.getElem?_eq_getElem hb
  exact absurd (h2 _ _ c e) (Nat.not_lt_zero _)
noncomputable abbrev Pr := SetTable.Probe
noncomputable def adv (mask : Nat) (p : Pr) : Pr :=
  if p.more > 0 then { p with j := p.j + 1, more := p.more - 1 } else
  let (i, perturb) := SetTable.leap mask p.i p.perturb
  { p with j := i, more := SetTable.runEnd mask i - i, i, perturb }
theorem advance_eq (t : SetTable) (p : Pr) : t.advance p = adv t.mask p := rfl
theorem adv_dummy (mask : Nat) (p : Pr) : (adv mask p).dummy = p.dummy := by unfold adv; split <;> rfl
noncomputable def startAt (mask i perturb : Nat) : Pr := { j := i, more := SetTable.runEnd mask i - i, i, perturb, dummy := none }
noncomputable def PathN (mask : Nat) (occ : Nat → Prop) : Nat → Pr → Pr → Prop
  | 0, p, q => q = p
  | n + 1, p, q => occ p.j ∧ PathN mask occ n (adv mask p) q
theorem PathN.mono {mask : Nat} {occ occ' : Nat → Prop} (h : ∀ j, occ j → occ' j) : ∀ {n p q}, PathN mask occ n p q → PathN mask occ' n p q
  | 0, p, q, e => e
  | n + 1, p, q, e => ⟨h _ e.1, PathN.mono h e.2⟩
theorem PathN.trans {mask : Nat} {occ : Nat → Prop} : ∀ {m n p q r}, PathN mask occ m p q → PathN mask occ n q r → PathN mask occ (m + n) p r
  | 0, n, p, q, r, e, f => by rw [Nat.zero_add]; cases e; exact f
  | m + 1, n, p, q, r, e, f => by rw [Nat.succ_add]; exact ⟨e.1, PathN.trans e.2 f⟩
noncomputable def inRun (mask i perturb d : Nat) : Pr := { j := i + d, more := SetTable.runEnd mask i - i - d, i, perturb, dummy := none }
theorem runEnd_facts (mask i : Nat) (hi : i ≤ mask) : i ≤ SetTable.runEnd mask i ∧ SetTable.runEnd mask i ≤ mask ∧ SetTable.runEnd mask i ≤ i + 9 := by
  unfold SetTable.runEnd; split <;> lia
theorem path_run (mask : Nat) (occ : Nat → Prop) (i perturb : Nat) : ∀ d, d ≤ SetTable.runEnd mask i - i → (∀ e, e < d → occ (i + e)) → PathN mask occ d (startAt mask i perturb) (inRun mask i perturb d)
  | 0, _, _ => by simp [PathN, inRun, startAt]
  | d + 1, hd, ho => by
    refine (path_run mask occ i perturb d (by lia) fun e he => ho e (by lia)).trans (n := 1) ⟨ho d (by lia), ?_⟩
    show _ = _
    unfold adv
    rw [if_pos (show (inRun mask i perturb d).more > 0 from by simp [inRun]; lia)]
    simp [inRun]; lia
theorem path_leap (mask : Nat) (occ : Nat → Prop) (i perturb : Nat) (ho : ∀ e, e ≤ SetTable.runEnd mask i - i → occ (i + e)) :
    PathN mask occ (SetTable.runEnd mask i - i + 1) (startAt mask i perturb) (startAt mask (SetTable.leap mask i perturb).1 (SetTable.leap mask i perturb).2) := by
  refine (path_run mask occ i perturb _ (Nat.le_refl _) fun e he => ho e (by lia)).trans (n := 1) ⟨ho _ (Nat.le_refl _), ?_⟩
  show _ = _
  unfold adv
  rw [if_neg (show ¬ (inRun mask i perturb (SetTable.runEnd mask i - i)).more > 0 from by simp [inRun])]
  rfl
theorem free_path (mask : Nat) (owner : Array (Option Nat)) (occ : Nat → Prop) (hocc : ∀ j, j ≤ mask → (occ j ↔ (owner.getD j (some 0)).isSome = true)) (y : Nat) (hy : ¬ occ y) :
    ∀ fuel i q, i ≤ mask → (∃ r, r < fuel ∧ (leaps mask r (i, q)).1 = y) →
    ∃ n p, n < 10 * fuel ∧ PathN mask occ n (startAt mask i q) p ∧ ¬ occ p.j ∧ p.j ≤ mask ∧ SetTable.layClean.free mask owner fuel i q = some p.j := by
  intro fuel
  induction fuel with
  | zero => rintro i q _ ⟨r, hr, _⟩; lia
  | succ fuel ih =>
    rintro i q hi ⟨r, hr, hq⟩
    obtain ⟨f1, f2, f3⟩ := runEnd_facts mask i hi
    rw [SetTable.layClean.free]
    cases hf : (List.range (SetTable.runEnd mask i + 1 - i)).find? fun k => (owner.getD (i + k) (some 0)).isNone with
    | some k =>
      rw [List.find?_range_eq_some] at hf
      obtain ⟨hk, hm, hb⟩ := hf
      rw [List.mem_range] at hm
      refine ⟨k, inRun mask i q k, by lia, path_run mask occ i q k (by lia) fun e he => ?_, ?_, ?_, rfl⟩
      · rw [hocc _ (by lia)]
        have := hb e he
        simpa [Option.isNone_iff_eq_none, Option.isSome_iff_ne_none] using this
      · show ¬ occ (i + k)
        rw [hocc _ (by lia)]
        simpa [Option.isNone_iff_eq_none] using hk
      · show i + k ≤ mask
        lia
    | none =>
      rw [List.find?_range_eq_none] at hf
      have hall : ∀ e, e ≤ SetTable.runEnd mask i - i → occ (i + e) := fun e he => by
        rw [hocc _ (by lia)]
        have := hf e (by lia)
        simpa [Option.isNone_iff_eq_none, Option.isSome_iff_ne_none] using this
      have hr0 : r ≠ 0 := by
        rintro rfl
        refine hy ?_
        rw [← hq]
        exact hall 0 (Nat.zero_le _)
      obtain ⟨r, rfl⟩ := Nat.exists_eq_succ_of_ne_zero hr0
      obtain ⟨n, p, h1, h2, h3, h4, h5⟩ := ih (SetTable.leap mask i q).1 (SetTable.leap mask i q).2 (Nat.le_of_lt_succ (Nat.mod_lt _ (Nat.succ_pos _))) ⟨r, by lia, hq⟩
      exact ⟨SetTable.runEnd mask i - i + 1 + n, p, by lia, (path_leap mask occ i q hall).trans h2, h3, h4, h5⟩
noncomputable def Rch (mask : Nat) (occ : Nat → Prop) (h : Int) (j : Nat) : Prop := ∃ n q, PathN mask occ n (startAt mask (SetTable.bits h % (mask + 1)) (SetTable.bits h)) q ∧ q.j = j ∧ n < 10 * (mask + 15)
theorem Rch.mono {mask : Nat} {occ occ' : Nat → Prop} (h : ∀ j, occ j → occ' j) {x : Int} {j : Nat} (r : Rch mask occ x j) : Rch mask occ' x j := let ⟨n, q, a, b, c⟩ := r; ⟨n, q, a.mono h, b, c⟩
structure TOk (t : SetTable) (es : Array (Int × Value)) : Prop where
  pow : ∃ k, t.mask + 1 = 2 ^ (k + 1)
  dum : t.dummies = #[]
  ris : t.place.toList.Pairwise (· < ·)
  sz : t.place.size = es.size
  le : ∀ j ∈ t.place.toList, j ≤ t.mask
  reach : ∀ e j, (e, j) ∈ es.toList.zip t.place.toList → Rch t.mask (· ∈ t.place.toList) e.1 j
  room : es.size ≤ t.mask
theorem TOk.fits {t : SetTable} {es : Array (Int × Value)} (h : TOk t es) : t.fits es.size = true := by
  simp [SetTable.fits, SetTable.fill, h.sz, h.dum, h.room]
theorem TOk.odd {t : SetTable} {es : Array (Int × Value)} (h : TOk t es) : t.gaveWay = false := by
  obtain ⟨k, hk⟩ := h.pow
  have : 2 ^ (k + 1) = 2 * 2 ^ k := by rw [Nat.pow_succ, Nat.mul_comm]
  simp [SetTable.gaveWay]; lia
theorem TOk.slot_in {t : SetTable} {es : Array (Int × Value)} (h : TOk t es) {i j : Nat} (hi : t.place[i]? = some j) : t.slot j = .live i := by
  simp [SetTable.slot, below_at h.ris hi, hi]
theorem TOk.slot_out {t : SetTable} {es : Array (Int × Value)} (h : TOk t es) {j : Nat} (hj : j ∉ t.place.toList) : t.slot j = .empty := by
  have h1 : ¬ t.place[SetTable.below t.place j]? = some j := fun c => hj (by
    rw [← Array.getElem?_toList] at c; exact List.mem_of_getElem? c)
  simp [SetTable.slot, h1, SetTable.has, h.dum]
theorem TOk.free {t : SetTable} {es : Array (Int × Value)} (h : TOk t es) (x : Int) :
    ∃ n p, n < 10 * (t.mask + 15) ∧ PathN t.mask (· ∈ t.place.toList) n (t.probeStart x) p ∧ p.j ∉ t.place.toList ∧ p.j ≤ t.mask := by
  have hy : ∃ y, y ≤ t.mask ∧ y ∉ t.place.toList := by
    refine Classical.byContradiction fun c => ?_
    have := len_le_of_sub (List.range (t.mask + 1)) t.place.toList List.nodup_range fun x hx => Classical.byContradiction fun d => c ⟨x, Nat.le_of_lt_succ (List.mem_range.mp hx), d⟩
    have hs := h.sz
    have hr := h.room
    simp at this; lia
  obtain ⟨y, hy1, hy2⟩ := hy
  obtain ⟨k, hk⟩ := h.pow
  have hi : SetTable.bits x % (t.mask + 1) ≤ t.mask := Nat.le_of_lt_succ (Nat.mod_lt _ (Nat.succ_pos _))
  have hc := leaps_cover (k + 1) t.mask hk x (SetTable.bits x % (t.mask + 1)) y hi hy1
  obtain ⟨n, p, a, b, c, d, _⟩ := free_path t.mask ((Array.range (t.mask + 1)).map fun j => if j ∈ t.place.toList then some 0 else none) (· ∈ t.place.toList) (fun j hj => by
    have hj' : j < t.mask + 1 := by lia
    simp only [Array.getD, Array.size_map, Array.size_range, hj', dif_pos, Array.getElem_map, Array.getElem_range, Array.getInternal_eq_getElem]
    split <;> simp_all) y hy2 (t.mask + 15) _ _ hi hc
  exact ⟨n, p, a, b, c, d⟩
theorem TOk.mem_ix {t : SetTable} {es : Array (Int × Value)} (h : TOk t es) {j : Nat} (hj : j ∈ t.place.toList) : ∃ i : Nat, t.place[i]? = some j := by
  obtain ⟨i, hi⟩ := List.getElem?_of_mem hj
  exact ⟨i, by rw [← Array.getElem?_toList]; exact hi⟩
theorem TOk.go_free {t : SetTable} {es : Array (Int × Value)} (h : TOk t es) (hashAt : Nat → Int) (x : Int) : ∀ n fuel p q, PathN t.mask (· ∈ t.place.toList) n p q → n < fuel → p.dummy = none → q.j ∉ t.place.toList →
    SetTable.probe.go t hashAt x fuel p = some (.empty q.j none) ∨
    ∃ j i next n', n' < n ∧ SetTable.probe.go t hashAt x fuel p = some (.candidate j i next) ∧ t.place[i]? = some j ∧ hashAt i = x ∧ next.dummy = none ∧ PathN t.mask (· ∈ t.place.toList) n' next q := by
  intro n
  induction n with
  | zero =>
    intro fuel p q hp hf hd hq
    cases hp
    obtain ⟨fuel, rfl⟩ : ∃ f, fuel = f + 1 := ⟨fuel - 1, by lia⟩
    rw [SetTable.probe.go, h.slot_out hq]
    simp [hd]
  | succ n ih =>
    intro fuel p q hp hf hd hq
    obtain ⟨fuel, rfl⟩ : ∃ f, fuel = f + 1 := ⟨fuel - 1, by lia⟩
    obtain ⟨i, hi⟩ := h.mem_ix hp.1
    rw [SetTable.probe.go, h.slot_in hi]
    by_cases hh : hashAt i = x
    · refine .inr ⟨p.j, i, t.advance p, n, Nat.lt_succ_self _, by simp [hh], hi, hh, by rw [advance_eq, adv_dummy, hd], hp.2⟩
    · have hb : (hashAt i == x) = false := by simpa using hh
      simp only [hb, Bool.false_eq_true, if_false]
      rcases ih fuel (t.advance p) q hp.2 (by lia) (by rw [advance_eq, adv_dummy, hd]) hq with e | ⟨j, i', next, n', h1, h2⟩
      · exact .inl e
      · exact .inr ⟨j, i', next, n', by lia, h2⟩
theorem TOk.go_same {t : SetTable} {es : Array (Int × Value)} (h : TOk t es) (hashAt : Nat → Int) (x : Int) (i0 : Nat) : ∀ n fuel p q, PathN t.mask (· ∈ t.place.toList) n p q → n < fuel → p.dummy = none → t.place[i0]? = some q.j → hashAt i0 = x →
    ∃ j i next, SetTable.probe.go t hashAt x fuel p = some (.candidate j i next) ∧ t.place[i]? = some j ∧ hashAt i = x ∧ next.dummy = none ∧ (i = i0 ∨ ∃ n', n' < n ∧ PathN t.mask (· ∈ t.place.toList) n' next q) := by
  intro n
  induction n with
  | zero =>
    intro fuel p q hp hf hd hq hx
    cases hp
    obtain ⟨fuel, rfl⟩ : ∃ f, fuel = f + 1 := ⟨fuel - 1, by lia⟩
    rw [SetTable.probe.go, h.slot_in hq]
    exact ⟨p.j, i0, t.advance p, by simp [hx], hq, hx, by rw [advance_eq, adv_dummy, hd], .inl rfl⟩
  | succ n ih =>
    intro fuel p q hp hf hd hq hx
    obtain ⟨fuel, rfl⟩ : ∃ f, fuel = f + 1 := ⟨fuel - 1, by lia⟩
    obtain ⟨i, hi⟩ := h.mem_ix hp.1
    rw [SetTable.probe.go, h.slot_in hi]
    by_cases hh : hashAt i = x
    · exact ⟨p.j, i, t.advance p, by simp [hh], hi, hh, by rw [advance_eq, adv_dummy, hd], .inr ⟨n, Nat.lt_succ_self _, hp.2⟩⟩
    · have hb : (hashAt i == x) = false := by simpa using hh
      simp only [hb, Bool.false_eq_true, if_false]
      obtain ⟨j, i', next, h1, h2, h3, h4, h5⟩ := ih fuel (t.advance p) q hp.2 (by lia) (by rw [advance_eq, adv_dummy, hd]) hq hx
      exact ⟨j, i', next, h1, h2, h3, h4, h5.imp id fun ⟨n', a, b⟩ => ⟨n', by lia, b⟩⟩
end DD
set_option Elab.async false
set_option linter.all false
set_option maxRecDepth 100000
namespace DD
open PySem
theorem zip_take_drop {α β : Type} (x : α) (y : β) (e : α × β) : ∀ (p : Nat) (xs : List α) (ys : List β), xs.length = ys.length → e ∈ (xs.take p ++ x :: xs.drop p).zip (ys.take p ++ y :: ys.drop p) → e = (x, y) ∨ e ∈ xs.zip ys
  | 0, xs, ys, _, h => by simpa using h
  | p + 1, [], [], _, h => by simpa using h
  | p + 1, a :: xs, b :: ys, hl, h => by
    simp only [List.take_succ_cons, List.drop_succ_cons, List.cons_append, List.zip_cons_cons, List.mem_cons] at h ⊢
    rcases h with h | h
    · exact .inr (.inl h)
    · rcases zip_take_drop x y e p xs ys (by simpa using hl) h with q | q
      · exact .inl q
      · exact .inr (.inr q)
theorem TOk.put {t : SetTable} {es : Array (Int × Value)} (h : TOk t es) {x : Int} {v : Value} {j : Nat} (hr : Rch t.mask (· ∈ t.place.toList) x j) (hj : j ∉ t.place.toList) (hm : j ≤ t.mask) (hroom : es.size + 1 ≤ t.mask) :
    TOk (t.put j).1 (SetTable.insertAt es (t.put j).2 (x, v)) ∧ (t.put j).1 = { t with place := SetTable.insertAt t.place (t.put j).2 j } := by
  have e0 : (t.put j).1 = { t with place := SetTable.insertAt t.place (t.put j).2 j } := by
    simp [SetTable.put, SetTable.has, h.dum]
  refine ⟨?_, e0⟩
  have hp : (t.put j).2 = SetTable.below t.place j := rfl
  rw [e0, hp]
  generalize hb : SetTable.below t.place j = p
  obtain ⟨b1, b2, b3⟩ := below_spec h.ris j
  rw [hb] at b1 b2 b3
  have hmem : ∀ k, k ∈ t.place.toList → k ∈ (SetTable.insertAt t.place p j).toList := fun k hk => (SetTable.insertAt_perm t.place p j).mem_iff.mpr (by simp at hk ⊢; exact .inl hk)
  have hmem' : ∀ k, k ∈ (SetTable.insertAt t.place p j).toList → k ∈ t.place.toList ∨ k = j := fun k hk => by
    have := (SetTable.insertAt_perm t.place p j).mem_iff.mp hk
    simpa using this
  have szp : (SetTable.insertAt t.place p j).size = t.place.size + 1 := by
    have := (SetTable.insertAt_perm t.place p j).length_eq
    simpa using this
  have sze : (SetTable.insertAt es p (x, v)).size = es.size + 1 := by
    have := (SetTable.insertAt_perm es p (x, v)).length_eq
    simpa using this
  constructor
  · exact h.pow
  · exact h.dum
  · show (SetTable.insertAt t.place p j).toList.Pairwise (· < ·)
    rw [SetTable.toList_insertAt, List.pairwise_append, List.pairwise_cons]
    have l1 : ∀ a ∈ t.place.toList.take p, a < j := fun a ha => by
      obtain ⟨i, hi⟩ := List.getElem?_of_mem ha
      rw [List.getElem?_take] at hi
      split at hi
      · exact b2 i a (by assumption) (by rw [← Array.getElem?_toList]; exact hi)
      · cases hi
    have l2 : ∀ a ∈ t.place.toList.drop p, j < a := fun a ha => by
      have ha' := List.mem_of_mem_drop ha
      obtain ⟨i, hi⟩ := List.getElem?_of_mem ha
      rw [List.getElem?_drop] at hi
      have := b3 (p + i) a (by lia) (by rw [← Array.getElem?_toList]; exact hi)
      have hne : j ≠ a := fun e => hj (e ▸ ha')
      lia
    refine ⟨h.ris.sublist (List.take_sublist p _), ⟨l2, h.ris.sublist (List.drop_sublist p _)⟩, fun a ha b hb => ?_⟩
    rcases List.mem_cons.mp hb with rfl | hb
    · exact l1 a ha
    · exact Nat.lt_trans (l1 a ha) (l2 b hb)
  · show (SetTable.insertAt t.place p j).size = _
    rw [szp, sze, h.sz]
  · intro k hk
    rcases hmem' k hk with hk | rfl
    · exact h.le k hk
    · exact hm
  · intro e k hek
    show Rch t.mask (· ∈ (SetTable.insertAt t.place p j).toList) e.1 k
    simp only [SetTable.toList_insertAt] at hek
    rcases zip_take_drop (x, v) j (e, k) p es.toList t.place.toList (by simp [h.sz]) hek with q | q
    · injection q with q1 q2; subst q1 q2; exact hr.mono hmem
    · exact (h.reach e k q).mono hmem
  · show _ ≤ t.mask
    rw [sze]; exact hroom
noncomputable def liveOf (n : Nat) (f : Nat → Option Nat) : List (Nat × Nat) := (List.range n).filterMap fun j => (f j).map (j, ·)
theorem liveOf_succ (n : Nat) (f : Nat → Option Nat) : liveOf (n + 1) f = liveOf n f ++ (match f n with | some c => [(n, c)] | none => []) := by
  unfold liveOf
  rw [List.range_succ, List.filterMap_append]
  cases h : f n <;> simp [h]
theorem liveOf_congr (n : Nat) (f g : Nat → Option Nat) (h : ∀ j, j < n → f j = g j) : liveOf n f = liveOf n g := by
  induction n with
  | zero => rfl
  | succ n ih => rw [liveOf_succ, liveOf_succ, ih fun j hj => h j (by lia), h n (by lia)]
theorem liveOf_put (f g : Nat → Option Nat) (j c : Nat) (hf : f j = none) (hg : g j = some c) (ho : ∀ i, i ≠ j → g i = f i) : ∀ n, j < n → (liveOf n g).Perm ((j, c) :: liveOf n f)
  | 0, h => absurd h (Nat.not_lt_zero _)
  | n + 1, h => by
    rw [liveOf_succ, liveOf_succ]
    by_cases e : j = n
    · subst e
      rw [hg, hf, liveOf_congr j g f (fun i hi => ho i (by lia))]
      simp only [List.append_nil]
      exact List.perm_append_singleton _ _
    · rw [ho n (fun q => e q.symm)]
      exact (liveOf_put f g j c hf hg ho n (by lia)).append_right _
theorem liveOf_full (n : Nat) (f : Nat → Option Nat) (h : ∀ j, j < n → (f j).isSome = true) : (liveOf n f).length = n := by
  induction n with
  | zero => rfl
  | succ n ih =>
    rw [liveOf_succ, List.length_append, ih fun j hj => h j (by lia)]
    have := h n (by lia)
    cases hf : f n with
    | none => rw [hf] at this; cases this
    | some c => simp
theorem liveOf_mem {n : Nat} {f : Nat → Option Nat} {j c : Nat} : (j, c) ∈ liveOf n f ↔ j < n ∧ f j = some c := by
  simp only [liveOf, List.mem_filterMap, List.mem_range, Option.map_eq_some_iff, Prod.mk.injEq]
  constructor
  · rintro ⟨a, h1, b, h2, rfl, rfl⟩; exact ⟨h1, h2⟩
  · rintro ⟨h1, h2⟩; exact ⟨j, h1, c, h2, rfl, rfl⟩
theorem liveOf_ris (n : Nat) (f : Nat → Option Nat) : ((liveOf n f).map (·.1)).Pairwise (· < ·) := by
  rw [List.pairwise_map]
  refine List.Pairwise.filterMap _ (fun a a' hlt b hb b' hb' => ?_) List.pairwise_lt_range
  simp only [Option.mem_def, Option.map_eq_some_iff] at hb hb'
  obtain ⟨_, _, rfl⟩ := hb
  obtain ⟨_, _, rfl⟩ := hb'
  exact hlt
theorem liveOf_all (n : Nat) (f : Nat → Option Nat) (j : Nat) (hj : j < n) : j ∈ (liveOf n f).map (·.1) ↔ (f j).isSome = true := by
  simp only [List.mem_map, Prod.exists]
  constructor
  · rintro ⟨a, b, h, rfl⟩; rw [(liveOf_mem.mp h).2]; rfl
  · intro h
    obtain ⟨c, hc⟩ := Option.isSome_iff_exists.mp h
    exact ⟨j, c, liveOf_mem.mpr ⟨hj, hc⟩, rfl⟩
noncomputable def layStep (mask : Nat) (acc : Option (Array (Option Nat) × Nat)) (h : Int) : Option (Array (Option Nat) × Nat) := do
    let (owner, k) ← acc
    let j ← SetTable.layClean.free mask owner (SetTable.turns mask) (SetTable.bits h % (mask + 1)) (SetTable.bits h)
    pure (owner.setIfInBounds j (some k), k + 1)
theorem layClean_eq (mask : Nat) (hs : Array Int) : SetTable.layClean mask hs = (hs.toList.foldl (layStep mask) (some (Array.replicate (mask + 1) none, 0))).map (·.1) := by
  rw [Array.foldl_toList]; rfl
structure LOk (mask : Nat) (hs : List Int) (owner : Array (Option Nat)) (c : Nat) : Prop where
  sz : owner.size = mask + 1
  perm : ((liveOf (mask + 1) (owner.getD · none)).map (·.2)).Perm (List.range c)
  reach : ∀ j k, (j, k) ∈ liveOf (mask + 1) (owner.getD · none) → ∃ h, hs[k]? = some h ∧ Rch mask (fun i => (owner.getD i none).isSome = true ∧ i ≤ mask) h j
theorem lay_all (k mask : Nat) (hk : mask + 1 = 2 ^ (k + 1)) (hs : List Int) (hn : hs.length ≤ mask) : ∀ (rest : List Int) (c : Nat) (owner : Array (Option Nat)), hs.drop c = rest → LOk mask hs owner c →
    ∃ owner', rest.foldl (layStep mask) (some (owner, c)) = some (owner', c + rest.length) ∧ LOk mask hs owner' (c + rest.length)
  | [], c, owner, _, h => ⟨owner, rfl, h⟩
  | x :: rest, c, owner, hd, h => by
    have hc : hs[c]? = some x := by
      have : (hs.drop c)[0]? = some x := by rw [hd]; rfl
      simpa using this
    have hclt : c < hs.length := (List.getElem?_eq_some_iff.mp hc).1
    have hlen : (liveOf (mask + 1) (owner.getD · none)).length = c := by
      have := h.perm.length_eq
      simpa using this
    have hy : ∃ y, y ≤ mask ∧ ¬ ((owner.getD y none).isSome = true ∧ y ≤ mask) := by
      refine Classical.byContradiction fun q => ?_
      have := liveOf_full (mask + 1) (owner.getD · none) fun j hj => Classical.byContradiction fun d => q ⟨j, by lia, fun e => d e.1⟩
      lia
    obtain ⟨y, hy1, hy2⟩ := hy
    have hi : SetTable.bits x % (mask + 1) ≤ mask := Nat.le_of_lt_succ (Nat.mod_lt _ (Nat.succ_pos _))
    obtain ⟨n, p, a1, a2, a3, a4, a5⟩ := free_path mask owner (fun i => (owner.getD i none).isSome = true ∧ i ≤ mask) (fun j hj => by
      have hj' : j < owner.size := by rw [h.sz]; lia
      simp [Array.getD, hj', hj]) y hy2 (mask + 15) _ _ hi (leaps_cover (k + 1) mask hk x _ y hi hy1)
    have hst : layStep mask (some (owner, c)) x = some (owner.setIfInBounds p.j (some c), c + 1) := by
      unfold layStep SetTable.turns
      simp only [Option.bind_eq_bind, Option.bind_some, a5]
      rfl
    have hpj : p.j < owner.size := by rw [h.sz]; lia
    have hnone : owner.getD p.j none = none := by
      cases q : owner.getD p.j none with
      | none => rfl
      | some _ => exact absurd ⟨by rw [q]; rfl, a4⟩ a3
    have hat : (owner.setIfInBounds p.j (some c)).getD p.j none = some c := by
      simp [Array.getD, hpj]
    have hoth : ∀ i, i ≠ p.j → (owner.setIfInBounds p.j (some c)).getD i none = owner.getD i none := fun i hne => by
      simp only [Array.getD, Array.size_setIfInBounds]
      split
      · simp only [Array.getInternal_eq_getElem]
        rw [Array.getElem_setIfInBounds_ne]
        exact fun e => hne e.symm
      · rfl
    have hmono : ∀ i, ((owner.getD i none).isSome = true ∧ i ≤ mask) → ((owner.setIfInBounds p.j (some c)).getD i none).isSome = true ∧ i ≤ mask := fun i hi => by
      by_cases e : i = p.j
      · subst e; rw [hat]; exact ⟨rfl, a4⟩
      · rw [hoth i e]; exact hi
    have hperm := liveOf_put (owner.getD · none) ((owner.setIfInBounds p.j (some c)).getD · none) p.j c hnone hat hoth (mask + 1) (by lia)
    have L : LOk mask hs (owner.setIfInBounds p.j (some c)) (c + 1) := by
      refine ⟨by simp [h.sz], ?_, fun j q hm => ?_⟩
      · refine (hperm.map _).trans ?_
        rw [List.map_cons, List.range_succ]
        exact (h.perm.cons c).trans (List.perm_append_singleton c _).symm
      · rcases List.mem_cons.mp (hperm.mem_iff.mp hm) with e | e
        · injection e with e1 e2
          subst e1 e2
          exact ⟨x, hc, n, p, a2.mono hmono, rfl, a1⟩
        · obtain ⟨h', e1, e2⟩ := h.reach j q e
          exact ⟨h', e1, e2.mono hmono⟩
    obtain ⟨o', f1, f2⟩ := lay_all k mask hk hs hn rest (c + 1) _ (by rw [← List.drop_drop, hd]; rfl) L
    refine ⟨o', ?_, ?_⟩
    · rw [List.foldl_cons, hst, f1]; simp; lia
    · have : c + (x :: rest).length = c + 1 + rest.length := by simp; lia
      rw [this]; exact f2
theorem relaid_ok (t : SetTable) (es : Array (Int × Value)) (wanted k : Nat) (hk : SetTable.sizeAbove wanted = 2 ^ (k + 1)) (hn : es.size < SetTable.sizeAbove wanted) :
    ∃ t' order, t.relaid (es.map (·.1)) wanted = some (t', order) ∧ TOk t' (order.filterMap (es[·]?)) ∧ (order.filterMap (es[·]?)).toList.Perm es.toList ∧ order.toList.Perm (List.range es.size) ∧
      t'.mask = SetTable.sizeAbove wanted - 1 ∧ t'.led = t.led ∧ t'.plain = t.plain := by
  unfold SetTable.relaid SetTable.laid
  generalize hM : SetTable.sizeAbove wanted - 1 = mask
  have hk' : mask + 1 = 2 ^ (k + 1) := by lia
  have hhs : (es.map (·.1)).toList.length ≤ mask := by simp; lia
  obtain ⟨owner, h1, h2⟩ := lay_all k mask hk' (es.map (·.1)).toList hhs _ 0 (Array.replicate (mask + 1) none) rfl ⟨by simp, by
      have : liveOf (mask + 1) ((Array.replicate (mask + 1) (none : Option Nat)).getD · none) = [] := by
        simp [liveOf, Array.getD]
      rw [this]; exact .refl _, fun j k hm => by
        have := (liveOf_mem.mp hm).2
        simp [Array.getD] at this⟩
  rw [List.drop_zero] at h1 h2
  rw [layClean_eq, h1]
  simp only [Option.map_some, Option.bind_eq_bind, Option.bind_some]
  rw [Nat.zero_add] at h2
  have hz : (es.map (·.1)).toList.length = es.size := by simp
  rw [hz] at h2
  generalize hL : liveOf (mask + 1) (owner.getD · none) = L
  have hL' : (List.range (mask + 1)).filterMap (fun j => (owner.getD j none).map (j, ·)) = L := hL
  rw [hL']
  have hperm : (L.map (·.2)).Perm (List.range es.size) := by rw [← hL]; exact h2.perm
  have hlt : ∀ j q, (j, q) ∈ L → q < es.size := fun j q hm => by
    have : q ∈ L.map (·.2) := List.mem_map.mpr ⟨_, hm, rfl⟩
    exact List.mem_range.mp (hperm.mem_iff.mp this)
  refine ⟨_, _, rfl, ?_, ?_, by simpa using hperm, rfl, rfl, rfl⟩
  · have hes : ∀ (l : List (Nat × Nat)), (∀ j q, (j, q) ∈ l → q < es.size) → ((l.map (·.2)).filterMap (es[·]?)).zip (l.map (·.1)) = l.map (fun p => (es.getD p.2 default, p.1)) ∧ ((l.map (·.2)).filterMap (es[·]?)).length = l.length := by
      intro l
      induction l with
      | nil => intro _; exact ⟨rfl, rfl⟩
      | cons a l ih =>
        intro hl
        obtain ⟨i1, i2⟩ := ih fun j q hm => hl j q (List.mem_cons_of_mem _ hm)
        have ha := hl a.1 a.2 List.mem_cons_self
        have e : es[a.2]? = some es[a.2] := Array.getElem?_eq_getElem ha
        rw [List.map_cons, List.filterMap_cons_some e, List.map_cons, List.zip_cons_cons, i1, List.map_cons]
        exact ⟨by simp [Array.getD, ha], by rw [List.length_cons, List.length_cons, i2]⟩
    obtain ⟨z1, z2⟩ := hes L hlt
    have hto : (Array.filterMap (es[·]?) (L.map (·.2)).toArray).toList = (L.map (·.2)).filterMap (es[·]?) := by simp [Array.toList_filterMap]
    have hlen : L.length = es.size := by have := hperm.length_eq; simpa using this
    have hsz : (Array.filterMap (es[·]?) (L.map (·.2)).toArray).size = es.size := by rw [← Array.length_toList, hto, z2, hlen]
    refine ⟨⟨k, hk'⟩, rfl, ?_, ?_, ?_, ?_, ?_⟩
    · show ((L.map (·.1)).toArray.toList).Pairwise (· < ·)
      rw [← hL]; exact liveOf_ris _ _
    · show (L.map (·.1)).toArray.size = _
      rw [hsz]; simp [hlen]
    · show ∀ j ∈ (L.map (·.1)).toArray.toList, j ≤ mask
      intro j hj
      obtain ⟨⟨a, b⟩, hm, rfl⟩ := List.mem_map.mp hj
      rw [← hL] at hm
      exact Nat.le_of_lt_succ (liveOf_mem.mp hm).1
    · intro e j hm
      rw [hto] at hm
      have hm' : (e, j) ∈ L.map (fun p => (es.getD p.2 default, p.1)) := by rw [← z1]; exact hm
      obtain ⟨⟨a, b⟩, hm2, e2⟩ := List.mem_map.mp hm'
      injection e2 with e3 e4
      subst e3 e4
      have hb := hlt _ _ hm2
      obtain ⟨x, hx, hr⟩ := h2.reach a b (by rw [hL]; exact hm2)
      show Rch mask (· ∈ (L.map (·.1)).toArray.toList) (es.getD b default).1 a
      have : x = (es.getD b default).1 := by
        rw [Array.getElem?_toList, Array.getElem?_map, Array.getElem?_eq_getElem hb] at hx
        simp only [Option.map_some, Option.some.injEq] at hx
        rw [← hx]; simp [Array.getD, hb]
      rw [← this]
      refine hr.mono fun i hi => ?_
      show i ∈ L.map (·.1)
      rw [← hL]
      exact (liveOf_all _ _ i (by lia)).mpr hi.1
    · show _ ≤ mask
      rw [hsz]; lia
  · have hto : (Array.filterMap (es[·]?) (L.map (·.2)).toArray).toList = (L.map (·.2)).filterMap (es[·]?) := by simp [Array.toList_filterMap]
    show (Array.filterMap (es[·]?) (L.map (·.2)).toArray).toList.Perm _
    rw [hto]
    exact (hperm.filterMap _).trans (by rw [filterMap_getElem?_range])
theorem TOk_fresh (led : Bool) : TOk (.fresh 0 0 led) #[] :=
  ⟨⟨2, rfl⟩, rfl, by simp [SetTable.fresh], rfl, by simp [SetTable.fresh], by simp, by simp⟩
end DD
set_option Elab.async false
set_option linter.all false
set_option maxRecDepth 100000
namespace DD
open PySem PySem.Spec PyProof.Rows
noncomputable def KeptBut (h h' : Heap) : Prop := ∀ b o, h.get? b = some o → (∀ es n t, o.data ≠ .set es n t) → h'.get? b = some o
structure EK (prog : Program) (w : World) where
  α : Type
  dec : DecidableEq α
  is : Heap → α → Value → Prop
  hash : α → Int
  sc : Bool
  keep : ∀ {h h' : Heap} {k : α} {v : Value}, is h k v → KeptBut h h' → is h' k v
  pyHash : ∀ {A : Around} {E : Value → Shared → Prop} {s : Shared} {k : α} {v : Value} {Q : Int → Shared → Prop}, A.units < cLine → is s.heap k v → (∀ tk, s.toks ≤ tk → Q (hash k) { s with toks := tk }) → wpAny (model prog w) A (pyHash v) Q E s
  eqBool : ∀ {A : Around} {E : Value → Shared → Prop} {s : Shared} {k k' : α} {v v' : Value} {Q : Bool → Shared → Prop}, A.units < cLine → is s.heap k v → is s.heap k' v' → Q (decide (k = k')) s → wpAny (model prog w) A (eqBool v v') Q E s
  byVal : ∀ {A : Around} {E : Value → Shared → Prop} {s : Shared} {k : α} {v : Value} {Q : Bool → Shared → Prop}, is s.heap k v → Q true s → wpAny (model prog w) A (hashByValue 8 v) Q E s
  same : ∀ {A : Around} {E : Value → Shared → Prop} {s : Shared} {k : α} {v : Value} {Q : Bool → Shared → Prop}, sc = false → is s.heap k v → Q true s → wpAny (model prog w) A (isSame v v) Q E s
  seen : ∀ {A : Around} {E : Value → Shared → Prop} {s : Shared} {k : α} {v : Value} {vs : List Value} {Q : Bool → Shared → Prop}, sc = false → is s.heap k v → (∀ u ∈ vs, ∃ k', is s.heap k' u) → Q false s → wpAny (model prog w) A (searchCouldBeSeen v vs) Q E s
  scan : ∀ {h : Heap} {k : α} {v : Value}, is h k v → v.scannable = sc
  nstr : ∀ {h : Heap} {k : α} {v : Value}, is h k v → ∀ x t, v ≠ .str x t
noncomputable def ekInt (prog : Program) (w : World) : EK prog w where
  α := Int
  dec := inferInstance
  is := fun _ k v => (intKind prog w).is k v = true
  hash := hashInt
  sc := true
  keep := fun h _ => h
  pyHash := fun {A E s k v Q} _ hk h => (intKind prog w).pyHash hk (h _ (Nat.le_succ _))
  eqBool := fun _ h1 h2 h => (intKind prog w).eqBool h1 h2 h
  byVal := fun {A E s k v Q} hk h => by
    cases v <;> simp [intKind, Value.isInt] at hk
    exact wpAny_of_eq (hashByValue_scannable 8 rfl) h
  same := fun h => by cases h
  seen := fun h => by cases h
  scan := fun {h k v} hk => by cases v <;> simp [intKind, Value.isInt] at hk; rfl
  nstr := fun {h k v} hk x t e => by subst e; simp [intKind, Value.isInt] at hk
section
variable {prog : Program} {w : World} {A : Around} {E : Value → Shared → Prop} {s : Shared}
theorem items_ints {ks : List Int} {vs : List Value} (h : ItemsAre (intKind prog w) ks vs) : ∀ v ∈ vs, ∃ i t, v = .int i t := by
  induction h with
  | nil => intro v hv; cases hv
  | @cons k v' ks vs h1 _ ih =>
    intro v hv
    rcases List.mem_cons.mp hv with rfl | hv
    · cases v <;> simp [intKind, Value.isInt] at h1
      exact ⟨_, _, rfl⟩
    · exact ih v hv
theorem byVal_tuple {ks : List Int} {a : Addr} {Q : Bool → Shared → Prop} (hk : IsTupleKey (intKind prog w) s.heap ks a) (h : Q true s) : wpAny (model prog w) A (hashByValue 8 (.ref a)) Q E s := by
  have hT := hk.typeIs
  obtain ⟨o, items, n, ho, _, hd, hi⟩ := hk
  unfold hashByValue
  refine wpAny_bind (wpAny_specialOf hT F.slot_tuple_hash.lookup ?_)
  show wpAny _ _ (seqItems? (.ref a) >>= _) _ _ s
  refine wpAny_bind (wpAny_seqItems ho hd ?_)
  refine wpAny_bind ?_
  show wpAny _ _ (forIn items _ _) _ _ s
  rw [← Array.forIn_toList]
  refine wpAny_forIn_list _ (fun rest r s' => r.1 = none ∧ s' = s ∧ ∀ v ∈ rest, ∃ i t, v = Value.int i t) _ ?_ ?_ _ _ ⟨rfl, rfl, items_ints hi⟩
  · rintro v rest r s' ⟨hr, rfl, hall⟩
    obtain ⟨i, t, rfl⟩ := hall v List.mem_cons_self
    refine wpAny_bind ?_
    unfold hashByValue
    refine wpAny_pure ?_
    simp only [Bool.not_true, Bool.false_eq_true, if_false]
    exact wpAny_pure ⟨rfl, rfl, fun u hu' => hall u (List.mem_cons_of_mem _ hu')⟩
  · rintro ⟨r1, r2⟩ s' ⟨hr, rfl, _⟩
    simp only at hr
    subst hr
    exact wpAny_pure h
theorem notOfClass_tuple {ks : List Int} {a : Addr} {Q : Bool → Shared → Prop} (hk : IsTupleKey (intKind prog w) s.heap ks a) (h : Q false s) : wpAny (model prog w) A (ofAClassStatement 8 (.ref a)) Q E s := by
  have hT := hk.typeIs
  obtain ⟨o, items, n, ho, _, hd, hi⟩ := hk
  unfold ofAClassStatement
  refine wpAny_bind (wpAny_typeOf hT ?_)
  dsimp only
  rw [if_pos (by decide)]
  refine wpAny_bind (wpAny_pure ?_)
  simp only [Bool.not_true, Bool.false_eq_true, if_false]
  refine wpAny_bind (wpAny_seqItems ho hd ?_)
  refine wpAny_bind ?_
  show wpAny _ _ (forIn items _ _) _ _ s
  rw [← Array.forIn_toList]
  refine wpAny_forIn_list _ (fun rest r s' => r.1 = none ∧ s' = s ∧ ∀ v ∈ rest, ∃ i t, v = Value.int i t) _ ?_ ?_ _ _ ⟨rfl, rfl, items_ints hi⟩
  · rintro v rest r s' ⟨hr, rfl, hall⟩
    obtain ⟨i, t, rfl⟩ := hall v List.mem_cons_self
    refine wpAny_bind ?_
    unfold ofAClassStatement
    refine wpAny_pure ?_
    simp only [Bool.false_eq_true, if_false]
    exact wpAny_pure ⟨rfl, rfl, fun u hu' => hall u (List.mem_cons_of_mem _ hu')⟩
  · rintro ⟨r1, r2⟩ s' ⟨hr, rfl, _⟩
    simp only at hr
    subst hr
    exact wpAny_pure h
noncomputable def TK (prog : Program) (w : World) (h : Heap) (ks : List Int) (v : Value) : Prop := ∃ a, v = .ref a ∧ IsTupleKey (intKind prog w) h ks a
theorem seen_tuple {ks : List Int} {v : Value} {vs : List Value} {Q : Bool → Shared → Prop} (hk : TK prog w s.heap ks v) (hs : ∀ u ∈ vs, ∃ k', TK prog w s.heap k' u) (h : Q false s) : wpAny (model prog w) A (searchCouldBeSeen v vs) Q E s := by
  obtain ⟨a, rfl, hk⟩ := hk
  unfold searchCouldBeSeen
  refine wpAny_bind ?_
  refine wpAny_forIn_list _ (fun rest r s' => r.1 = none ∧ s' = s ∧ ∀ u ∈ rest, ∃ k', TK prog w s.heap k' u) _ ?_ ?_ _ _ ⟨rfl, rfl, hs⟩
  · rintro y rest r s' ⟨hr, rfl, hall⟩
    obtain ⟨k', b, rfl, hk'⟩ := hall y List.mem_cons_self
    have rest' : ∀ u ∈ rest, ∃ k', TK prog w s'.heap k' u := fun u hu' => hall u (List.mem_cons_of_mem _ hu')
    dsimp only
    split
    · exact wpAny_pure ⟨rfl, rfl, rest'⟩
    · refine wpAny_bind (wpAny_eqIsQuiet_tuple hk ?_)
      simp only [Bool.not_true, Bool.false_eq_true, if_false]
      refine wpAny_bind (wpAny_eqIsQuiet_tuple hk' ?_)
      simp only [Bool.not_true, Bool.false_eq_true, if_false]
      refine wpAny_bind (notOfClass_tuple hk ?_)
      simp only [Bool.false_eq_true, if_false]
      refine wpAny_bind (notOfClass_tuple hk' ?_)
      simp only [Bool.false_eq_true, if_false]
      exact wpAny_pure ⟨rfl, rfl, rest'⟩
  · rintro ⟨r1, r2⟩ s' ⟨hr, rfl, _⟩
    simp only at hr
    subst hr
    exact wpAny_pure h
end
noncomputable def ekTup (prog : Program) (w : World) : EK prog w where
  α := List Int
  dec := inferInstance
  is := TK prog w
  hash := tupleKeyHash (intKind prog w)
  sc := false
  keep := fun {h h' k v} hk hb => by
    obtain ⟨a, rfl, o, items, n, ho, hc, hd, hi⟩ := hk
    exact ⟨a, rfl, o, items, n, hb a o ho (fun es m t e => by rw [hd] at e; cases e), hc, hd, hi⟩
  pyHash := fun {A E s k v Q} hu hk h => by
    obtain ⟨a, rfl, hk⟩ := hk
    exact wpAny_pyHash_tuple hu hk (h _ (Nat.le_add_right _ _))
  eqBool := fun {A E s k k' v v' Q} hu h1 h2 h => by
    obtain ⟨a, rfl, h1⟩ := h1
    obtain ⟨b, rfl, h2⟩ := h2
    exact wpAny_eqBool_tuple hu h1 h2 h
  byVal := fun {A E s k v Q} hk h => by
    obtain ⟨a, rfl, hk⟩ := hk
    exact byVal_tuple hk h
  same := fun {A E s k v Q} _ hk h => by
    obtain ⟨a, rfl, hk⟩ := hk
    exact wpAny_isSame_ref_self h
  seen := fun {A E s k v vs Q} _ hk hs h => seen_tuple hk hs h
  scan := fun {h k v} hk => by obtain ⟨a, rfl, hk⟩ := hk; rfl
  nstr := fun {h k v} hk x t e => by obtain ⟨a, rfl, hk⟩ := hk; cases e
inductive Els {prog : Program} {w : World} (K : EK prog w) (h : Heap) : List (Int × Value) → List K.α → Prop
  | nil : Els K h [] []
  | cons {v : Value} {k : K.α} {es : List (Int × Value)} {ks : List K.α} : K.is h k v → Els K h es ks → Els K h ((K.hash k, v) :: es) (k :: ks)
section
variable {prog : Program} {w : World} {K : EK prog w} {h h' : Heap}
theorem Els.keep {es : List (Int × Value)} {ks : List K.α} (x : Els K h es ks) (hb : KeptBut h h') : Els K h' es ks := by
  induction x with
  | nil => exact .nil
  | cons a _ ih => exact .cons (K.keep a hb) ih
theorem Els.length {es : List (Int × Value)} {ks : List K.α} (x : Els K h es ks) : es.length = ks.length := by
  induction x with
  | nil => rfl
  | cons a _ ih => simp [ih]
theorem Els.at {es : List (Int × Value)} {ks : List K.α} (x : Els K h es ks) : ∀ {i : Nat} {e : Int × Value}, es[i]? = some e → ∃ k, ks[i]? = some k ∧ K.is h k e.2 ∧ e.1 = K.hash k := by
  induction x with
  | nil => intro i e he; simp at he
  | @cons v k es ks a _ ih =>
    intro i e he
    cases i with
    | zero => simp at he; subst he; exact ⟨k, rfl, a, rfl⟩
    | succ i => simp at he; exact ih he
theorem Els.atK {es : List (Int × Value)} {ks : List K.α} (x : Els K h es ks) : ∀ {i : Nat} {k : K.α}, ks[i]? = some k → ∃ v, es[i]? = some (K.hash k, v) ∧ K.is h k v := by
  induction x with
  | nil => intro i e he; simp at he
  | @cons v k es ks a _ ih =>
    intro i e he
    cases i with
    | zero => simp at he; subst he; exact ⟨v, rfl, a⟩
    | succ i => simp at he; exact ih he
theorem Els.perm {es es' : List (Int × Value)} (p : es'.Perm es) : ∀ {ks : List K.α}, Els K h es ks → ∃ ks', Els K h es' ks' ∧ ks'.Perm ks := by
  induction p with
  | nil => intro ks x; exact ⟨ks, x, .refl _⟩
  | cons e _ ih =>
    intro ks x
    cases x with
    | cons a x => obtain ⟨ks', y, q⟩ := ih x; exact ⟨_, .cons a y, q.cons _⟩
  | swap e f l =>
    intro ks x
    cases x with
    | cons a x => cases x with
      | cons b x => exact ⟨_, .cons b (.cons a x), .swap _ _ _⟩
  | trans _ _ i1 i2 =>
    intro ks x
    obtain ⟨k1, y1, q1⟩ := i2 x
    obtain ⟨k2, y2, q2⟩ := i1 y1
    exact ⟨k2, y2, q2.trans q1⟩
theorem Els.push {es : List (Int × Value)} {ks : List K.α} (x : Els K h es ks) {v : Value} {k : K.α} (a : K.is h k v) : Els K h (es ++ [(K.hash k, v)]) (ks ++ [k]) := by
  induction x with
  | nil => exact .cons a .nil
  | cons b _ ih => exact .cons b ih
theorem Els.isAll {es : List (Int × Value)} {ks : List K.α} (x : Els K h es ks) : ∀ e ∈ es, ∃ k, K.is h k e.2 := by
  induction x with
  | nil => intro e he; cases he
  | cons a _ ih =>
    intro e he
    rcases List.mem_cons.mp he with rfl | he
    · exact ⟨_, a⟩
    · exact ih e he
end
section
variable {prog : Program} {w : World} {K : EK prog w} {A : Around} {E : Value → Shared → Prop} {s : Shared}
theorem search_turn {S : Addr} {o : Obj} {es : Array (Int × Value)} {ep : Nat} {t : SetTable} {kl : List K.α} {k : K.α} {v : Value} {fuel : Nat} {stand : Option Pr} {j i : Nat} {next : Pr} {Q : SetFound → Shared → Prop}
    (hsc : K.sc = false) (hu : A.units < cLine) (ho : s.heap.get? S = some o) (hd : o.data = .set es ep t) (T : TOk t es) (hE : Els K s.heap es.toList kl) (hk : K.is s.heap k v)
    (hm : SetTable.probe.go t (fun i => (es[i]?.map (·.1)).getD 0) (K.hash k) (10 * SetTable.turns t.mask) (stand.getD (t.probeStart (K.hash k))) = some (.candidate j i next)) (hpl : t.place[i]? = some j)
    (h1 : kl[i]? = some k → Q (.there none) s) (h2 : kl[i]? ≠ some k → wpAny (model prog w) A (setSearchFrom S v (K.hash k) true fuel (some next)) Q E s) :
    wpAny (model prog w) A (setSearchFrom S v (K.hash k) true (fuel + 1) stand) Q E s := by
  have hisz : i < es.size := by rw [← T.sz]; exact (Array.getElem?_eq_some_iff.mp hpl).1
  have hei : es[i]? = some es[i] := Array.getElem?_eq_getElem hisz
  obtain ⟨k', hk1, hk2, hk3⟩ := hE.at (i := i) (e := es[i]) (by rw [Array.getElem?_toList]; exact hei)
  unfold setSearchFrom
  refine wpAny_bind (wpAny_setState_of ho hd T.fits ?_)
  dsimp only
  rw [T.odd]
  simp only [Bool.false_eq_true, if_false]
  have hp : t.probe (fun i => (es[i]?.map (·.1)).getD 0) (K.hash k) (stand.getD (t.probeStart (K.hash k))) = some (.candidate j i next) := hm
  split
  case h_2 heq => first | exact absurd hp (heq _) | exact nomatch heq.symm.trans hp
  rename_i met heq
  cases Option.some.inj (heq.symm.trans hp)
  dsimp only
  have tail : wpAny (model prog w) A (do
      let some (_, y) := es[i]? | unsupported "internal:set-entry"
      let equal ← holding [y] (eqBool y v)
      let (es', _, t') ← setState S
      if true && equal then return SetFound.there none
      let some same := t'.sameMemory t.moves t.mask | unsupported "set.changed-during-lookup:is-the-new-block-at-the-old-address"
      let still ← match (if same then t'.slot j else .empty) with
        | .live i' => match es'[i']? with
          | some (_, y') => do pure (if ← isSame y' y then some i' else none)
          | none => pure none
        | _ => pure none
      match still with
      | none => rule "set.search.anew"; setSearchFrom S v (K.hash k) true fuel none
      | some i' => if equal then return .there (some i') else setSearchFrom S v (K.hash k) true fuel (some next)) Q E s := by
    rw [hei]
    dsimp only
    refine wpAny_bind (wpAny_holding (K.eqBool hu hk2 hk ?_))
    refine wpAny_bind (wpAny_setState_of ho hd T.fits ?_)
    dsimp only
    by_cases hq : k' = k
    · subst hq
      simp only [decide_true, Bool.and_self, if_true]
      exact wpAny_pure (h1 hk1)
    · have : @decide (k' = k) (K.dec k' k) = false := by simp [hq]
      simp only [this, Bool.and_false, Bool.false_eq_true, if_false]
      have hsm : t.sameMemory t.moves t.mask = some true := by simp [SetTable.sameMemory]
      rw [hsm]
      dsimp only
      rw [if_pos rfl, T.slot_in hpl]
      dsimp only
      rw [hei]
      dsimp only
      first | refine wpAny_bind (K.same hsc hk2 (wpAny_bind (wpAny_pure ?_))) | refine wpAny_bind (wpAny_bind (K.same hsc hk2 (wpAny_pure ?_))) | refine wpAny_bind (K.same hsc hk2 ?_)
      simp only [if_true]
      exact h2 (fun c => hq (by rw [hk1] at c; exact Option.some.inj c))
  cases hl : t.led with
  | true => simp only [Bool.not_true, Bool.false_eq_true, if_false]; exact tail
  | false =>
    simp only [Bool.not_false, if_true]
    refine wpAny_bind (K.seen hsc hk (fun u hu' => ?_) ?_)
    · obtain ⟨e, he, rfl⟩ := List.mem_map.mp hu'
      have : e ∈ es.toList := by
        rw [Array.mem_toList_iff] at he ⊢
        exact (Array.mem_filter.mp he).1
      exact hE.isAll e this
    · simp only [Bool.false_eq_true, if_false]
      exact tail
theorem search_free {S : Addr} {o : Obj} {es : Array (Int × Value)} {ep : Nat} {t : SetTable} {kl : List K.α} {k : K.α} {v : Value} {Q : SetFound → Shared → Prop}
    (hsc : K.sc = false) (hu : A.units < cLine) (ho : s.heap.get? S = some o) (hd : o.data = .set es ep t) (T : TOk t es) (hE : Els K s.heap es.toList kl) (hk : K.is s.heap k v) (hnew : k ∉ kl) (q : Pr) (hq : q.j ∉ t.place.toList)
    (h : Q (.free q.j false) s) : ∀ (n fuel : Nat) (stand : Option Pr), PathN t.mask (· ∈ t.place.toList) n (stand.getD (t.probeStart (K.hash k))) q → (stand.getD (t.probeStart (K.hash k))).dummy = none → n < fuel → n < 10 * (t.mask + 15) →
    wpAny (model prog w) A (setSearchFrom S v (K.hash k) true fuel stand) Q E s := by
  intro n
  induction n using Nat.strongRecOn with
  | ind n ih =>
    intro fuel stand hp hdm hf hb
    obtain ⟨fuel, rfl⟩ : ∃ f, fuel = f + 1 := ⟨fuel - 1, by lia⟩
    rcases T.go_free (fun i => (es[i]?.map (·.1)).getD 0) (K.hash k) n (10 * SetTable.turns t.mask) _ q hp (by unfold SetTable.turns; lia) hdm hq with e | ⟨j, i, next, n', g1, g2, g3, g4, g5, g6⟩
    · unfold setSearchFrom
      refine wpAny_bind (wpAny_setState_of ho hd T.fits ?_)
      dsimp only
      rw [T.odd]
      simp only [Bool.false_eq_true, if_false]
      have hp : t.probe (fun i => (es[i]?.map (·.1)).getD 0) (K.hash k) (stand.getD (t.probeStart (K.hash k))) = some (.empty q.j none) := e
      split
      case h_2 heq => first | exact absurd hp (heq _) | exact nomatch heq.symm.trans hp
      rename_i met heq
      cases Option.some.inj (heq.symm.trans hp)
      exact wpAny_pure h
    · refine search_turn hsc hu ho hd T hE hk g2 g3 (fun c => absurd (List.mem_of_getElem? c) hnew) fun _ => ?_
      exact ih n' g1 fuel (some next) g6 g5 (by lia) (by lia)
theorem search_there {S : Addr} {o : Obj} {es : Array (Int × Value)} {ep : Nat} {t : SetTable} {kl : List K.α} {k : K.α} {v : Value} {Q : SetFound → Shared → Prop}
    (hsc : K.sc = false) (hu : A.units < cLine) (ho : s.heap.get? S = some o) (hd : o.data = .set es ep t) (T : TOk t es) (hE : Els K s.heap es.toList kl) (hk : K.is s.heap k v) (i0 : Nat) (hi0 : kl[i0]? = some k) (q : Pr) (hq : t.place[i0]? = some q.j)
    (h : Q (.there none) s) : ∀ (n fuel : Nat) (stand : Option Pr), PathN t.mask (· ∈ t.place.toList) n (stand.getD (t.probeStart (K.hash k))) q → (stand.getD (t.probeStart (K.hash k))).dummy = none → n < fuel → n < 10 * (t.mask + 15) →
    wpAny (model prog w) A (setSearchFrom S v (K.hash k) true fuel stand) Q E s := by
  intro n
  induction n using Nat.strongRecOn with
  | ind n ih =>
    intro fuel stand hp hdm hf hb
    obtain ⟨fuel, rfl⟩ : ∃ f, fuel = f + 1 := ⟨fuel - 1, by lia⟩
    obtain ⟨v0, hv0, _⟩ := hE.atK hi0
    rw [Array.getElem?_toList] at hv0
    obtain ⟨j, i, next, g2, g3, g4, g5, g6⟩ := T.go_same (fun i => (es[i]?.map (·.1)).getD 0) (K.hash k) i0 n (10 * SetTable.turns t.mask) _ q hp (by unfold SetTable.turns; lia) hdm hq (by show (es[i0]?.map (·.1)).getD 0 = _; rw [hv0]; rfl)
    refine search_turn hsc hu ho hd T hE hk g2 g3 (fun _ => h) fun c => ?_
    rcases g6 with rfl | ⟨n', g7, g8⟩
    · exact absurd hi0 c
    · exact ih n' g7 fuel (some next) g8 g5 (by lia) (by lia)
end
end DD
set_option Elab.async false
set_option linter.all false
set_option maxRecDepth 100000
namespace DD
open PySem PySem.Spec PyProof.Rows
noncomputable abbrev setObj (es : Array (Int × Value)) (ep : Nat) (t : SetTable) : Obj := { cls := .type "set", dict := none, data := .set es ep t }
noncomputable def SetI {prog : Program} {w : World} (K : EK prog w) (h0 h : Heap) (S : Addr) (led : Bool) (ks : List K.α) : Prop :=
  ∃ es ep t kl, h.get? S = some (setObj es ep t) ∧ TOk t es ∧ t.plain = true ∧ t.led = led ∧ 5 * es.size < 3 * t.mask ∧ t.mask ≤ 511 ∧ Els K h0 es.toList kl ∧ kl.Perm ks
theorem kept_store {h : Heap} {S : Addr} {es es' : Array (Int × Value)} {ep : Nat} {t t' : SetTable} (ho : h.get? S = some (setObj es ep t)) :
    KeptBut h (h.update S (Obj.putSet es' t')) ∧ (∀ b o, b ≠ S → h.get? b = some o → (h.update S (Obj.putSet es' t')).get? b = some o) ∧ (h.update S (Obj.putSet es' t')).get? S = some (setObj es' (ep + 1) t') := by
  have k : ∀ b o, b ≠ S → h.get? b = some o → (h.update S (Obj.putSet es' t')).get? b = some o := fun b o hb e => by
    rw [Heap.get?_update_ne _ _ _ _ hb]; exact e
  refine ⟨fun b o e n => k b o (fun c => ?_) e, k, ?_⟩
  · subst c; rw [ho] at e; cases e; exact n _ _ _ rfl
  · have := Heap.get?_update_self (Obj.putSet es' t') ho (by rw [putSet_of es' t' rfl]; rfl)
    rw [putSet_of es' t' rfl] at this; exact this
theorem grow_dec : ∀ n, n < 65 → 0 < n → ∃ k, k < 10 ∧ SetTable.sizeAbove (SetTable.grown n) = 2 ^ (k + 1) ∧ n < SetTable.sizeAbove (SetTable.grown n) ∧ SetTable.sizeAbove (SetTable.grown n) ≤ 512 ∧ 5 * n < 3 * (SetTable.sizeAbove (SetTable.grown n) - 1) := by decide +kernel
section
variable {prog : Program} {w : World} {K : EK prog w} {A : Around} {E : Value → Shared → Prop} {s : Shared}
theorem add_search {S : Addr} {led : Bool} {ks : List K.α} {k : K.α} {v : Value} {Q : Bool → Shared → Prop} (hsc : K.sc = false) (hu : A.units < cLine) {h0 : Heap} (kb0 : KeptBut h0 s.heap) (hS : SetI K h0 s.heap S led ks) (hk0 : K.is h0 k v) (hn : ks.length < 64)
    (h00 : k ∈ ks → ∀ r, Q r s)
    (h1 : k ∉ ks → ∀ h', SetI K h0 h' S led (ks ++ [k]) → (∀ b o, b ≠ S → s.heap.get? b = some o → h'.get? b = some o) → ∀ r, Q r { s with heap := h' }) :
    wpAny (model prog w) A (setAddHashedIn S v (K.hash k) 100000) Q E s := by
  obtain ⟨es, ep, t, kl, ho, T, hpl, hld, hfew, hmk, hE0, hp⟩ := hS
  have hE := hE0.keep kb0
  have hk := K.keep hk0 kb0
  have hsz : es.size = ks.length := by rw [← hp.length_eq, ← hE.length]; simp
  unfold setAddHashedIn
  refine wpAny_bind (wpAny_setState_of ho rfl T.fits ?_)
  dsimp only
  have hb : byScan v es = false := by unfold byScan; rw [K.scan hk, hsc]; rfl
  rw [hb]
  simp only [Bool.false_eq_true, if_false]
  unfold setSearch
  by_cases hin : k ∈ kl
  · obtain ⟨i0, hi0⟩ := List.getElem?_of_mem hin
    have hlt : i0 < t.place.size := by
      rw [T.sz, ← Array.length_toList, hE.length]; exact (List.getElem?_eq_some_iff.mp hi0).1
    obtain ⟨v0, hv0, _⟩ := hE.atK hi0
    have hpi : t.place[i0]? = some t.place[i0] := Array.getElem?_eq_getElem hlt
    obtain ⟨n, q, r1, r2, r3⟩ := T.reach (K.hash k, v0) t.place[i0] (by
      refine List.mem_of_getElem? (i := i0) ?_
      rw [List.getElem?_zip_eq_some]
      exact ⟨hv0, by rw [Array.getElem?_toList]; exact hpi⟩)
    refine wpAny_bind (search_there hsc hu ho rfl T hE hk i0 hi0 q (by rw [r2]; exact hpi) ?_ n 100000 none r1 rfl (by lia) r3)
    exact wpAny_pure (h00 (hp.mem_iff.mp hin) _)
  · obtain ⟨n, q, r1, r2, r3, r4⟩ := T.free (K.hash k)
    refine wpAny_bind (search_free hsc hu ho rfl T hE hk hin q r3 ?_ n 100000 none r2 rfl (by lia) r1)
    dsimp only
    refine wpAny_bind (wpAny_setState_of ho rfl T.fits ?_)
    dsimp only
    obtain ⟨T1, e1⟩ := T.put (v := v) ⟨n, q, r2, rfl, r1⟩ r3 r4 (by lia)
    generalize hj : q.j = j at *
    generalize ht1 : (t.put j).1 = t1 at *
    generalize hpp : (t.put j).2 = p at *
    generalize hes1 : SetTable.insertAt es p (K.hash k, v) = es1 at *
    have hpl1 : t1.plain = true := by rw [e1]; exact hpl
    have hld1 : t1.led = led := by rw [e1]; exact hld
    have hmk1 : t1.mask = t.mask := by rw [e1]
    have hsz1 : es1.size = es.size + 1 := by
      have := (SetTable.insertAt_perm es p (K.hash k, v)).length_eq
      rw [hes1] at this; simpa using this
    have hperm1 : es1.toList.Perm (es.toList ++ [(K.hash k, v)]) := by
      rw [← hes1]; exact (SetTable.insertAt_perm es p (K.hash k, v)).trans (by rw [Array.toList_push])
    rw [hpl1]
    simp only [if_true]
    refine wpAny_bind (K.byVal hk ?_)
    simp only [if_true]
    refine wpAny_bind (wpAny_storeSet_of ho rfl ?_ (by rw [hsz1, sizeLine_eq]; lia))
    obtain ⟨kb1, kp1, ho1⟩ := kept_store (es' := es1) (t' := t1) ho
    obtain ⟨kl1, hE1', hp1⟩ := Els.perm hperm1 (hE0.push hk0)
    have hp1' : kl1.Perm (ks ++ [k]) := hp1.trans (hp.append_right _)
    have hnin : k ∉ ks := fun c => hin (hp.mem_iff.mpr c)
    by_cases hf : t1.tooFull = true
    · simp only [hf, Bool.not_false, Bool.and_self, if_true]
      obtain ⟨kk, _, g1, g2, g3, g4⟩ := grow_dec (es.size + 1) (by lia) (by lia)
      obtain ⟨t2, order, q1, q2, q3, _, q5, q6, q7⟩ := relaid_ok t1 es1 (SetTable.grown (es.size + 1)) kk g1 (by rw [hsz1]; exact g2)
      refine wpAny_bind ?_
      unfold setRelay
      refine wpAny_bind (wpAny_setState_of ho1 rfl T1.fits ?_)
      dsimp only
      rw [if_neg (by rw [sizeLine_eq]; lia)]
      have hz2 : (order.filterMap (es1[·]?)).size = es1.size := by
        have := q3.length_eq; rw [Array.length_toList, Array.length_toList] at this; exact this
      refine wpAny_bind ?_
      have hre : ∀ (Q' : Array (Int × Value) × SetTable → Shared → Prop) (s' : Shared), Q' (order.filterMap (es1[·]?), t2) s' →
          wpAny (model prog w) A (do
            let some (t, order) := (some (t2, order) : Option (SetTable × Array Nat)) | unsupported "internal:set-table-without-room"
            let es' := order.filterMap (es1[·]?)
            if es'.size != es1.size then unsupported "internal:set-table-lost-an-element"
            pure (es', t)) Q' E s' := fun Q' s' hq => by
        dsimp only
        rw [if_neg (by rw [hz2]; simp)]
        exact wpAny_pure hq
      rw [q1]
      refine hre _ _ ?_
      dsimp only
      refine wpAny_storeSet_of ho1 rfl ?_ (by rw [hz2, hsz1, sizeLine_eq]; lia)
      obtain ⟨kb2, kp2, ho2⟩ := kept_store (es' := order.filterMap (es1[·]?)) (t' := t2) ho1
      obtain ⟨kl2, hE2, hp2⟩ := Els.perm q3 hE1'
      refine wpAny_pure (h1 hnin _ ⟨_, _, t2, kl2, ho2, q2, q7.trans hpl1, q6.trans hld1, ?_, ?_, hE2, hp2.trans hp1'⟩ (fun b o hb e => kp2 b o hb (kp1 b o hb e)) _)
      · rw [hz2, hsz1, q5]; exact g4
      · rw [q5]; lia
    · have hf' : t1.tooFull = false := by simpa using hf
      simp only [hf', Bool.not_false, Bool.and_false, Bool.false_eq_true, if_false]
      have hfew1 : 5 * es1.size < 3 * t1.mask := by
        simp [SetTable.tooFull, SetTable.fill, T1.sz, T1.dum] at hf'
        lia
      exact wpAny_pure (h1 hnin _ ⟨es1, _, t1, kl1, ho1, T1, hpl1, hld1, hfew1, by lia, hE1', hp1'⟩ kp1 _)
theorem scan_at {S : Addr} {es : Array (Int × Value)} {ep : Nat} {t : SetTable} {k : K.α} {v : Value} {Q : ScanMet → Shared → Prop} (hu : A.units < cLine) (ho : s.heap.get? S = some (setObj es ep t)) (hf : t.fits es.size = true) (hk : K.is s.heap k v) :
    ∀ (l : List (Int × Value)) (kl : List K.α) (i : Nat), Els K s.heap l kl → (k ∈ kl → ∀ j, Q (.found j) s) → (k ∉ kl → Q .absent s) → wpAny (model prog w) A (setScanFrom S v (K.hash k) true l i) Q E s
  | [], _, i, .nil, _, h2 => by unfold setScanFrom; exact wpAny_pure (h2 (by simp))
  | _ :: l, k' :: kl, i, .cons (v := u) a x, h1, h2 => by
    have more : k' ≠ k → wpAny (model prog w) A (setScanFrom S v (K.hash k) true l (i + 1)) Q E s := fun hne =>
      scan_at hu ho hf hk l kl (i + 1) x (fun c => h1 (List.mem_cons_of_mem _ c)) fun c => h2 (fun d => by
        rcases List.mem_cons.mp d with e | e
        · exact hne e.symm
        · exact c e)
    unfold setScanFrom
    by_cases hh : (K.hash k' == K.hash k) = true
    · rw [if_pos hh]
      refine wpAny_bind (wpAny_setEpoch_of ho rfl hf ?_)
      refine wpAny_bind (K.eqBool hu a hk ?_)
      by_cases hq : k' = k
      · subst hq
        simp only [decide_true, Bool.and_self, if_true]
        exact wpAny_pure (h1 List.mem_cons_self _)
      · have : @decide (k' = k) (K.dec k' k) = false := by simp [hq]
        simp only [this, Bool.and_false, Bool.false_eq_true, if_false]
        refine wpAny_bind (wpAny_setEpoch_of ho rfl hf ?_)
        simp only [bne_self_eq_false, Bool.false_eq_true, if_false]
        exact more hq
    · rw [if_neg hh]
      exact more (fun c => hh (by rw [c]; simp))
theorem add_scan {S : Addr} {led : Bool} {ks : List K.α} {k : K.α} {v : Value} {Q : Bool → Shared → Prop} (hsc : K.sc = true) (hu : A.units < cLine) {h0 : Heap} (kb0 : KeptBut h0 s.heap) (hS : SetI K h0 s.heap S led ks) (hk0 : K.is h0 k v) (hn : ks.length < 64)
    (h00 : k ∈ ks → ∀ r, Q r s)
    (h1 : k ∉ ks → ∀ h', SetI K h0 h' S led (ks ++ [k]) → (∀ b o, b ≠ S → s.heap.get? b = some o → h'.get? b = some o) → ∀ r, Q r { s with heap := h' }) :
    wpAny (model prog w) A (setAddHashedIn S v (K.hash k) 100000) Q E s := by
  obtain ⟨es, ep, t, kl, ho, T, hpl, hld, hfew, hmk, hE0, hp⟩ := hS
  have hE := hE0.keep kb0
  have hk := K.keep hk0 kb0
  have hsz : es.size = ks.length := by rw [← hp.length_eq, ← hE.length]; simp
  unfold setAddHashedIn
  refine wpAny_bind (wpAny_setState_of ho rfl T.fits ?_)
  dsimp only
  have hb : byScan v es = true := by
    unfold byScan
    rw [K.scan hk, hsc]
    have : es.all (fun e => e.2.scannable) = true := by
      rw [← Array.all_toList, List.all_eq_true]
      intro e he
      obtain ⟨k', hk'⟩ := hE.isAll e he
      rw [K.scan hk', hsc]
    rw [this]
    have : es.size < scanBound := by unfold scanBound; lia
    simp [this]
  rw [hb]
  simp only [if_true]
  unfold setAddByScan
  refine wpAny_bind (wpAny_bind (wpAny_rule ?_))
  have hscan : setScan S v (K.hash k) true es = setScanFrom S v (K.hash k) true es.toList 0 := by
    have := K.nstr hk
    cases v <;> first | rfl | exact absurd rfl (this _ _)
  rw [hscan]
  refine wpAny_bind (scan_at hu ho T.fits hk es.toList kl 0 hE (fun hin j => ?_) fun hin => ?_)
  · exact wpAny_pure (wpAny_pure (h00 (hp.mem_iff.mp hin) _))
  · dsimp only
    obtain ⟨n, q, r1, r2, r3, r4⟩ := T.free (K.hash k)
    have hfr : t.freeSlot (K.hash k) = some (q.j, false) := by
      unfold SetTable.freeSlot SetTable.probe
      rcases T.go_free (fun _ => K.hash k + 1) (K.hash k) n (10 * SetTable.turns t.mask) _ q r2 (by unfold SetTable.turns; lia) rfl r3 with e | ⟨j, i, next, n', g1, g2, g3, g4, g5, g6⟩
      · rw [e]; rfl
      · exfalso; have : K.hash k + 1 = K.hash k := g4; lia
    obtain ⟨T1, e1⟩ := T.put (v := v) ⟨n, q, r2, rfl, r1⟩ r3 r4 (by lia)
    generalize hj : q.j = j at *
    have hlay : layNew t es (K.hash k) v = (SetTable.insertAt es (t.put j).2 (K.hash k, v), (t.put j).1, false, false) := by
      unfold layNew
      rw [hfr]
      dsimp only
      rw [SetTable.orStandIn, if_pos T1.fits, T1.fits]
      rfl
    rw [hlay]
    generalize ht1 : (t.put j).1 = t1 at *
    generalize hpp : (t.put j).2 = p at *
    generalize hes1 : SetTable.insertAt es p (K.hash k, v) = es1 at *
    have hpl1 : t1.plain = true := by rw [e1]; exact hpl
    have hld1 : t1.led = led := by rw [e1]; exact hld
    have hmk1 : t1.mask = t.mask := by rw [e1]
    have hsz1 : es1.size = es.size + 1 := by
      have := (SetTable.insertAt_perm es p (K.hash k, v)).length_eq
      rw [hes1] at this; simpa using this
    have hperm1 : es1.toList.Perm (es.toList ++ [(K.hash k, v)]) := by
      rw [← hes1]; exact (SetTable.insertAt_perm es p (K.hash k, v)).trans (by rw [Array.toList_push])
    dsimp only
    refine wpAny_bind (wpAny_pure ?_)
    rw [hpl1]
    simp only [if_true]
    refine wpAny_bind (K.byVal hk ?_)
    simp only [if_true]
    refine wpAny_bind (wpAny_storeSet_of ho rfl ?_ (by rw [hsz1, sizeLine_eq]; lia))
    obtain ⟨kb1, kp1, ho1⟩ := kept_store (es' := es1) (t' := t1) ho
    obtain ⟨kl1, hE1', hp1⟩ := Els.perm hperm1 (hE0.push hk0)
    have hp1' : kl1.Perm (ks ++ [k]) := hp1.trans (hp.append_right _)
    have hnin : k ∉ ks := fun c => hin (hp.mem_iff.mpr c)
    by_cases hf : t1.tooFull = true
    · simp only [hf, Bool.not_false, Bool.and_self, if_true]
      obtain ⟨kk, _, g1, g2, g3, g4⟩ := grow_dec (es.size + 1) (by lia) (by lia)
      obtain ⟨t2, order, q1, q2, q3, q4, q5, q6, q7⟩ := relaid_ok t1 es1 (SetTable.grown es1.size) kk (by rw [hsz1]; exact g1) (by rw [hsz1]; exact g2)
      have hz2 : (order.filterMap (es1[·]?)).size = es1.size := by
        have := q3.length_eq; rw [Array.length_toList, Array.length_toList] at this; exact this
      have hrel : relayAll t1 es1 (SetTable.grown es1.size) = (order.filterMap (es1[·]?), t2, false) := by
        unfold relayAll
        rw [q1]
        dsimp only
        have hc : coversAll order es1.size = true := by unfold coversAll; exact List.isPerm_iff.mpr q4
        rw [hc, q2.fits]
        rfl
      rw [hrel]
      dsimp only
      refine wpAny_bind (wpAny_pure ?_)
      refine wpAny_bind (wpAny_storeSet_of ho1 rfl ?_ (by rw [hz2, hsz1, sizeLine_eq]; lia))
      obtain ⟨kb2, kp2, ho2⟩ := kept_store (es' := order.filterMap (es1[·]?)) (t' := t2) ho1
      obtain ⟨kl2, hE2, hp2⟩ := Els.perm q3 hE1'
      refine wpAny_pure (wpAny_pure (h1 hnin _ ⟨_, _, t2, kl2, ho2, q2, q7.trans hpl1, q6.trans hld1, ?_, ?_, hE2, hp2.trans hp1'⟩ (fun b o hb e => kp2 b o hb (kp1 b o hb e)) _))
      · rw [hz2, hsz1, q5, hsz1]; exact g4
      · rw [q5, hsz1]; lia
    · have hf' : t1.tooFull = false := by simpa using hf
      simp only [hf', Bool.not_false, Bool.and_false, Bool.false_eq_true, if_false]
      have hfew1 : 5 * es1.size < 3 * t1.mask := by
        simp [SetTable.tooFull, SetTable.fill, T1.sz, T1.dum] at hf'
        lia
      exact wpAny_pure (wpAny_pure (h1 hnin _ ⟨es1, _, t1, kl1, ho1, T1, hpl1, hld1, hfew1, by lia, hE1', hp1'⟩ kp1 _))
noncomputable def addK (K : EK prog w) (ks : List K.α) (k : K.α) : List K.α := if @decide (k ∈ ks) (@List.instDecidableMemOfLawfulBEq _ (@instBEqOfDecidableEq _ K.dec) (by letI := K.dec; infer_instance) k ks) = true then ks else ks ++ [k]
theorem add_any {S : Addr} {led : Bool} {ks : List K.α} {k : K.α} {v : Value} {Q : Bool → Shared → Prop} (hu : A.units < cLine) {h0 : Heap} (kb0 : KeptBut h0 s.heap) (hS : SetI K h0 s.heap S led ks) (hk0 : K.is h0 k v) (hn : ks.length < 64)
    (h : ∀ h' tk r, SetI K h0 h' S led (addK K ks k) → (∀ b o, b ≠ S → s.heap.get? b = some o → h'.get? b = some o) → s.toks ≤ tk → Q r { s with heap := h', toks := tk }) :
    wpAny (model prog w) A (setAdd S v) Q E s := by
  unfold setAdd
  refine wpAny_holding (wpAny_bind (K.pyHash hu (K.keep hk0 kb0) fun tk htk => ?_))
  unfold setAddHashed
  refine wpAny_holding ?_
  have g0 : k ∈ ks → ∀ r, Q r { s with toks := tk } := fun c r => by
    refine h s.heap tk r ?_ (fun _ _ _ e => e) htk
    unfold addK; rw [if_pos (by simpa using c)]; exact hS
  have g1 : k ∉ ks → ∀ h', SetI K h0 h' S led (ks ++ [k]) → (∀ b o, b ≠ S → s.heap.get? b = some o → h'.get? b = some o) → ∀ r, Q r { s with heap := h', toks := tk } := fun c h' i1 i2 r => by
    refine h h' tk r ?_ i2 htk
    unfold addK; rw [if_neg (by simpa using c)]; exact i1
  cases hsc : K.sc with
  | false => exact add_search (s := { s with toks := tk }) hsc hu kb0 hS hk0 hn g0 g1
  | true => exact add_scan (s := { s with toks := tk }) hsc hu kb0 hS hk0 hn g0 g1
end
end DD
set_option Elab.async false
set_option linter.all false
set_option maxRecDepth 100000
namespace DD
open PySem PySem.Spec PyProof.Rows
noncomputable def Kp (h h' : Heap) : Prop := ∀ b o, h.get? b = some o → h'.get? b = some o
theorem Kp.but {h h' : Heap} (k : Kp h h') : KeptBut h h' := fun b o e _ => k b o e
theorem Kp.trans {a b c : Heap} (x : Kp a b) (y : Kp b c) : Kp a c := fun p o e => y p o (x p o e)
section
variable {prog : Program} {w : World} {K : EK prog w} {A : Around} {R : Result → Shared → Prop} {I : Addr} {fp wr : List Addr} {n : Nat} {P : Nat → Value → Prop} {St : Nat → Shared → Prop}
theorem SetI.moved {h0 h h' : Heap} {S : Addr} {led : Bool} {ks : List K.α} (x : SetI K h0 h S led ks) (hk : ∀ o, h.get? S = some o → h'.get? S = some o) : SetI K h0 h' S led ks := by
  obtain ⟨es, ep, t, kl, ho, r⟩ := x
  exact ⟨es, ep, t, kl, hk _ ho, r⟩
theorem set_loop (W : WalksS prog w A.in1 I fp wr (fun a b => b = a) n P St) (S : Addr) (hSf : S ∉ fp) (h0 : Heap) (hdis : ∀ b o, h0.get? b = some o → b ∉ S :: wr) (l : List K.α) (hl : l.length = n) (led : Bool)
    (hval : ∀ (i : Nat) v k, P i v → l[i]? = some k → K.is h0 k v) (hlen : ∀ i, ((l.take i).foldl (addK K) []).length < 64) (hu : A.in1.units < cLine) :
    ∀ (k i : Nat) (s : Shared), n - i = k → i ≤ n → St i s → Kp h0 s.heap → SetI K h0 s.heap S led ((l.take i).foldl (addK K) []) →
      (∀ s', Moved (S :: wr) (fun a b => b = a) s s' → Kp h0 s'.heap → SetI K h0 s'.heap S led (l.foldl (addK K) []) → R (.ok (.ret .none)) s') →
      codeAny (model prog w) A (.builtin "set.update.loop" ⟨[.ref S, .ref I], []⟩) R s := by
  have hSw : S ∉ wr := fun h => hSf (W.sub _ h)
  have hsub : ∀ b ∈ wr, b ∈ S :: wr := fun b hb => List.mem_cons_of_mem _ hb
  intro k
  induction k with
  | zero =>
    intro i s hk hi hst hkp hS hR
    have hin : i = n := by lia
    subst hin
    refine codeAny_builtin F.entry_set_update_loop ?_
    rw [Around.under_plainId F.plain_set_update_loop _]
    show wpAny _ A.in1 (pyNext (.ref I) >>= _) _ _ s
    refine wpAny_bind (W.done s _ _ hst fun s' hm => ?_)
    rw [← hl, List.take_length] at hS
    exact wpAny_pure (hR s' (hm.mono hsub) (fun b o e => hm.heap b o (fun c => hdis b o e (hsub b c)) (hkp b o e)) (hS.moved fun o e => hm.heap S o hSw e))
  | succ k ih =>
    intro i s hk hi hst hkp hS hR
    have hlt : i < n := by lia
    refine codeAny_builtin F.entry_set_update_loop ?_
    rw [Around.under_plainId F.plain_set_update_loop _]
    show wpAny _ A.in1 (pyNext (.ref I) >>= _) _ _ s
    refine wpAny_bind (W.item i s _ _ hlt hst fun v s' hP hst' hm => ?_)
    have hkp' : Kp h0 s'.heap := fun b o e => hm.heap b o (fun c => hdis b o e (hsub b c)) (hkp b o e)
    have hli : l[i]? = some l[i] := List.getElem?_eq_getElem (by lia)
    show wpAny _ A.in1 (holding [v] (setAdd S v) >>= _) _ _ s'
    refine wpAny_bind (wpAny_holding (add_any hu hkp'.but (hS.moved fun o e => hm.heap S o hSw e) (hval i v _ hP hli) (hlen i) fun h' tk r hS' hkeep htk => ?_))
    have hS2 : SetI K h0 h' S led ((l.take (i + 1)).foldl (addK K) []) := by
      rw [List.take_succ, hli, Option.toList_some, List.foldl_append]; exact hS'
    have hne : ∀ b o, h0.get? b = some o → b ≠ S := fun b o e c => hdis b o e (by rw [c]; exact List.mem_cons_self)
    refine wpAny_pure ⟨plainId_quiet F.plain_set_update_loop _, ih (i + 1) _ (by lia) hlt (W.frame _ s' h' tk hst' htk fun b hb o e => ?_) (fun b o e => hkeep b o (hne b o e) (hkp' b o e)) hS2 fun s'' hm'' g1 g2 => ?_⟩
    · exact hkeep b o (fun h : b = S => hSf (by rw [← h]; exact hb)) e
    · refine hR s'' (Moved.trans W.gtrans ((hm.mono hsub).then_heap htk fun b o hb e => ?_) hm'') g1 g2
      exact hkeep b o (fun h : b = S => hb (by rw [h]; exact List.mem_cons_self)) e
end
noncomputable def ledOf (w : World) : Bool := !(w.params.followText "set-order")
section
variable {prog : Program} {w : World} {K : EK prog w} {A : Around} {E : Value → Shared → Prop} {s : Shared}
theorem set_new_led (a : Value) {Q₁ : Value → Shared → Prop}
    (h : Q₁ (.ref s.heap.objs.size) { s with heap := s.heap.push (setObj #[] 0 (.fresh 0 0 (ledOf w))) }) :
    codeAny (model prog w) A (.call (.builtin "set.__new__") ⟨[.type "set", a], []⟩) (wants Q₁ E) s := by
  refine codeAny_of_tree ?_
  show wpAny _ A.in1 (do checkBuiltinCall "set.__new__" ⟨[.type "set", a], []⟩; again (.builtin "set.__new__" ⟨[.type "set", a], []⟩)) _ _ s
  refine wpAny_bind (wpAny_of_eq (F.newCall_set_1 a) (wpAny_pure ⟨plainId_quiet F.plain_set_new _, codeAny_builtin F.entry_set_new ?_⟩))
  rw [Around.under_plainId F.plain_set_new _]
  unfold Builtin.«set.__new__» Builtin.Frozenset.newClass
  have hsub := sub_set_self
  obtain ⟨hp, g, d, tk, os⟩ := s
  dsimp only
  wp_walk
  refine wpAny_askSetting (wpAny_pure ?_)
  dsimp only
  simp only [newObj]
  refine wpAny_bind (wpAny_alloc (wpAny_pure ?_))
  exact wpAny_pure h
theorem sub_tuple_set : isSubtype (.type "tuple") (.type "set") = pure false := by rw [isSubtype_type]; kernel_rfl
theorem sub_tuple_frozenset : isSubtype (.type "tuple") (.type "frozenset") = pure false := by rw [isSubtype_type]; kernel_rfl
set_option maxHeartbeats 3200000 in
theorem call_set_tuple {l : Addr} {items : Array Value} {kl : List K.α} {Q : Value → Shared → Prop}
    (hh : A.handled = none) (hu : A.units + 8 < cLine) (hl : s.heap.IsTuple l items) (hn : kl.length = items.size) (hval : ∀ (i : Nat) v k, items[i]? = some v → kl[i]? = some k → K.is s.heap k v) (hlen : ∀ i, ((kl.take i).foldl (addK K) []).length < 64)
    (h : ∀ (h' : Heap) (tk : Nat), SetI K s.heap h' s.heap.objs.size (ledOf w) (kl.foldl (addK K) []) → Kp s.heap h' → s.toks ≤ tk → Q (.ref s.heap.objs.size) { s with heap := h', toks := tk }) :
    wpAny (model prog w) A (call (.type "set") [.ref l]) Q E s := by
  obtain ⟨c, tl, hmro⟩ := F.called_set.mro
  have hmade := F.called_set.made
  have hsub := F.called_set.sub
  refine wpAny_call (codeAny_of_tree ?_)
  show wpAny _ _ (callAny (.type "set") _) _ _ _
  refine wpAny_pure ⟨Code.quiet_builtin _ (by decide +kernel), codeAny_builtin F.entry_type_call ?_⟩
  rw [Around.under_plain (weight_type_call_type "set" [.ref l] []) rfl]
  have h1 := F.called_set.notType
  have h2 := F.called_set.canCreate
  have hct := F.typeCall_set_1 (.ref l)
  repeat (any_goals (first | assumption | wp_step))
  refine codeAny_mono (set_new_led (.ref l) (E := E) (Q₁ := fun obj s₁ => obj = .ref s.heap.objs.size ∧ s₁ = { s with heap := s.heap.push (setObj #[] 0 (.fresh 0 0 (ledOf w))) }) ⟨rfl, rfl⟩) fun r s₁ hr => ?_
  cases r with
  | error e => exact hr
  | ok fl =>
    cases fl with
    | ret obj =>
      obtain ⟨rfl, rfl⟩ := hr
      have hS : (s.heap.push (setObj #[] 0 (.fresh 0 0 (ledOf w)))).get? s.heap.objs.size = some (setObj #[] 0 (.fresh 0 0 (ledOf w))) := Heap.get?_push_size _ rfl
      have hT : Shared.TypeIs { s with heap := s.heap.push (setObj #[] 0 (.fresh 0 0 (ledOf w))) } (.ref s.heap.objs.size) "set" := ⟨_, hS, rfl⟩
      have hli := F.called_set.init.lookup
      have hbi := F.called_set.init.bind (.ref s.heap.objs.size)
      repeat (any_goals (first | assumption | wp_step))
      refine codeAny_mono (codeAny_call_builtin (R := wants (fun r s₂ => r = .none ∧ ∃ h' tk, s₂ = { s with heap := h', toks := tk } ∧ SetI K s.heap h' s.heap.objs.size (ledOf w) (kl.foldl (addK K) []) ∧ Kp s.heap h' ∧ s.toks ≤ tk) E)
        F.called_set.init.plain F.entry_set_init (check_set_init_1 hT ?_)) fun r₂ s₂ hr₂ => ?_
      · obtain ⟨ol, hol, hcl, nl, hdl⟩ := hl
        obtain ⟨ocls, odict, odata, oslots⟩ := ol
        simp only at hcl hdl
        subst hcl; subst hdl
        have hol' : (s.heap.push (setObj #[] 0 (.fresh 0 0 (ledOf w)))).get? l = some { cls := .type "tuple", dict := odict, data := .seq items nl, slots := oslots } := Heap.get?_push_of_some _ hol
        have hsls := sub_tuple_set
        have hslf := sub_tuple_frozenset
        have hne : (Value.type "tuple" == Value.type "dict") = false := by decide
        have hl1 : (s.heap.push (setObj #[] 0 (.fresh 0 0 (ledOf w)))).IsTuple l items := ⟨_, hol', rfl, nl, rfl⟩
        unfold Builtin.«set.__init__» noKeywords Builtin.Frozenset.updateFrom
        generalize hPI : pyIter = PI
        wp_walk
        subst hPI
        refine wpAny_pyIter_tuple hl1 ?_
        refine wpAny_bind (wpAny_runValue ?_)
        have hlS : l < s.heap.objs.size := Heap.lt_size hol
        have hh3 : A.in1.in1.in1.handled = none := by simp [hh]
        have hneI : l ≠ (s.heap.push (setObj #[] 0 (.fresh 0 0 (ledOf w)))).objs.size := by
          rw [Heap.size_push]; exact Nat.ne_of_lt (Nat.lt_succ_of_lt hlS)
        have hSf : s.heap.objs.size ∉ [(s.heap.push (setObj #[] 0 (.fresh 0 0 (ledOf w)))).objs.size, l] := by
          rw [Heap.size_push]; simp only [List.mem_cons, List.mem_singleton, List.not_mem_nil, or_false, not_or]
          exact ⟨Nat.ne_of_lt (Nat.lt_succ_self _), Nat.ne_of_gt hlS⟩
        refine set_loop (K := K) ((Walks.tuple hh3 _ l hneI items).toS) s.heap.objs.size hSf s.heap (fun b o e c => ?_) kl hn (ledOf w) hval hlen (by simp only [units_in1]; lia) (items.size - 0) 0 _ (by lia) (Nat.zero_le _)
          ⟨⟨_, Heap.get?_push_size _ rfl, rfl, rfl⟩, ?_⟩ (fun b o e => Heap.get?_push_of_some _ (Heap.get?_push_of_some _ e)) ?hS0 ?hR
        · have hb := Heap.lt_size e
          rw [Heap.size_push] at c
          simp only [List.mem_cons, List.mem_singleton, List.not_mem_nil, or_false] at c
          rcases c with c | c <;> subst c
          · exact Nat.lt_irrefl _ hb
          · exact Nat.lt_irrefl _ (Nat.lt_of_succ_lt hb)
        · exact ⟨_, Heap.get?_push_of_some _ hol', rfl, nl, rfl⟩
        case hS0 => exact ⟨#[], 0, _, [], Heap.get?_push_of_some _ hS, TOk_fresh _, rfl, rfl, (by show (0 : Nat) < 21; decide), (by show (7 : Nat) ≤ 511; decide), .nil, .refl _⟩
        case hR =>
          intro s' hm hkp hS'
          obtain ⟨h', g', d', tk', os'⟩ := s'
          have eg : g' = s.gens := hm.gens
          have ed : d' = s.drawn := hm.drawn
          have eo : os' = s.os := hm.os
          have et : s.toks ≤ tk' := hm.toks
          subst eg; subst ed; subst eo
          show wpAny _ _ _ _ _ _
          refine wpAny_pure ?_
          show wpAny _ _ (ret Value.none) _ _ _
          exact wpAny_pure ⟨rfl, h', tk', rfl, hS', hkp, et⟩
      · cases r₂ with
        | error e => exact hr₂
        | ok fl₂ =>
          cases fl₂ with
          | ret r =>
            obtain ⟨rfl, h', tk, rfl, hS', hk', ht'⟩ := hr₂
            repeat (any_goals (first | assumption | wp_step))
            exact h _ _ hS' hk' ht'
          | _ => exact hr₂.elim
    | _ => exact hr.elim
end
end DD
set_option Elab.async false
set_option linter.all false
set_option maxRecDepth 100000
namespace DD
open PySem PySem.Spec PyProof.Rows
theorem entry_set_iter : entryFor table "set.__iter__" = some Builtin.«frozenset.__iter__» :=
  entryFor_alias (id' := "frozenset.__iter__") (by kernel_rfl) (by first | rfl | decide +kernel) (by decide +kernel) (by kernel_rfl)
theorem slot_si_next : Slot "set_iterator" "__next__" "set_iterator.__next__" :=
  .of (owner := "set_iterator") (n := "__next__") (by rw [typeLookup_type, builtinLookup_eq_fast]; kernel_rfl) (by decide +kernel) (by decide +kernel) (by decide +kernel)
    (by first | exact .inl (by decide +kernel) | exact .inr (by decide +kernel)) (by rw [isSubtype_type]; kernel_rfl)
theorem entry_si_next : entryFor table "set_iterator.__next__" = some Builtin.«set_iterator.__next__» := entryFor_of_tree (by kernel_rfl)
theorem owner_si : Manifest.owners.lookup (String.ofList ['r', 'o', 't', 'a', 'r', 'e', 't', 'i', '_', 't', 'e', 's'].reverse) = some Manifest.sig_set_iterator := by kernel_rfl
theorem args_si_next (a : Value) : argsOk "set_iterator.__next__" ⟨[a], []⟩ := by
  unfold argsOk; rw [signature?_of (id := "set_iterator.__next__") (n := ['_', '_', 't', 'x', 'e', 'n', '_', '_']) (o := ['r', 'o', 't', 'a', 'r', 'e', 't', 'i', '_', 't', 'e', 's']) (by kernel_rfl) owner_si]; kernel_rfl
theorem slot_si_iter : Slot "set_iterator" "__iter__" "set_iterator.__iter__" :=
  .of (owner := "set_iterator") (n := "__iter__") (by rw [typeLookup_type, builtinLookup_eq_fast]; kernel_rfl) (by decide +kernel) (by decide +kernel) (by decide +kernel)
    (by first | exact .inl (by decide +kernel) | exact .inr (by decide +kernel)) (by rw [isSubtype_type]; kernel_rfl)
noncomputable abbrev siObj (sl i : Nat) (S : Addr) (n ep : Nat) : Obj := { cls := .type "set_iterator", data := .fields #[.int sl 0, .int i 0, .ref S, .int n 0, .int ep 0] }
noncomputable def walkOf (w : World) (S : Addr) (ep : Nat) (es : Array (Int × Value)) : List Value := ((if w.params.followText "set-order" then pickOrder (w.params.setOrder S ep) es else es).toList).map (·.2)
theorem erase_perm {α : Type} : ∀ (l : List α) (q : Nat) (h : q < l.length), (l[q] :: l.eraseIdx q).Perm l
  | a :: l, 0, _ => by simp
  | a :: l, q + 1, h => by
    simp only [List.getElem_cons_succ, List.eraseIdx_cons_succ]
    exact (List.Perm.swap _ _ _).trans ((erase_perm l q (by simpa using h)).cons a)
theorem pick_go {α : Type} (next : Nat → Nat) : ∀ (fuel k : Nat) (left : List α) (out : Array α), left.length ≤ fuel → (pickOrder.go next fuel k left out).toList.Perm (out.toList ++ left)
  | 0, k, left, out, h => by
    have : left = [] := List.eq_nil_of_length_eq_zero (by lia)
    subst this; simp [pickOrder.go]
  | fuel + 1, k, left, out, h => by
    rw [pickOrder.go]
    cases left with
    | nil => simp
    | cons a l =>
      have hlt : next k % (a :: l).length < (a :: l).length := Nat.mod_lt _ (by simp)
      generalize hq : next k % (a :: l).length = q at *
      have e : (a :: l)[q]? = some (a :: l)[q] := List.getElem?_eq_getElem hlt
      rw [e]
      refine (pick_go next fuel (k + 1) _ _ (by rw [List.length_eraseIdx]; split <;> simp at h ⊢ <;> lia)).trans ?_
      rw [Array.toList_push, List.append_assoc]
      refine List.Perm.append_left _ ?_
      exact erase_perm (a :: l) q hlt
theorem pick_perm {α : Type} (next : Nat → Nat) (xs : Array α) : (pickOrder next xs).toList.Perm xs.toList := by
  have := pick_go next xs.size 0 xs.toList #[] (by simp)
  simpa [pickOrder] using this
theorem walk_perm (w : World) (S : Addr) (ep : Nat) (es : Array (Int × Value)) : (walkOf w S ep es).Perm (es.toList.map (·.2)) := by
  unfold walkOf
  split
  · exact (pick_perm _ _).map _
  · exact .refl _
noncomputable def SiAt (w : World) (S : Addr) (es : Array (Int × Value)) (ep : Nat) (t : SetTable) (I : Addr) (i : Nat) (h : Heap) : Prop :=
  ∃ sl : Nat, h.get? I = some (siObj sl i S es.size ep) ∧ (w.params.followText "set-order" = false → SetTable.below t.place sl = i) ∧ h.get? S = some (setObj es ep t)
section
variable {prog : Program} {w : World} {A : Around} {E : Value → Shared → Prop} {s : Shared}
theorem byText_at {Q : Bool → Shared → Prop} (h : Q (w.params.followText "set-order") s) : wpAny (model prog w) A setsByText Q E s := by
  unfold setsByText
  exact wpAny_bind (wpAny_askSetting (wpAny_pure h))
theorem setWalk_at {S : Addr} {es : Array (Int × Value)} {ep : Nat} {t : SetTable} {Q : Array (Int × Value) → Shared → Prop} (ho : s.heap.get? S = some (setObj es ep t)) (T : TOk t es) (hb : w.params.followText "set-order" = true)
    (h : Q (pickOrder (w.params.setOrder S ep) es) s) : wpAny (model prog w) A (setWalk S) Q E s := by
  unfold setWalk
  refine wpAny_bind (wpAny_setState_of ho rfl T.fits ?_)
  dsimp only
  refine wpAny_bind (byText_at ?_)
  rw [hb]
  simp only [if_true]
  exact wpAny_bind (wpAny_askSetting (wpAny_pure h))
theorem setNext_at {S : Addr} {es : Array (Int × Value)} {ep : Nat} {t : SetTable} {sl i : Nat} {Q : Option (Value × Nat) → Shared → Prop} (ho : s.heap.get? S = some (setObj es ep t)) (T : TOk t es) (hpl : t.plain = true) (hld : t.led = ledOf w)
    (hsl : w.params.followText "set-order" = false → SetTable.below t.place sl = i)
    (h1 : ∀ v, (walkOf w S ep es)[i]? = some v → ∀ sl' : Nat, (w.params.followText "set-order" = false → SetTable.below t.place sl' = i + 1) → Q (some (v, sl')) s)
    (h2 : (walkOf w S ep es)[i]? = none → Q none s) : wpAny (model prog w) A (setNext S sl i ep) Q E s := by
  unfold setNext
  refine wpAny_bind (wpAny_setState_of ho rfl T.fits ?_)
  dsimp only
  refine wpAny_bind (byText_at ?_)
  cases hb : w.params.followText "set-order" with
  | true =>
    simp only [if_true, bne_self_eq_false, Bool.false_eq_true, if_false]
    refine wpAny_bind (setWalk_at ho T hb (wpAny_pure ?_))
    have e : (walkOf w S ep es)[i]? = ((pickOrder (w.params.setOrder S ep) es)[i]?).map (·.2) := by
      unfold walkOf; rw [hb, if_pos rfl, List.getElem?_map, Array.getElem?_toList]
    cases hp : (pickOrder (w.params.setOrder S ep) es)[i]? with
    | none => exact h2 (by rw [e, hp]; rfl)
    | some x => exact h1 x.2 (by rw [e, hp]; rfl) sl (fun c => by rw [hb] at c; cases c)
  | false =>
    have hl : t.led = true := by rw [hld, ledOf, hb]; rfl
    simp only [Bool.false_eq_true, if_false]
    show wpAny _ _ (if ((!t.plain && decide (es.size > 1)) = true) then _ else _) _ _ _
    rw [hpl]
    simp only [Bool.not_true, Bool.false_and, Bool.false_eq_true, if_false]
    refine wpAny_bind ?_
    show wpAny _ _ (if ((!t.led && !es.isEmpty) = true) then _ else _) _ _ _
    rw [hl]
    simp only [Bool.not_true, Bool.false_and, Bool.false_eq_true, if_false]
    refine wpAny_pure ?_
    rw [hsl hb]
    have e : (walkOf w S ep es)[i]? = (es[i]?).map (·.2) := by
      unfold walkOf; rw [hb, if_neg Bool.false_ne_true, List.getElem?_map, Array.getElem?_toList]
    by_cases hi : i < es.size
    · have e1 : es[i]? = some es[i] := Array.getElem?_eq_getElem hi
      have hi2 : i < t.place.size := by rw [T.sz]; exact hi
      have e2 : t.place[i]? = some t.place[i] := Array.getElem?_eq_getElem hi2
      rw [e1, e2]
      exact wpAny_pure (h1 _ (by rw [e, e1]; rfl) _ fun _ => below_next T.ris e2)
    · have e1 : es[i]? = none := Array.getElem?_eq_none (by lia)
      rw [e1]
      exact wpAny_pure (h2 (by rw [e, e1]; rfl))
theorem pyNext_si_item {S I : Addr} {es : Array (Int × Value)} {ep : Nat} {t : SetTable} {i : Nat} {v : Value} {Q : Option Value → Shared → Prop} (hne : S ≠ I) (hst : SiAt w S es ep t I i s.heap) (T : TOk t es) (hpl : t.plain = true) (hld : t.led = ledOf w)
    (hv : (walkOf w S ep es)[i]? = some v) (hQ : ∀ h', SiAt w S es ep t I (i + 1) h' → (∀ b o, b ≠ I → s.heap.get? b = some o → h'.get? b = some o) → Q (some v) { s with heap := h' }) :
    wpAny (model prog w) A (pyNext (.ref I)) Q E s := by
  obtain ⟨sl, hI, hsl, ho⟩ := hst
  have hT : s.TypeIs (.ref I) "set_iterator" := ⟨_, hI, rfl⟩
  unfold pyNext
  refine wpAny_bind (wpAny_attempt (wpAny_callSpecial?_slot (name := Str.ofString "__next__") hT slot_si_next (wpAny_call_entry slot_si_next hT entry_si_next ?_ (args_si_next _))))
  show wpAny _ _ (fieldsOf (.ref I) >>= _) _ _ s
  refine wpAny_bind (wpAny_fieldsOf hI rfl ?_)
  dsimp only
  refine wpAny_bind (wpAny_setEntries_of ho rfl T.fits ?_)
  simp only [bne_self_eq_false, Bool.false_eq_true, if_false]
  refine wpAny_bind (setNext_at ho T hpl hld (by simpa using hsl) (fun v' hv' sl' hsl' => ?_) fun c => by simp at c hv; rw [List.getElem?_eq_none (by simpa using c)] at hv; cases hv)
  simp only [Int.toNat_natCast] at hv'
  cases hv.symm.trans hv'
  dsimp only
  refine wpAny_bind (wpAny_setField_rec hI (by simp) fun h1 g1 k1 => ?_)
  refine wpAny_bind (wpAny_setField_rec (s := { s with heap := h1 }) g1 (by simp) fun h2 g2 k2 => ?_)
  have kk : ∀ b o, b ≠ I → s.heap.get? b = some o → h2.get? b = some o := fun b o hb e => by rw [k2.2 b hb, k1.2 b hb]; exact e
  refine wpAny_pure ⟨v, rfl, wpAny_pure (hQ _ ⟨sl', ?_, hsl', kk S _ hne ho⟩ kk)⟩
  rw [g2]
  simp [rawInt]
theorem pyNext_si_end {S I : Addr} {es : Array (Int × Value)} {ep : Nat} {t : SetTable} {i : Nat} {Q : Option Value → Shared → Prop} (hh : A.handled = none) (hst : SiAt w S es ep t I i s.heap) (T : TOk t es) (hpl : t.plain = true) (hld : t.led = ledOf w)
    (hv : (walkOf w S ep es)[i]? = none) (hQ : ∀ h', (∀ b o, b ≠ I → s.heap.get? b = some o → h'.get? b = some o) → Q none { s with heap := h' }) :
    wpAny (model prog w) A (pyNext (.ref I)) Q E s := by
  obtain ⟨sl, hI, hsl, ho⟩ := hst
  have hT : s.TypeIs (.ref I) "set_iterator" := ⟨_, hI, rfl⟩
  unfold pyNext
  refine wpAny_bind (wpAny_attempt (wpAny_callSpecial?_slot (name := Str.ofString "__next__") hT slot_si_next (wpAny_call_entry slot_si_next hT entry_si_next ?_ (args_si_next _))))
  show wpAny _ _ (fieldsOf (.ref I) >>= _) _ _ s
  refine wpAny_bind (wpAny_fieldsOf hI rfl ?_)
  dsimp only
  refine wpAny_bind (wpAny_setEntries_of ho rfl T.fits ?_)
  simp only [bne_self_eq_false, Bool.false_eq_true, if_false]
  refine wpAny_bind (setNext_at ho T hpl hld (by simpa using hsl) (fun v' hv' sl' hsl' => ?_) fun c => ?_)
  · simp only [Int.toNat_natCast] at hv'
    rw [hv] at hv'; cases hv'
  dsimp only
  refine wpAny_bind (wpAny_setField hI rfl (by simp) ?_)
  show wpAny _ _ (newExc (.type "StopIteration") [] >>= _) _ _ _
  refine wpAny_bind ?_
  simp only [newExc, newTuple]
  refine wpAny_bind (wpAny_newObj_type ?_ (by size_fits))
  refine wpAny_bind (m := firstArgMember _ _) (wpAny_of_eq (a := Value.none) (by first | rfl | (simp only [firstArgMember]; rfl)) ?_)
  refine wpAny_newObj_type ?_ (by size_fits)
  simp only [raiseNew]
  refine wpAny_bind (wpAny_handled ?_)
  first | rw [show A.in1.handled = none from hh] | rw [hh]
  refine wpAny_bind (wpAny_pure (wpAny_throw ?_))
  refine wpAny_bind (wpAny_isInstance (T := "StopIteration") (b := true) ⟨_, Heap.get?_push_size _ rfl, rfl⟩ isSubtype_stop ?_)
  refine wpAny_pure (hQ _ fun b o hb e => ?_)
  exact Heap.get?_push_of_some _ (Heap.get?_push_of_some _ ((Heap.get?_update_ne _ _ _ _ hb).trans e))
end
end DD
set_option Elab.async false
set_option linter.all false
set_option maxRecDepth 100000
namespace DD
open PySem PySem.Spec PyProof.Rows
theorem entry_si_iter : entryFor table "set_iterator.__iter__" = some Builtin.«dict_keyiterator.__iter__» :=
  entryFor_alias (id' := "dict_keyiterator.__iter__") (by kernel_rfl) (by first | rfl | decide +kernel) (by decide +kernel) (by kernel_rfl)
theorem args_si_iter (a : Value) : argsOk "set_iterator.__iter__" ⟨[a], []⟩ := by
  unfold argsOk; rw [signature?_of (id := "set_iterator.__iter__") (n := ['_', '_', 'r', 'e', 't', 'i', '_', '_']) (o := ['r', 'o', 't', 'a', 'r', 'e', 't', 'i', '_', 't', 'e', 's']) (by kernel_rfl) owner_si]; kernel_rfl
theorem walk_len (w : World) (S : Addr) (ep : Nat) (es : Array (Int × Value)) : (walkOf w S ep es).length = es.size := by
  have := (walk_perm w S ep es).length_eq
  simpa using this
theorem walksSet {prog : Program} {w : World} {A : Around} (hh : A.handled = none) (I S : Addr) (hne : S ≠ I) {es : Array (Int × Value)} {ep : Nat} {t : SetTable} (T : TOk t es) (hpl : t.plain = true) (hld : t.led = ledOf w) :
    WalksS prog w A I [I, S] [I] (fun a b => b = a) es.size (fun i v => (walkOf w S ep es)[i]? = some v) (fun i s => SiAt w S es ep t I i s.heap) where
  sub := fun b hb => by simp at hb; simp [hb]
  grefl := fun _ => rfl
  gtrans := fun _ _ _ h1 h2 => h2.trans h1
  frame := fun i s h' tk st _ hk => by
    obtain ⟨sl, h1, h2, h3⟩ := st
    exact ⟨sl, hk I (by simp) _ h1, h2, hk S (by simp) _ h3⟩
  item := fun i s Q E hi st hQ => by
    have hl : i < (walkOf w S ep es).length := by rw [walk_len]; exact hi
    have hv : (walkOf w S ep es)[i]? = some (walkOf w S ep es)[i] := List.getElem?_eq_getElem hl
    refine pyNext_si_item hne st T hpl hld hv fun h' st' hk => ?_
    exact hQ _ _ hv st' ⟨fun b o hb e => hk b o (fun c => hb (by simp [c])) e, rfl, rfl, rfl, Nat.le_refl _⟩
  done := fun s Q E st hQ => by
    refine pyNext_si_end hh st T hpl hld (List.getElem?_eq_none (by rw [walk_len]; exact Nat.le_refl _)) fun h' hk => ?_
    exact hQ _ ⟨fun b o hb e => hk b o (fun c => hb (by simp [c])) e, rfl, rfl, rfl, Nat.le_refl _⟩
  self := fun i s Q E st hQ => by
    obtain ⟨sl, h1, h2, h3⟩ := st
    have hT : s.TypeIs (.ref I) "set_iterator" := ⟨_, h1, rfl⟩
    refine wpAny_pyIter_slot hT slot_si_iter (wpAny_call_entry slot_si_iter hT entry_si_iter ?_ (args_si_iter _))
    show wpAny _ _ (ret (.ref I)) _ _ s
    exact wpAny_pure ⟨_, rfl, "set_iterator", _, hT, slot_si_next.lookup, hQ⟩
section
variable {prog : Program} {w : World} {A : Around} {E : Value → Shared → Prop} {s : Shared}
theorem pyIter_set {S : Addr} {es : Array (Int × Value)} {ep : Nat} {t : SetTable} {Q : Value → Shared → Prop} (ho : s.heap.get? S = some (setObj es ep t)) (T : TOk t es) (hpl : t.plain = true)
    (hQ : Q (.ref s.heap.objs.size) { s with heap := s.heap.push (siObj 0 0 S es.size ep) }) : wpAny (model prog w) A (pyIter (.ref S)) Q E s := by
  have hT : s.TypeIs (.ref S) "set" := ⟨_, ho, rfl⟩
  refine wpAny_pyIter_slot hT F.slot_set_iter (wpAny_call_entry F.slot_set_iter hT entry_set_iter ?_ (F.args_set_iter_1 _))
  show wpAny _ _ (Builtin.Frozenset.sizeOf S >>= _) _ _ s
  unfold Builtin.Frozenset.sizeOf
  refine wpAny_bind (wpAny_bind (wpAny_setEntries_of ho rfl T.fits (wpAny_pure ?_)))
  dsimp only
  unfold setDrawn
  refine wpAny_bind (wpAny_bind (wpAny_setState_of ho rfl T.fits ?_))
  dsimp only
  refine wpAny_bind (byText_at (wpAny_pure ?_))
  show wpAny _ _ ((if ((!(w.params.followText "set-order") && (!t.plain && decide (es.size > 1))) = true) then _ else _)) _ _ _
  rw [hpl]
  simp only [Bool.not_true, Bool.false_and, Bool.and_false, Bool.false_eq_true, if_false]
  refine wpAny_bind (wpAny_pure ?_)
  refine wpAny_bind (wpAny_setEpoch_of ho rfl T.fits ?_)
  refine wpAny_bind (wpAny_newObj_type (wpAny_pure ⟨_, rfl, "set_iterator", _, ⟨_, Heap.get?_push_size _ rfl, rfl⟩, slot_si_next.lookup, hQ⟩))
theorem lengthHint_set {S : Addr} {es : Array (Int × Value)} {ep : Nat} {t : SetTable} {Q : Bool → Shared → Prop} (ho : s.heap.get? S = some (setObj es ep t)) (hQ : Q false s) : wpAny (model prog w) A (Builtin.List.listLengthHint (.ref S)) Q E s := by
  have hT : s.TypeIs (.ref S) "set" := ⟨_, ho, rfl⟩
  unfold Builtin.List.listLengthHint
  refine wpAny_bind (wpAny_specialOf hT F.slot_set_len.lookup ?_)
  have hs : splitId "set.__len__" = some ("set", "__len__") := by kernel_rfl
  dsimp only
  rw [hs]
  dsimp only
  refine wpAny_bind (wpAny_isInstance hT sub_set_self ?_)
  rw [show (!true) = false from rfl, if_neg Bool.false_ne_true]
  rw [if_pos]
  · refine wpAny_bind (wpAny_typeOf hT ?_)
    exact wpAny_pure hQ
  · decide +kernel
end
end DD
set_option Elab.async false
set_option linter.all false
set_option maxRecDepth 100000
namespace DD
open PySem PySem.Spec PyProof.Rows
section
variable {prog : Program} {w : World} {A : Around} {E : Value → Shared → Prop} {s : Shared}
theorem resizes_set : (["set", "frozenset", "dict", "dict_keys", "dict_values", "dict_items"].any fun x => Value.type "set" == Value.type x) = true := by decide +kernel
theorem collect_set {S : Addr} {es : Array (Int × Value)} {ep : Nat} {t : SetTable} {Q : List Value → Shared → Prop} (hh : A.handled = none) (ho : s.heap.get? S = some (setObj es ep t)) (T : TOk t es) (hpl : t.plain = true) (hld : t.led = ledOf w) (hsz : es.size < 64)
    (hQ : ∀ h' tk, Kp s.heap h' → s.toks ≤ tk → Q (walkOf w S ep es) { s with heap := h', toks := tk }) : wpAny (model prog w) A (collect (.ref S)) Q E s := by
  have hSlt : S < s.heap.objs.size := Heap.lt_size ho
  unfold collect
  refine wpAny_bind (wpAny_runValue (codeAny_builtin F.entry_proto_collect ?_))
  rw [Around.under_plainId F.plain_proto_collect _]
  show wpAny _ A.in1 (newList [] >>= fun l => again (.builtin "list.__iadd__" ⟨[l, .ref S], []⟩)) _ _ s
  refine wpAny_bind (wpAny_newObj_type ?_)
  refine wpAny_pure ⟨plainId_quiet F.plain_list_iadd _, codeAny_builtin F.entry_list_iadd ?_⟩
  rw [Around.under_plainId F.plain_list_iadd _]
  show wpAny _ A.in1 (Builtin.List.listExtendWith (.ref s.heap.objs.size) (.ref S) (.ref s.heap.objs.size)) _ _ _
  unfold Builtin.List.listExtendWith
  have ho1 : (s.heap.push { cls := .type "list", data := .seq ([] : List Value).toArray }).get? S = some (setObj es ep t) := Heap.get?_push_of_some _ ho
  have hT1 : Shared.TypeIs { s with heap := s.heap.push { cls := .type "list", data := .seq ([] : List Value).toArray } } (.ref S) "set" := ⟨_, ho1, rfl⟩
  refine wpAny_bind (wpAny_typeOf hT1 ?_)
  have h1 : Builtin.List.listSameRef (.ref s.heap.objs.size) (.ref S) = false := by simp [Builtin.List.listSameRef]; exact Nat.ne_of_gt hSlt
  have h2 : (Value.type "set" == Value.type "list") = false := by decide
  have h3 : (Value.type "set" == Value.type "tuple") = false := by decide
  rw [h1, h2, h3]
  rw [show (false || false || false) = false from rfl, if_neg Bool.false_ne_true]
  refine wpAny_bind (pyIter_set ho1 T hpl ?_)
  have hLs : (s.heap.push { cls := .type "list", data := .seq ([] : List Value).toArray }).objs.size = s.heap.objs.size + 1 := Heap.size_push _ _
  rw [hLs]
  have ho2 : ((s.heap.push { cls := .type "list", data := .seq ([] : List Value).toArray }).push (siObj 0 0 S es.size ep)).get? S = some (setObj es ep t) := Heap.get?_push_of_some _ ho1
  refine wpAny_bind (wpAny_holding (lengthHint_set ho2 ?_))
  have hres := resizes_set
  show wpAny _ A.in1 (if (false || (["set", "frozenset", "dict", "dict_keys", "dict_values", "dict_items"].any fun x => Value.type "set" == Value.type x)) = true then _ else _) _ _ _
  rw [hres, show (false || true) = true from rfl, if_pos rfl]
  refine wpAny_bind (wpAny_rule ?_)
  refine wpAny_bind ?_
  show wpAny _ A.in1 (updateSeq s.heap.objs.size (·.push .none) >>= fun _ => updateSeq s.heap.objs.size (·.pop)) _ _ _
  have hL2 : ((s.heap.push { cls := .type "list", data := .seq ([] : List Value).toArray }).push (siObj 0 0 S es.size ep)).get? s.heap.objs.size = some { cls := .type "list", data := .seq ([] : List Value).toArray } :=
    Heap.get?_push_of_some _ (Heap.get?_push_size _ rfl)
  refine wpAny_bind (wpAny_updateSeq hL2 rfl ?_)
  have hL3 := Heap.get?_update_self (Obj.mapSeq (·.push Value.none)) hL2 rfl
  refine wpAny_updateSeq hL3 rfl ?_
  have hL4 := Heap.get?_update_self (Obj.mapSeq (·.pop)) hL3 rfl
  generalize hH : ((((s.heap.push { cls := .type "list", data := .seq ([] : List Value).toArray }).push (siObj 0 0 S es.size ep)).update s.heap.objs.size (Obj.mapSeq (·.push Value.none))).update s.heap.objs.size (Obj.mapSeq (·.pop))) = H at *
  have oth : ∀ b o, b ≠ s.heap.objs.size → ((s.heap.push { cls := .type "list", data := .seq ([] : List Value).toArray }).push (siObj 0 0 S es.size ep)).get? b = some o → H.get? b = some o := fun b o hb e => by
    rw [← hH]; exact (Heap.get?_update_other _ _ (Ne.symm hb)).trans ((Heap.get?_update_other _ _ (Ne.symm hb)).trans e)
  have hI : H.get? (s.heap.objs.size + 1) = some (siObj 0 0 S es.size ep) := by
    refine oth _ _ (Nat.succ_ne_self _) ?_
    rw [← hLs]; exact Heap.get?_push_size _ rfl
  have hSH : H.get? S = some (setObj es ep t) := oth _ _ (Nat.ne_of_lt hSlt) ho2
  have hneI : S ≠ s.heap.objs.size + 1 := Nat.ne_of_lt (Nat.lt_succ_of_lt hSlt)
  refine wpAny_pure ⟨plainId_quiet F.plain_extend_loop _, codeAny_extend_loopS (walksSet (A := A.in1) (by simp [hh]) (s.heap.objs.size + 1) S hneI T hpl hld (ep := ep)) (by rw [sizeLine_eq]; lia) s.heap.objs.size
    (by simp; exact Nat.ne_of_gt hSlt) _ es.size 0 _ #[] _ (by lia) (Nat.zero_le _) ⟨0, hI, fun _ => below_zero T.ris, hSH⟩ hL4 (ItemsOf.nil _) fun s' acc' c' hm hS' hacc => ?_⟩
  show wpAny _ A (load s.heap.objs.size >>= _) _ _ s'
  refine wpAny_bind (wpAny_load hS' ?_)
  have hacc' : acc'.toList = walkOf w S ep es := by
    refine List.ext_getElem? fun i => ?_
    rw [Array.getElem?_toList]
    cases he : acc'[i]? with
    | some v => exact (hacc.2 i v he).symm
    | none =>
      have hz := hacc.1
      have : acc'.size ≤ i := Array.getElem?_eq_none_iff.mp he
      exact (List.getElem?_eq_none (by rw [walk_len]; lia)).symm
  obtain ⟨h', g', d', tk', os'⟩ := s'
  have eg : g' = s.gens := hm.gens
  have ed : d' = s.drawn := hm.drawn
  have eo : os' = s.os := hm.os
  have et : s.toks ≤ tk' := hm.toks
  subst eg; subst ed; subst eo
  refine wpAny_pure ?_
  rw [hacc']
  refine hQ h' tk' (fun b o e => ?_) et
  have hb := Heap.lt_size e
  exact hm.heap b o (by simp; exact ⟨Nat.ne_of_lt hb, Nat.ne_of_lt (Nat.lt_succ_of_lt hb)⟩) (oth b o (Nat.ne_of_lt hb) (Heap.get?_push_of_some _ (Heap.get?_push_of_some _ e)))
end
end DD
set_option Elab.async false
set_option linter.all false
set_option maxRecDepth 100000
namespace DD
open PySem PySem.Spec PyProof.Rows
structure EO {prog : Program} {w : World} (K : EK prog w) where
  lt : K.α → K.α → Bool
  st : Strict lt
  uniq : ∀ {h : Heap} {k k' : K.α} {v : Value}, K.is h k v → K.is h k' v → k = k'
  good : K.α → Prop
  kd : SortKind
  dflt : K.α
  lts : ∀ {A : Around} {E : Value → Shared → Prop} {s : Shared} {a b : K.α} {x y : Value} {Q : Bool → Shared → Prop}, A.units < cLine → K.is s.heap a x → K.is s.heap b y → Q (lt a b) s → wpAny (model prog w) A (keyLt' kd x y) Q E s
  kind : ∀ {A : Around} {E : Value → Shared → Prop} {s : Shared} {vs : List Value} {Q : SortKind → Shared → Prop}, 2 ≤ vs.length → (∀ v ∈ vs, ∃ k, K.is s.heap k v ∧ good k) → Q kd s → wpAny (model prog w) A (keyKind' vs.toArray) Q E s
theorem intsAre_all {prog : Program} {w : World} : ∀ {vs : List Value}, (∀ v ∈ vs, ∃ k : Int, (intKind prog w).is k v = true) → ∃ ns, IntsAre vs ns
  | [], _ => ⟨[], .nil⟩
  | v :: vs, h => by
    obtain ⟨k, hk⟩ := h v List.mem_cons_self
    obtain ⟨ns, hn⟩ := intsAre_all fun u hu => h u (List.mem_cons_of_mem _ hu)
    cases v <;> simp [intKind, Value.isInt] at hk
    exact ⟨_, .cons _ _ hn⟩
noncomputable def eoInt (prog : Program) (w : World) : EO (ekInt prog w) where
  lt := ltI
  st := strictI
  uniq := fun {h k k' v} h1 h2 => (intKind prog w).inj v k k' h1 h2
  good := fun _ => True
  kd := oneType'
  dflt := (0 : Int)
  lts := fun {A E s a b x y Q} _ h1 h2 h => by
    have h1' : (intKind prog w).is a x = true := h1
    have h2' : (intKind prog w).is b y = true := h2
    cases x <;> simp [intKind, Value.isInt] at h1'
    cases y <;> simp [intKind, Value.isInt] at h2'
    have e1 := eq_of_beq (α := Int) h1'
    have e2 := eq_of_beq (α := Int) h2'
    subst e1 e2
    rw [keyLt'_oneType]
    exact oneLt_int h
  kind := fun {A E s vs Q} h2 hv h => by
    obtain ⟨ns, hn⟩ := intsAre_all (prog := prog) (w := w) (vs := vs) fun v hm => let ⟨k, hk, _⟩ := hv v hm; ⟨k, hk⟩
    match vs, h2, hn with
    | v₁ :: v₂ :: vs, _, hn => exact wpAny_of_eq (keyKind_ints hn) h
theorem oneLt_int' {prog : Program} {w : World} {A : Around} {E : Value → Shared → Prop} {s : Shared} (f : Bool) {a b : Int} {t u : Tok} {Q : Bool → Shared → Prop} (h : Q (decide (a < b)) s) : wpAny (model prog w) A (oneLt' f (.int a t) (.int b u)) Q E s := by
  cases f with
  | true => exact oneLt_int h
  | false =>
    rw [oneLt'_eq]
    simp only [Bool.false_eq_true, if_false]
    exact wpAny_bind (HT.rcLt_int A s a t b u prog w E _ (wpAny_truthy_bool h))
theorem keyLt'_tuples (f : Bool) (x y : Value) : keyLt' (tuples' f) x y = (do
    let xs ← Builtin.List.listItems x; let ys ← Builtin.List.listItems y
    for ((p, q), i) in (xs.toList.zip ys.toList).zipIdx do
      if !(← eqBool p q) then return ← oneLt' (f && i == 0) p q
    return xs.size < ys.size) := rfl
theorem firstOfTuple'_eq (v : Value) : firstOfTuple' v = (do
    if (← typeOf v) != .type "tuple" then return none
    return (← Builtin.List.listItems v)[0]?) := rfl
section
variable {prog : Program} {w : World} {A : Around} {E : Value → Shared → Prop} {s : Shared}
theorem keyLt_tup {f : Bool} {ks ms : List Int} {a b : Addr} {Q : Bool → Shared → Prop} (hx : IsTupleKey (intKind prog w) s.heap ks a) (hy : IsTupleKey (intKind prog w) s.heap ms b) (h : Q (lexLt ks ms) s) : wpAny (model prog w) A (keyLt' (tuples' f) (.ref a) (.ref b)) Q E s := by
  obtain ⟨oa, xs, na, hoa, _, hda, hia⟩ := hx
  obtain ⟨ob, ys, nb, hob, _, hdb, hib⟩ := hy
  rw [keyLt'_tuples]
  refine wpAny_bind (listItems_at hoa hda (wpAny_bind (listItems_at hob hdb ?_)))
  refine wpAny_bind ?_
  refine wpAny_forIn_list _ (fun rest r s' => r.1 = none ∧ s' = s ∧ ∃ ks' ms' vs us i, rest = (List.zip vs us).zipIdx i ∧ ItemsAre (intKind prog w) ks' vs ∧ ItemsAre (intKind prog w) ms' us ∧ lexLt ks' ms' = lexLt ks ms ∧ decide (vs.length < us.length) = decide (xs.size < ys.size))
    _ ?_ ?_ _ _ ⟨rfl, rfl, ks, ms, xs.toList, ys.toList, 0, rfl, hia, hib, rfl, by simp⟩
  · rintro ⟨⟨p, q⟩, j⟩ rest r s' ⟨hr, rfl, ks', ms', vs, us, i, hz, h1, h2, h3, h4⟩
    cases h1 with
    | nil => simp at hz
    | @cons k1 u' x'' xs'' g1 h1' =>
      cases h2 with
      | nil => simp at hz
      | @cons k2 v' y'' ys'' g2 h2' =>
        simp only [List.zip_cons_cons, List.zipIdx_cons, List.cons.injEq, Prod.mk.injEq] at hz
        obtain ⟨⟨⟨rfl, rfl⟩, rfl⟩, rfl⟩ := hz
        dsimp only
        refine wpAny_bind ((intKind prog w).eqBool g1 g2 ?_)
        by_cases hk : k1 = k2
        · subst hk
          simp only [decide_true, Bool.not_true, Bool.false_eq_true, if_false]
          refine wpAny_pure ⟨rfl, rfl, x'', y'', xs'', ys'', _, rfl, h1', h2', ?_, by simpa using h4⟩
          rw [← h3, lexLt, if_pos rfl]
        · simp only [hk, decide_false, Bool.not_false, if_true]
          cases p <;> simp [intKind, Value.isInt] at g1
          cases q <;> simp [intKind, Value.isInt] at g2
          subst g1 g2
          refine wpAny_bind (oneLt_int' _ (wpAny_pure ?_))
          show wpAny _ _ _ _ _ _
          rw [lexLt, if_neg hk] at h3
          refine wpAny_pure ?_
          rw [h3]; exact h
  · rintro ⟨r1, r2⟩ s' ⟨hr, rfl, ks', ms', vs, us, i, hz, h1, h2, h3, h4⟩
    simp only at hr
    subst hr
    dsimp only
    have : decide (xs.size < ys.size) = lexLt ks ms := by
      cases h1 with
      | nil =>
        cases h2 with
        | nil => rw [← h4, ← h3]; simp [lexLt]
        | cons _ _ => rw [← h4, ← h3]; simp [lexLt]
      | cons _ _ =>
        cases h2 with
        | nil => rw [← h4, ← h3]; simp [lexLt]
        | cons _ _ => simp at hz
    rw [this]
    exact wpAny_pure h
theorem mapM_same {α β : Type} {M : Model} {f : α → Sem β} (g : α → β) : ∀ (l : List α) {Q : List β → Shared → Prop}, (∀ x ∈ l, ∀ (Q : β → Shared → Prop), Q (g x) s → wpAny M A (f x) Q E s) → Q (l.map g) s → wpAny M A (l.mapM f) Q E s
  | [], Q, _, h => by rw [List.mapM_nil]; exact wpAny_pure h
  | x :: l, Q, hf, h => by
    rw [List.mapM_cons]
    refine wpAny_bind (hf x List.mem_cons_self _ (wpAny_bind (mapM_same g l (fun y hy => hf y (List.mem_cons_of_mem _ hy)) (wpAny_pure h))))
theorem kind_tup {vs : List Value} {Q : SortKind → Shared → Prop} (h2 : 2 ≤ vs.length) (hv : ∀ v ∈ vs, ∃ k, TK prog w s.heap k v ∧ k ≠ []) (h : Q (tuples' true) s) : wpAny (model prog w) A (keyKind' vs.toArray) Q E s := by
  have hg : ∀ v, ∃ u : Option Value, v ∈ vs → (∃ i t, u = some (.int i t)) ∧ ∀ (Q : Option Value → Shared → Prop), Q u s → wpAny (model prog w) A (firstOfTuple' v) Q E s := fun v => by
    by_cases hm : v ∈ vs
    · obtain ⟨k, ⟨a, rfl, hk⟩, hne⟩ := hv v hm
      have hT := hk.typeIs
      obtain ⟨o, items, n, ho, _, hd, hi⟩ := hk
      cases hi' : items.toList with
      | nil => rw [hi'] at hi; cases hi; exact absurd rfl hne
      | cons x xs =>
        have h0 : items[0]? = some x := by rw [← Array.getElem?_toList, hi']; rfl
        have hx : ∃ i t, x = .int i t := items_ints hi x (by rw [hi']; exact List.mem_cons_self)
        obtain ⟨i, t, rfl⟩ := hx
        refine ⟨some (.int i t), fun _ => ⟨⟨i, t, rfl⟩, fun Q hq => ?_⟩⟩
        rw [firstOfTuple'_eq]
        refine wpAny_bind (wpAny_typeOf hT ?_)
        simp only [bne_self_eq_false, Bool.false_eq_true, if_false]
        refine wpAny_bind (listItems_at ho hd (wpAny_pure ?_))
        rw [h0]; exact hq
    · exact ⟨none, fun c => absurd c hm⟩
  have hg' := Classical.axiomOfChoice hg
  obtain ⟨g, hg'⟩ := hg'
  rw [keyKind'_eq, List.mapM_toArray]
  have hall : (vs.map g).toArray.all (·.isSome) = true := by
    simp only [List.all_toArray, List.all_map, List.all_eq_true]
    intro v hm
    obtain ⟨⟨i, t, e⟩, _⟩ := hg' v hm
    simp [e]
  show wpAny _ _ ((List.toArray <$> vs.mapM firstOfTuple') >>= _) _ _ _
  rw [map_eq_pure_bind, bind_assoc]
  refine wpAny_bind (mapM_same g vs (fun v hm => (hg' v hm).2) ?_)
  rw [pure_bind, hall]
  simp only [if_true]
  refine wpAny_bind (wpAny_rule ?_)
  rw [oneTypeOnly'_eq]
  have hfm : ∃ l : List Value, ((vs.map g).toArray.filterMap id) = l.toArray ∧ l ≠ [] ∧ ∀ x ∈ l, ∃ i t, x = .int i t := by
    refine ⟨(vs.map g).filterMap id, by simp, ?_, ?_⟩
    · match vs, h2 with
      | v :: vs, _ =>
        obtain ⟨⟨i, t, e⟩, _⟩ := hg' v List.mem_cons_self
        simp [e]
    · intro x hx
      simp only [List.mem_filterMap, List.mem_map, id] at hx
      obtain ⟨_, ⟨v, hm, rfl⟩, hx⟩ := hx
      obtain ⟨⟨i, t, e⟩, _⟩ := hg' v hm
      rw [e] at hx; cases hx; exact ⟨i, t, rfl⟩
  obtain ⟨l, e1, e2, e3⟩ := hfm
  rw [e1, List.mapM_toArray, map_eq_pure_bind, bind_assoc]
  refine wpAny_bind (wpAny_bind (mapM_same (fun _ => Value.type "int") l (fun x hx Q hq => ?_) ?_))
  · obtain ⟨i, t, rfl⟩ := e3 x hx
    exact wpAny_pure hq
  · refine wpAny_pure ?_
    have h0 : (l.map (fun _ => Value.type "int")).toArray[0]? = some (Value.type "int") := by
      match l, e2 with
      | x :: l, _ => simp
    rw [h0]
    have ha : ((l.map (fun _ => Value.type "int")).toArray.all fun x => x == Value.type "int") = true := by
      simp only [List.all_toArray, List.all_map, List.all_eq_true]
      intro _ _; rfl
    dsimp only
    rw [ha]
    simp only [if_true]
    refine wpAny_bind (wpAny_pure (wpAny_pure ?_))
    have : (some (Value.type "int")).any (· != Value.type "tuple") = true := by decide
    rw [this]; exact h
end
noncomputable def eoTup (prog : Program) (w : World) : EO (ekTup prog w) where
  lt := lexLt
  st := strictL
  uniq := fun {h k k' v} h1 h2 => by
    obtain ⟨a, rfl, h1⟩ := h1
    obtain ⟨b, e, h2⟩ := h2
    cases e
    exact h1.inj h2
  good := fun k => (k : List Int) ≠ []
  kd := tuples' true
  dflt := ([] : List Int)
  lts := fun {A E s a b x y Q} _ h1 h2 h => by
    obtain ⟨a', rfl, h1⟩ := h1
    obtain ⟨b', rfl, h2⟩ := h2
    exact keyLt_tup h1 h2 h
  kind := fun {A E s vs Q} h2 hv h => kind_tup h2 hv h
end DD
set_option Elab.async false
set_option linter.all false
set_option maxRecDepth 100000
namespace DD
open PySem PySem.Spec PyProof.Rows
theorem sorted_ext {α : Type} {lt : α → α → Bool} (S : Strict lt) : ∀ (l r : List α), l.Pairwise (fun a b => lt a b = true) → r.Pairwise (fun a b => lt a b = true) → (∀ x, x ∈ l ↔ x ∈ r) → l = r
  | [], [], _, _, _ => rfl
  | [], b :: r, _, _, h => by have := (h b).mpr List.mem_cons_self; cases this
  | a :: l, [], _, _, h => by have := (h a).mp List.mem_cons_self; cases this
  | a :: l, b :: r, hl, hr, h => by
    rw [List.pairwise_cons] at hl hr
    have hab : a = b := by
      rcases List.mem_cons.mp ((h a).mp List.mem_cons_self) with e | e
      · exact e
      · rcases List.mem_cons.mp ((h b).mpr List.mem_cons_self) with f | f
        · exact f.symm
        · have := S.tr a b a (hl.1 b f) (hr.1 a e)
          rw [S.irr] at this; cases this
    subst hab
    have nl : a ∉ l := fun c => by have := hl.1 a c; rw [S.irr] at this; cases this
    have nr : a ∉ r := fun c => by have := hr.1 a c; rw [S.irr] at this; cases this
    congr 1
    refine sorted_ext S l r hl.2 hr.2 fun x => ⟨fun hx => ?_, fun hx => ?_⟩
    · rcases List.mem_cons.mp ((h x).mp (List.mem_cons_of_mem _ hx)) with e | e
      · subst e; exact absurd hx nl
      · exact e
    · rcases List.mem_cons.mp ((h x).mpr (List.mem_cons_of_mem _ hx)) with e | e
      · subst e; exact absurd hx nr
      · exact e
section
variable {prog : Program} {w : World} {K : EK prog w}
open Classical in
noncomputable def keyAt (O : EO K) (h0 : Heap) (v : Value) : Option K.α := if h : ∃ k, K.is h0 k v then some (Classical.choose h) else none
theorem keyAt_of (O : EO K) {h0 : Heap} {k : K.α} {v : Value} (h : K.is h0 k v) : keyAt O h0 v = some k := by
  have e : ∃ k, K.is h0 k v := ⟨k, h⟩
  unfold keyAt
  rw [dif_pos e]
  exact congrArg some (O.uniq (Classical.choose_spec e) h)
theorem keyAt_is (O : EO K) {h0 : Heap} {k : K.α} {v : Value} (h : keyAt O h0 v = some k) : K.is h0 k v := by
  unfold keyAt at h
  split at h
  · rename_i e; injection h with h; subst h; exact Classical.choose_spec e
  · cases h
noncomputable def kapOf (O : EO K) (h0 : Heap) : PyProof.Rows.KeyKind where
  α := K.α
  blt := O.lt
  irrefl := O.st.irr
  trans := O.st.tr
  negTrans := fun a b c h => by
    cases h1 : O.lt a b with
    | true => exact .inl rfl
    | false =>
      refine .inr ?_
      cases h2 : O.lt b a with
      | true => exact O.st.tr b a c h2 h
      | false => have := O.st.tot a b h1 h2; subst this; exact h
  total := O.st.tot
  keyOf := keyAt O h0
  dflt := O.dflt
noncomputable def keyD (O : EO K) (h0 : Heap) (v : Value) : K.α := (keyAt O h0 v).getD O.dflt
theorem keyD_of (O : EO K) {h0 : Heap} {k : K.α} {v : Value} (h : K.is h0 k v) : keyD O h0 v = k := by unfold keyD; rw [keyAt_of O h]; rfl
theorem Els.keys {h : Heap} {es : List (Int × Value)} {ks : List K.α} (O : EO K) (x : Els K h es ks) : (es.map (·.2)).map (keyD O h) = ks := by
  induction x with
  | nil => rfl
  | cons a _ ih => simp only [List.map_cons]; rw [keyD_of O a, ih]
theorem addK_mem (ks : List K.α) (k x : K.α) : x ∈ addK K ks k ↔ x ∈ ks ∨ x = k := by
  unfold addK
  split
  · rename_i h
    have hk : k ∈ ks := by simpa using h
    exact ⟨.inl, fun c => c.elim id fun e => by rw [e]; exact hk⟩
  · simp
theorem addK_nodup (ks : List K.α) (k : K.α) (h : ks.Nodup) : (addK K ks k).Nodup := by
  unfold addK
  split
  · exact h
  · rename_i c
    have hk : k ∉ ks := by simpa using c
    rw [List.nodup_append]
    exact ⟨h, by simp, fun a ha b hb => by simp at hb; subst hb; exact fun e => hk (e ▸ ha)⟩
theorem fold_mem (l : List K.α) : ∀ (ks : List K.α) (x : K.α), x ∈ l.foldl (addK K) ks ↔ x ∈ ks ∨ x ∈ l := by
  induction l with
  | nil => intro ks x; simp
  | cons a l ih =>
    intro ks x
    rw [List.foldl_cons, ih, addK_mem, List.mem_cons, or_assoc]
theorem fold_nodup (l : List K.α) : ∀ (ks : List K.α), ks.Nodup → (l.foldl (addK K) ks).Nodup := by
  induction l with
  | nil => intro ks h; exact h
  | cons a l ih => intro ks h; rw [List.foldl_cons]; exact ih _ (addK_nodup _ _ h)
variable {A : Around} {E : Value → Shared → Prop} {s : Shared}
theorem sorted_set (O : EO K) {h0 : Heap} {S : Addr} {ks : List K.α} {Q : Value → Shared → Prop} (hh : A.handled = none) (hu : A.units + 8 < cLine) (hkp : Kp h0 s.heap) (hS : SetI K h0 s.heap S (ledOf w) ks) (hnd : ks.Nodup) (hn : ks.length < 64) (hg : ∀ k ∈ ks, O.good k)
    (h : ∀ h1 h' tk L (out : List Value) n, Kp s.heap h1 → Kp h1 h' → h1.objs.size ≤ L → h'.get? L = some (seqObj "list" out.toArray n) → (∀ v ∈ out, K.is h0 (keyD O h0 v) v) → out.map (keyD O h0) = srtL O.lt ks → s.toks ≤ tk → Q (.ref L) { s with heap := h', toks := tk }) :
    wpAny (model prog w) A (call (.builtin "sorted") [.ref S]) Q E s := by
  obtain ⟨es, ep, t, kl, ho, T, hpl, hld, hfew, hmk, hE, hp⟩ := hS
  have hsz : es.size = ks.length := by rw [← hp.length_eq, ← hE.length]; simp
  refine Calls.call_function_entry kind_sorted plain_sorted entry_sorted (args_sorted1 _) ?_
  unfold Builtin.«sorted»
  refine wpAny_bind (m := checkCount "sorted" 1 1 _) (wpAny_pure ?_)
  refine wpAny_bind (collect_set (by simp [hh]) ho T hpl hld (by lia) fun h1 tk1 kp1 htk1 => ?_)
  refine wpAny_bind (wpAny_newList ?_ (by rw [walk_len, sizeLine_eq]; lia))
  generalize hvs : walkOf w S ep es = vs
  have hperm : vs.Perm (es.toList.map (·.2)) := by rw [← hvs]; exact walk_perm w S ep es
  have hlen : vs.length < 64 := by rw [hperm.length_eq]; simp; lia
  have hall : ∀ v ∈ vs, ∃ k, K.is h0 k v ∧ O.good k := fun v hv => by
    obtain ⟨e, he, rfl⟩ := List.mem_map.mp (hperm.mem_iff.mp hv)
    obtain ⟨i, hi⟩ := List.getElem?_of_mem he
    obtain ⟨k, g1, g2, _⟩ := hE.at hi
    exact ⟨k, g2, hg k (hp.mem_iff.mp (List.mem_of_getElem? g1))⟩
  have hoL : (h1.push (seqObj "list" vs.toArray 0)).get? h1.objs.size = some (seqObj "list" vs.toArray 0) := Heap.get?_push_size _ rfl
  have hk01 : Kp h0 h1 := hkp.trans kp1
  have hz : ∀ p, p ∈ (pairsOf vs).toList → p.1 = p.2 ∧ p.1 ∈ vs := fun p hp' => by rw [pairsOf_toList] at hp'; exact mem_zip_self hp'
  show wpAny _ _ _ _ _ { s with heap := h1.push (seqObj "list" vs.toArray 0), toks := tk1 }
  refine wpAny_bind (wpAny_holding (wpAny_call_entry slot_list_sort ⟨_, hoL, rfl⟩ entry_list_sort (w_sort (κ := kapOf O h0) (kd := O.kd) hoL (fun p hp' => ?_) hlen (fun h' hk' => ?_) fun xs hx hs => ⟨_, rfl, ?_⟩) (args_list_sort _)))
  · obtain ⟨k, hk, _⟩ := hall p.1 (hz p hp').2
    exact ⟨k, keyAt_of O hk⟩
  · have kk : Kp h0 h' := fun b o e => by
      have e1 := hk01 b o e
      exact hk' b o (Nat.ne_of_lt (Heap.lt_size e1)) (Heap.get?_push_of_some _ e1)
    refine ⟨fun E x y a b Q ha hb hq => ?_, fun h2 E Q hq => ?_⟩
    · exact O.lts (by simp only [units_in1]; lia) (K.keep (keyAt_is O ha) kk.but) (K.keep (keyAt_is O hb) kk.but) hq
    · exact O.kind h2 (fun v hv => let ⟨k, g1, g2⟩ := hall v hv; ⟨k, K.keep g1 kk.but, g2⟩) hq
  · have hx' : xs.toList.Perm (pairsOf vs).toList := Array.perm_iff_toList_perm.mp hx
    have hm : ∀ p, p ∈ xs.toList → p.1 = p.2 ∧ p.1 ∈ vs := fun p hp' => hz p (hx'.mem_iff.mp hp')
    have eo : (xs.map (·.2)).toList = xs.toList.map (·.1) := by
      rw [Array.toList_map]; exact List.map_congr_left fun p hp' => (hm p hp').1.symm
    obtain ⟨n', hout⟩ := sortedHeap_at (out := xs.map (·.2)) hoL
    have hvp : (xs.toList.map (·.1)).Perm vs := by
      refine (hx'.map _).trans ?_
      rw [pairsOf_toList]
      have : ∀ l : List Value, (l.zip l).map (·.1) = l := fun l => by induction l with
        | nil => rfl
        | cons a l ih => simp [ih]
      rw [this]
    have hkp2 : ((xs.toList.map (·.1)).map (keyD O h0)).Perm ks := by
      refine (hvp.map _).trans ((hperm.map _).trans ?_)
      rw [hE.keys O]; exact hp
    have hnd2 : ((xs.toList.map (·.1)).map (keyD O h0)).Nodup := hkp2.nodup_iff.mpr hnd
    have hpw : ((xs.toList.map (·.1)).map (keyD O h0)).Pairwise (fun a b => O.lt a b = true) := by
      rw [List.pairwise_iff_getElem]
      intro i j hi hj hij
      have hi' : i < xs.size := by simpa using hi
      have hj' : j < xs.size := by simpa using hj
      have q := hs i j (Nat.le_of_lt hij) (by rw [← hx.size_eq]; exact hj')
      have e1 : KK (kapOf O h0) xs i = ((xs.toList.map (·.1)).map (keyD O h0))[i] := by
        unfold KK; rw [Array.getElem?_eq_getElem hi']; simp [kapOf, keyD]
      have e2 : KK (kapOf O h0) xs j = ((xs.toList.map (·.1)).map (keyD O h0))[j] := by
        unfold KK; rw [Array.getElem?_eq_getElem hj']; simp [kapOf, keyD]
      rw [e1, e2] at q
      have q' : O.lt ((xs.toList.map (·.1)).map (keyD O h0))[j] ((xs.toList.map (·.1)).map (keyD O h0))[i] = false := q
      cases c : O.lt ((xs.toList.map (·.1)).map (keyD O h0))[i] ((xs.toList.map (·.1)).map (keyD O h0))[j] with
      | true => rfl
      | false =>
        exfalso
        have := O.st.tot _ _ c q'
        rw [List.nodup_iff_pairwise_ne, List.pairwise_iff_getElem] at hnd2
        exact hnd2 i j hi hj hij this
    have hfin : (xs.toList.map (·.1)).map (keyD O h0) = srtL O.lt ks := sorted_ext O.st _ _ hpw (srtL_pw O.st ks hnd) fun x => by rw [mem_srtL]; exact hkp2.mem_iff
    have := h h1 (sortedHeap (h1.push (seqObj "list" vs.toArray 0)) h1.objs.size vs (xs.map (·.2))) tk1 h1.objs.size (xs.map (·.2)).toList n' kp1 (fun b o e => ?_) (Nat.le_refl _) (by rw [Array.toArray_toList]; exact hout) (fun v hv => ?_) (by rw [eo]; exact hfin) htk1
    · exact wpAny_pure ⟨_, rfl, this⟩
    · have hb := Heap.lt_size e
      rw [sortedHeap_old (Nat.ne_of_lt hb) (by rw [size_push']; exact Nat.lt_succ_of_lt hb)]
      exact Heap.get?_push_of_some _ e
    · rw [eo] at hv
      obtain ⟨p, hp', rfl⟩ := List.mem_map.mp hv
      obtain ⟨k, hk, _⟩ := hall p.1 (hm p hp').2
      rw [keyD_of O hk]; exact hk
end
end DD
set_option Elab.async false
set_option linter.all false
set_option maxRecDepth 100000
namespace DD
open PySem PySem.Spec PyProof.Rows L2
section
variable {prog : Program} {w : World}
noncomputable def ekTupP (prog : Program) (w : World) (P : List Int → Value → Prop) : EK prog w where
  α := List Int
  dec := inferInstance
  is := fun h k v => TK prog w h k v ∧ P k v
  hash := tupleKeyHash (intKind prog w)
  sc := false
  keep := fun x kb => ⟨(ekTup prog w).keep x.1 kb, x.2⟩
  pyHash := fun hu x h => (ekTup prog w).pyHash hu x.1 h
  eqBool := fun hu x y h => (ekTup prog w).eqBool hu x.1 y.1 h
  byVal := fun x h => (ekTup prog w).byVal x.1 h
  same := fun e x h => (ekTup prog w).same e x.1 h
  seen := fun e x hs h => (ekTup prog w).seen e x.1 (fun u hu => let ⟨k', hk⟩ := hs u hu; ⟨k', hk.1⟩) h
  scan := fun x => (ekTup prog w).scan x.1
  nstr := fun x => (ekTup prog w).nstr x.1
noncomputable def eoTupP (prog : Program) (w : World) (P : List Int → Value → Prop) : EO (ekTupP prog w P) where
  lt := lexLt
  st := strictL
  uniq := fun x y => (eoTup prog w).uniq x.1 y.1
  good := fun k => (k : List Int) ≠ []
  kd := tuples' true
  dflt := ([] : List Int)
  lts := fun hu x y h => (eoTup prog w).lts hu x.1 y.1 h
  kind := fun h2 hv h => (eoTup prog w).kind h2 (fun v hm => let ⟨k, hk, hg⟩ := hv v hm; ⟨k, hk.1, hg⟩) h
end
section
variable {X : Cx}
theorem out_vals {α : Type} {K : PySem.W.Frag} {G : Hp} (pv : α → PV) (hpv : ∀ k, isDict (pv k) = false) (key : Value → α) : ∀ (out : List Value), (∀ v ∈ out, ∃ u, RelV u v ∧ Rp K G (pv (key v)) u) → ∃ outV, Vals outV out ∧ RpL K G ((out.map key).map pv) outV
  | [], _ => ⟨[], .nil, .nil⟩
  | v :: out, h => by
    obtain ⟨u, h1, h2⟩ := h v List.mem_cons_self
    obtain ⟨us, r1, r2⟩ := out_vals pv hpv key out fun x hx => h x (List.mem_cons_of_mem _ hx)
    exact ⟨u :: us, .cons h1 r1, .cons (hpv _) h2 r2⟩
theorem sset_run {K : EK X.prog X.w} (O : EO K) (pv : K.α → PV) (hpv : ∀ k, isDict (pv k) = false) {pins : List (Addr × Obj)} {σ : St} {G H : Hp} {s : Shared} {a : Addr} {vs : List V} {kl : List K.α} {Q : VK} (I : Inv X pins σ H s) (sb : Sub G H)
    (hT : SqT X.K G a vs) (hR : RpL X.K G (kl.map pv) vs) (hK : ∀ u v k, Rp X.K G (pv k) u → RelV u v → K.is s.heap k v) (hB : ∀ k v, K.is s.heap k v → ∃ u, RelV u v ∧ Rp X.K G (pv k) u) (hgood : ∀ k ∈ kl, O.good k) (hlen : ∀ l : List K.α, l.Nodup → (∀ k ∈ l, k ∈ kl) → l.length < 64)
    (hh : X.A.handled = none) (hu : X.A.units + 190 < cLine) (hQ : ∀ v G' H', Ext G H G' H' → Rp X.K G' (.list ((srtL O.lt (kl.foldl (addK K) [])).map pv)) v → Q v H') :
    wpAny (model X.prog X.w) X.A (call (.type "set") [.ref a]) (fun u s1 => wpAny (model X.prog X.w) X.A (call (.builtin "sorted") [u]) (EP X pins σ Q) X.xe s1) X.xe s := by
  obtain ⟨its, r, pl, hz⟩ := I.tuple (sb.sqT hT)
  have hvl : vs.length = its.length := r.length
  have hkl : kl.length = vs.length := by have := hR.length; simpa using this
  have hfold : ∀ l : List K.α, (∀ k ∈ l, k ∈ kl) → (l.foldl (addK K) []).length < 64 := fun l hl =>
    hlen _ (fold_nodup l [] List.nodup_nil) fun k hk => by
      rcases (fold_mem l [] k).mp hk with c | c
      · cases c
      · exact hl k c
  refine call_set_tuple (K := K) (kl := kl) hh (by lia) (items := its.toArray) pl (by rw [hkl, hvl]; simp) (fun i v k hv hk => ?_) (fun i => hfold _ fun k hk => List.mem_of_mem_take hk) fun h1 tk1 hS kp1 ht1 => ?_
  · have hv' : its[i]? = some v := by simpa using hv
    obtain ⟨u, e1, _, e2⟩ := hR.get (i := i) (p := pv k) (by rw [List.getElem?_map, hk]; rfl)
    obtain ⟨v2, e3, e4⟩ := Vals.get r e1
    rw [hv'] at e3; cases e3
    exact hK u v k e2 e4
  · refine sorted_set O (h0 := s.heap) (ks := kl.foldl (addK K) []) hh (by lia) kp1 hS (fold_nodup kl [] List.nodup_nil) (hfold kl fun _ hk => hk) (fun k hk => hgood k ?_) fun h2 h3 tk2 L out n kp2 kp3 hL hget his hkeys ht2 => ?_
    · rcases (fold_mem kl [] k).mp hk with c | c
      · cases c
      · exact c
    · obtain ⟨outV, ov1, ov2⟩ := out_vals (K := X.K) (G := G) pv hpv (keyD O s.heap) out fun v hv => hB _ v (his v hv)
      have I2 : Inv X pins σ H { s with heap := h2, toks := tk1 } := I.kept fun b u e => kp2 b u (kp1 b u e)
      have hf : H L = none := I2.hok.fresh hL
      have hlo : outV.length ≤ sizeLine := by
        have e1 : (out.map (keyD O s.heap)).length = outV.length := by rw [List.length_map, ov1.length]
        have : (srtL O.lt (kl.foldl (addK K) [])).length < 64 := hlen _ (by
            have := srtL_pw O.st (kl.foldl (addK K) []) (fold_nodup kl [] List.nodup_nil)
            exact this.imp fun {a b} hab hc => by subst hc; rw [O.st.irr] at hab; cases hab) fun k hk => by
          rw [mem_srtL] at hk
          rcases (fold_mem kl [] k).mp hk with c | c
          · cases c
          · exact c
        rw [← e1, hkeys, sizeLine_eq]; lia
      have I3 := I2.laid (t' := tk2) (o := .lst outV) (h' := h3) kp3 hL ⟨hlo, out, n, ov1, hget⟩
      have x1 := Ext.new sb hf (.lst outV)
      refine ⟨.ref L, _, I3, rfl, hQ _ _ _ x1 ⟨L, outV, rfl, SqL.of upd_same, ?_⟩⟩
      rw [hkeys] at ov2
      exact ov2.mono x1.gg
theorem ints_inv : ∀ {ps : List PV} {ns : List Int}, intsOf ps = some ns → ps = ns.map PyData.int
  | [], ns, e => by cases (show some [] = some ns from e); rfl
  | p :: ps, ns, e => by
    cases p with
    | int i =>
      obtain ⟨q, e1, e2⟩ := bnd_eq.mp (show bnd (intsOf ps) (fun q => some (i :: q)) = some ns from e)
      cases e2
      rw [ints_inv e1]; rfl
    | _ => simp [intsOf] at e
theorem tups_inv : ∀ {ps : List PV} {ns : List (List Int)}, tupsOf ps = some ns → ps = ns.map fun t => PyData.tuple (t.map PyData.int)
  | [], ns, e => by cases (show some [] = some ns from e); rfl
  | p :: ps, ns, e => by
    cases p with
    | tuple xs =>
      obtain ⟨x, e1, e⟩ := bnd_eq.mp (show bnd (intsOf xs) (fun x => bnd (tupsOf ps) fun q => some (x :: q)) = some ns from e)
      obtain ⟨q, e2, e3⟩ := bnd_eq.mp e
      cases e3
      rw [tups_inv e2, ints_inv e1]; rfl
    | _ => simp [tupsOf] at e
theorem items_of_vals {prog : Program} {w : World} : ∀ {ns : List Int} {its : List Value}, Vals (ns.map V.int) its → ItemsAre (intKind prog w) ns its
  | [], its, r => by cases r; exact .nil
  | n :: ns, its, r => by
    cases r with
    | cons h r =>
      obtain ⟨t, rfl⟩ := (show ∃ t, _ = Value.int n t from h)
      exact .cons (intKind_is _ _ _ _) (items_of_vals r)
theorem rpl_ints {K : PySem.W.Frag} {G : Hp} : ∀ {ns : List Int} {vs : List V}, RpL K G (ns.map PyData.int) vs → vs = ns.map V.int
  | [], vs, h => h
  | n :: ns, vs, h => by
    obtain ⟨v, r, rfl, ⟨_, h1⟩, h2⟩ := (show ∃ v r, vs = v :: r ∧ (isDict (PyData.int n) = false ∧ Rp K G (.int n) v) ∧ RpL K G (ns.map PyData.int) r from h)
    cases (show v = .int n from h1)
    rw [rpl_ints h2]; rfl
theorem s_sset (hh : X.A.handled = none) (hu : X.A.units + 190 < cLine) {pins : List (Addr × Obj)} {σ : St} {H : Hp} {s : Shared} {x : V} {us : List Value} {Q : VK} (I : Inv X pins σ H s) (r : Vals [x] us) (h : rOp1 X.K .sset x H Q) :
    wpAny (model X.prog X.w) X.A (call (.type "set") us) (fun u s1 => wpAny (model X.prog X.w) X.A (call (.builtin "sorted") [u]) (EP X pins σ Q) X.xe s1) X.xe s := by
  obtain ⟨G, p, q, sb, hp, e, k⟩ := h
  obtain ⟨u, rfl, ru⟩ := vals1 r
  cases p with
  | tuple ps =>
    obtain ⟨a, vs, rfl, q1, r1⟩ := (show ∃ a vs, x = V.ref a ∧ SqT X.K G a vs ∧ RpL X.K G ps vs from hp)
    cases (show u = .ref a from ru)
    have e' : ssF ps = some q := e
    have hInts : ∀ ns : List Int, ps = ns.map PyData.int → (dup ns).length < 64 → q = .list ((srtL ltI (dup ns)).map PyData.int) → wpAny (model X.prog X.w) X.A (call (.type "set") [.ref a]) (fun u s1 => wpAny (model X.prog X.w) X.A (call (.builtin "sorted") [u]) (EP X pins σ Q) X.xe s1) X.xe s := fun ns e1 hd e2 => by
      subst e1 e2
      have hs : srtL ltI (ns.foldl (addK (ekInt X.prog X.w)) []) = srtL ltI (dup ns) := sorted_ext strictI _ _ (srtL_pw strictI _ (fold_nodup (K := ekInt X.prog X.w) ns [] List.nodup_nil)) (srtL_pw strictI _ (nodup_dup ns)) fun z => by
        rw [mem_srtL, mem_srtL, mem_dup]
        exact (fold_mem (K := ekInt X.prog X.w) ns [] z).trans ⟨fun c => c.elim (fun d => absurd d List.not_mem_nil) id, .inr⟩
      refine sset_run (eoInt X.prog X.w) (fun i => PyData.int i) (fun _ => rfl) I sb q1 (kl := ns) r1 (fun u v i hu hv => ?_) (fun u v hv => ?_) (fun _ _ => trivial) (fun l hn hl => ?_) hh hu fun v G' H' x1 x2 => k v G' H' x1 ?_
      · cases (show u = .int i from hu)
        obtain ⟨t, rfl⟩ := (show ∃ t, v = Value.int i t from hv)
        exact intKind_is _ _ _ _
      · have hv' : (intKind X.prog X.w).is u v = true := hv
        cases v <;> simp [intKind, Value.isInt] at hv'
        have e1 := eq_of_beq (α := Int) hv'
        subst e1
        exact ⟨.int _, ⟨_, rfl⟩, rfl⟩
      · exact Nat.lt_of_le_of_lt (len_le_of_sub (α := Int) l (dup ns) hn fun z hz => (mem_dup ns).mpr (hl z hz)) hd
      · rw [show (eoInt X.prog X.w).lt = ltI from rfl] at x2
        rw [← hs]; exact x2
    have hTups : ∀ ns : List (List Int), ps = ns.map (fun t => PyData.tuple (t.map PyData.int)) → (dup ns).length < 64 → (∀ n ∈ ns, n ≠ []) → q = .list ((srtL lexLt (dup ns)).map fun t => PyData.tuple (t.map PyData.int)) →
        wpAny (model X.prog X.w) X.A (call (.type "set") [.ref a]) (fun u s1 => wpAny (model X.prog X.w) X.A (call (.builtin "sorted") [u]) (EP X pins σ Q) X.xe s1) X.xe s := fun ns e1 hd hne e2 => by
      subst e1 e2
      let P : List Int → Value → Prop := fun k v => ∃ u, RelV u v ∧ Rp X.K G (PyData.tuple (k.map PyData.int)) u
      have hs : srtL lexLt (ns.foldl (addK (ekTupP X.prog X.w P)) []) = srtL lexLt (dup ns) := sorted_ext strictL _ _ (srtL_pw strictL _ (fold_nodup (K := ekTupP X.prog X.w P) ns [] List.nodup_nil)) (srtL_pw strictL _ (nodup_dup ns)) fun z => by
        rw [mem_srtL, mem_srtL, mem_dup]
        exact (fold_mem (K := ekTupP X.prog X.w P) ns [] z).trans ⟨fun c => c.elim (fun d => absurd d List.not_mem_nil) id, .inr⟩
      refine sset_run (eoTupP X.prog X.w P) (fun t => PyData.tuple (t.map PyData.int)) (fun _ => rfl) I sb q1 (kl := ns) r1 (fun u v i hu hv => ⟨?_, u, hv, hu⟩) (fun u v hv => hv.2) (fun n hn => hne n hn) (fun l hn hl => ?_) hh hu fun v G' H' x1 x2 => k v G' H' x1 ?_
      · obtain ⟨b, ws, rfl, q2, r2⟩ := (show ∃ a vs, u = V.ref a ∧ SqT X.K G a vs ∧ RpL X.K G (i.map PyData.int) vs from hu)
        cases (show v = Value.ref b from hv)
        cases rpl_ints r2
        obtain ⟨its, r3, pl, _⟩ := I.tuple (sb.sqT q2)
        obtain ⟨o, ho, hc, n, hd⟩ := pl
        exact ⟨b, rfl, o, its.toArray, n, ho, hc, hd, items_of_vals r3⟩
      · exact Nat.lt_of_le_of_lt (len_le_of_sub (α := List Int) l (dup ns) hn fun z hz => (mem_dup ns).mpr (hl z hz)) hd
      · rw [show (eoTupP X.prog X.w P).lt = lexLt from rfl] at x2
        rw [← hs]; exact x2
    cases ps with
    | nil => exact hInts [] rfl (by decide) (Option.some.inj (show some (PyData.list []) = some q from e')).symm
    | cons p ps =>
      cases p with
      | int i =>
        obtain ⟨ns, e1, e2⟩ := bnd_eq.mp (show bnd (intsOf (.int i :: ps)) (fun ns => tst (decide ((dup ns).length < 64)) (some (PyData.list (intsPv (srtL ltI (dup ns))))) none) = some q from e')
        obtain ⟨t1, t2⟩ := tst_some e2
        exact hInts ns (ints_inv e1) (of_decide_eq_true t1) (Option.some.inj t2).symm
      | tuple t =>
        obtain ⟨ns, e1, e2⟩ := bnd_eq.mp (show bnd (tupsOf (.tuple t :: ps)) (fun ns => tst (decide ((dup ns).length < 64) && ns.all fun n => !n.isEmpty) (some (PyData.list (tupsPv (srtL lexLt (dup ns))))) none) = some q from e')
        obtain ⟨t1, t2⟩ := tst_some e2
        rw [Bool.and_eq_true] at t1
        refine hTups ns (tups_inv e1) (of_decide_eq_true t1.1) (fun n hn c => ?_) (Option.some.inj t2).symm
        have := List.all_eq_true.mp t1.2 n hn
        rw [c] at this; cases this
      | _ => cases e'
  | _ => cases e
end
section
variable {X : Cx} {cf : CF}
theorem snd_sset (hcm : X.calm = true) (hu : X.A.units + 190 < cLine) {ia : E} {a : Expr} {p p2 pos pos2 : Pos} (hg1 : Gl X "sorted") (hm1 : X.mg "sorted" = none) (hg2 : Gl X "set") (hm2 : X.mg "set" = none) (ha : PE X a (tE cf X.K ia)) (hs : plainE a = true) :
    Snd X cf (.op1 .sset ia) (.Call (.Name "sorted" p) [.Call (.Name "set" p2) [a] [] pos2] [] pos) := by
  refine .plain (fun pins s σ H Q I h => ?_) (fun _ => rfl)
  have hh : X.A.handled = none := I.ok.hd hcm
  refine wpAny_Call_Name_kw (ld_blt I hg1 hm1 boot_sorted ?_ (by decide) (by decide))
  refine callWith_builtin1 ?_ rfl rfl
  show wpAny _ _ (spliced ((false, eval (.Call (.Name "set" p2) [a] [] pos2) X.env) :: backTo pos (starEach [] X.env))) _ _ s
  refine Calls.spliced_cons ?_
  refine wpAny_Call_Name_kw (ld_blt I hg2 hm2 boot_set ?_ (by decide) (by decide))
  refine callWith_type1 (thn ((pa_cons ha pa_nil (star_of hs _ _)) pos2 pins s σ H (fun vs H1 => ∃ v, vs = [v] ∧ rOp1 X.K .sset v H1 Q) I (tE_mono (op1_w σ H Q h) fun v H' q => ⟨v, rfl, q⟩)) fun us s1 ⟨vs, H1, I1, r1, v, e1, q1⟩ => ?_) (star_of hs _ _) rfl
  subst e1
  refine thn (s_sset hh hu I1 r1 q1) fun u s2 h2 => ?_
  show wpAny _ _ (spliced []) _ _ s2
  rw [spliced]
  exact wpAny_pure h2
end
end DD
set_option Elab.async false
set_option linter.all false
set_option maxRecDepth 100000
namespace DD
open PySem PySem.Spec PyProof.Rows L2
mutual
noncomputable def pvB : PV → PV → Bool
  | .none, .none => true
  | .bool a, .bool b => a == b
  | .int a, .int b => a == b
  | .str a, .str b => a == b
  | .list a, .list b => pvsB a b
  | .tuple a, .tuple b => pvsB a b
  | _, _ => false
noncomputable def pvsB : List PV → List PV → Bool
  | [], [] => true
  | x :: xs, y :: ys => pvB x y && pvsB xs ys
  | _, _ => false
end
mutual
theorem pvB_eq : ∀ {p q : PV}, pvB p q = true → p = q
  | .none, q, h => by
    cases q with
    | none => rfl
    | _ => exact nomatch (show false = true from h)
  | .bool a, q, h => by
    cases q with
    | bool b => rw [eq_of_beq (show (a == b) = true from h)]
    | _ => exact nomatch (show false = true from h)
  | .int a, q, h => by
    cases q with
    | int b => rw [eq_of_beq (show (a == b) = true from h)]
    | _ => exact nomatch (show false = true from h)
  | .str a, q, h => by
    cases q with
    | str b => rw [eq_of_beq (show (a == b) = true from h)]
    | _ => exact nomatch (show false = true from h)
  | .list a, q, h => by
    cases q with
    | list b => rw [pvsB_eq (show pvsB a b = true from h)]
    | _ => exact nomatch (show false = true from h)
  | .tuple a, q, h => by
    cases q with
    | tuple b => rw [pvsB_eq (show pvsB a b = true from h)]
    | _ => exact nomatch (show false = true from h)
  | .dict a, q, h => by cases q <;> exact nomatch (show false = true from h)
theorem pvsB_eq : ∀ {p q : List PV}, pvsB p q = true → p = q
  | [], q, h => by
    cases q with
    | nil => rfl
    | cons _ _ => exact nomatch (show false = true from h)
  | x :: xs, q, h => by
    cases q with
    | nil => exact nomatch (show false = true from h)
    | cons y ys =>
      obtain ⟨h1, h2⟩ := (Bool.and_eq_true _ _).mp (show (pvB x y && pvsB xs ys) = true from h)
      rw [pvB_eq h1, pvsB_eq h2]
end
structure Info where
  fns : List (Str × Nat × Nat)
  consts : List (Str × PV)
  blts : List Str
  dcts : List (Str × List (PV × PV)) := []
noncomputable def TopD (X : Cx) (x : Str) (kvs : List (PV × PV)) : Prop := ∃ a l vs, X.mg x = some (.ref a) ∧ (∀ G, RpD X.K G kvs l) ∧ KV l vs ∧ ∀ h : Heap, X.K.In h → h.DictOf (mixKind X.prog X.w) a vs
structure Good (X : Cx) (k : Nat) (cf : CF) (Gam : Info) : Prop where
  calm : X.calm = true
  xe : X.xe = fun _ _ => False
  room : Room k X.A
  fns : ∀ x id n, (x, id, n) ∈ Gam.fns → ∃ fa fd ps, ps.length = n ∧ X.mg x = some (.ref fa) ∧ PySem.W.keepIn X.K (.ref fa) = true ∧ L2.Binds X.K fd ps [] ∧ FnOk X.prog X.w X.K X.mg X.base CX0 k fa fd ps (spD X.K ps.length (cf id))
  consts : ∀ x p, (x, p) ∈ Gam.consts → ∃ u v, X.mg x = some u ∧ RelV v u ∧ ∀ G, Rp X.K G p v
  blts : ∀ x ∈ Gam.blts, X.mg x = none
  dcts : ∀ x kvs, (x, kvs) ∈ Gam.dcts → TopD X x kvs
noncomputable abbrev Nms := List (Str × NameKind)
noncomputable def okN (x : Str) : Bool := !(x == ("__debug__" : Str)) && !(x == ("__classdict__" : Str)) && !(x == ("__name__" : Str))
noncomputable def visB (nm : Nms) (x : Str) : Bool := nm.lookup x == some .local || nm.lookup x == some .cell || nm.lookup x == some .free
noncomputable def glB (nm : Nms) (x : Str) : Bool := nm.lookup x == some .globalImplicit && okN x
noncomputable def bltB (Gam : Info) (nm : Nms) (x y : Str) : Bool := x == y && glB nm x && Gam.blts.contains x
theorem okN_of {x : Str} (h : okN x = true) : (x == ("__debug__" : Str)) = false ∧ (x == ("__classdict__" : Str)) = false ∧ x ≠ "__name__" := by
  unfold okN at h
  simp only [Bool.and_eq_true, Bool.not_eq_true'] at h
  exact ⟨h.1.1, h.1.2, by simpa using h.2⟩
theorem visB_of {sc : Scope} {x : Str} (h : visB sc.names x = true) : Vis sc x := by
  unfold visB at h
  simp only [Bool.or_eq_true, beq_iff_eq] at h
  rcases h with (h | h) | h
  · exact .inl h
  · exact .inr (.inl h)
  · exact .inr (.inr h)
noncomputable def conB (p : PV) : Const → Bool
  | .none => pvB p .none
  | .bool b => pvB p (.bool b)
  | .int i => pvB p (.int i)
  | .str x => pvB p (.str x) && PyData.strOk x && decide (x.length ≤ 16777216)
  | _ => false
noncomputable def binO : Op2 → Option Operator
  | .add => some .Add
  | .sub => some .Sub
  | .fdiv => some .FloorDiv
  | .mod => some .Mod
  | .mul => some .Mult
  | .pow => some .Pow
  | _ => none
noncomputable def binB (o : Op2) (op : Operator) : Bool := decide (binO o = some op)
noncomputable def cmpO : Op2 → Option CmpOp
  | .eq => some .Eq
  | .ne => some .NotEq
  | .lt => some .Lt
  | .le => some .LtE
  | .gt => some .Gt
  | .inn => some .In
  | .nin => some .NotIn
  | _ => none
noncomputable def cmpB (o : Op2) (op : CmpOp) : Bool := decide (cmpO o = some op)
noncomputable def kindT : Op1 → Option String
  | .isTup => some "tuple"
  | .isInt => some "int"
  | .isBool => some "bool"
  | .isStr => some "str"
  | _ => none
noncomputable def bltFn : Op1 → Option Str
  | .len => some "len"
  | .toTuple => some "tuple"
  | .toList => some "list"
  | .toInt => some "int"
  | .toStr => some "str"
  | .all => some "all"
  | _ => none
section
variable {X : Cx}
theorem ints_rel {K : PySem.W.Frag} {G : Hp} : ∀ {ps : List PV} {vs : List V} {ns : List Int}, RpL K G ps vs → intsOf ps = some ns → vs = ns.map V.int
  | [], _, _, h, e => by
    cases (show _ = [] from h)
    cases (show some [] = some _ from e)
    rfl
  | p :: ps, _, ns, h, e => by
    obtain ⟨v, w, rfl, ⟨_, h1⟩, h2⟩ := (show ∃ v r, _ = v :: r ∧ (isDict p = false ∧ Rp K G p v) ∧ RpL K G ps r from h)
    cases p with
    | int i =>
      obtain ⟨q, e1, e2⟩ := bnd_eq.mp (show bnd (intsOf ps) (fun q => some (i :: q)) = some ns from e)
      cases e2
      cases (show v = .int i from h1)
      rw [ints_rel h2 e1]; rfl
    | _ => exact nomatch (show none = some _ from e)
theorem lexLt_eq : ∀ (a b : List Int), DD.lexLt a b = HT.lexLt a b
  | [], [] => rfl
  | [], _ :: _ => rfl
  | _ :: _, [] => rfl
  | x :: xs, y :: ys => by
    rw [HT.lexLt_cons, DD.lexLt, lexLt_eq xs ys]
theorem s_lt (hu : X.A.units + 190 < cLine) : OpR X (compareOp .Lt) (rOp2 X.K .lt) := by
  intro pins s σ H x y v u Q I rx ry h
  obtain ⟨G, p, q, r, sb, hp, hq, e, k⟩ := h
  cases p with
  | int i =>
    cases q with
    | int j =>
      cases (show some (PyData.bool (decide (i < j))) = some r from e)
      cases (show x = .int i from hp); cases (show y = .int j from hq)
      exact op_lt pins s σ H _ _ v u Q I rx ry ⟨i, j, rfl, rfl, k _ G H (.refl sb) rfl⟩
    | _ => exact nomatch (show none = some _ from e)
  | tuple xs =>
    cases q with
    | tuple ys =>
      obtain ⟨ns, e1, e⟩ := bnd_eq.mp (show bnd (intsOf xs) (fun ns => bnd (intsOf ys) fun ms => some (PyData.bool (DD.lexLt ns ms))) = some r from e)
      obtain ⟨ms, e2, e⟩ := bnd_eq.mp e
      cases e
      obtain ⟨a, vs, rfl, q1, r1⟩ := (show ∃ a vs, x = V.ref a ∧ SqT X.K G a vs ∧ RpL X.K G xs vs from hp)
      obtain ⟨b, ws, rfl, q2, r2⟩ := (show ∃ a vs, y = V.ref a ∧ SqT X.K G a vs ∧ RpL X.K G ys vs from hq)
      have h1 := ints_rel r1 e1
      have h2 := ints_rel r2 e2
      subst h1 h2
      refine op_ltT (by lia) pins s σ H _ _ v u Q I rx ry ⟨a, b, ns, ms, rfl, rfl, sb.sqT q1, sb.sqT q2, k _ G H (.refl sb) ?_⟩
      rw [lexLt_eq]; rfl
    | _ => exact nomatch (show none = some _ from e)
  | _ => cases q <;> exact nomatch (show none = some _ from e)
theorem s_neg : UnR X (unaryOp .USub) (rOp1 X.K .neg) := by
  intro pins s σ H x v Q I rx h
  obtain ⟨G, p, r, sb, hp, e, k⟩ := h
  cases p with
  | int i =>
    cases (show some (PyData.int (-i)) = some r from e)
    cases (show x = .int i from hp)
    exact un_neg pins s σ H _ v Q I rx ⟨i, rfl, k _ G H (.refl sb) rfl⟩
  | _ => exact nomatch (show none = some _ from e)
end
section
variable {X : Cx} {cf : CF}
theorem snd_neg {ia : E} {a : Expr} {pos : Pos} (ha : PE X a (tE cf X.K ia)) : Snd X cf (.op1 .neg ia) (.UnaryOp .USub a pos) :=
  .plain ((pe_un s_neg ha).weak fun σ H Q h => op1_w σ H Q h) (fun _ => rfl)
end
section
variable (Gam : Info) (N : List Str) (nm : Nms) (f : E → Expr → Bool)
noncomputable def chkA : E → List Expr → Bool
  | .nil, [] => true
  | .cons h t, e :: es => !isPeek h && plainE e && f h e && chkA t es
  | _, _ => false
noncomputable def chkB (op : BoolOp) : E → List Expr → Bool
  | ie, [e] => f ie e
  | .and a b, e :: e2 :: r => op == .And && !isPeek a && !isPeek b && f a e && chkB op b (e2 :: r)
  | .or a b, e :: e2 :: r => op == .Or && !isPeek a && !isPeek b && f a e && chkB op b (e2 :: r)
  | _, _ => false
noncomputable def chkVar (i : Nat) (e : Expr) : Bool := onName e fun x _ => N[i]? == some x && visB nm x && okN x
noncomputable def chkCon (p : PV) (e : Expr) : Bool := onConst e (fun c _ _ => conB p c) || onName e (fun x _ => glB nm x && Gam.consts.any fun c => c.1 == x && pvB c.2 p)
noncomputable def chkTup (a : E) (e : Expr) : Bool := onTup e fun es _ _ => chkA f a es && (argN a).any (· ≤ 1000)
noncomputable def chkLst (a : E) (e : Expr) : Bool := onList e fun es _ => chkA f a es && (argN a).any (· ≤ 1000)
noncomputable def chkSset (x : Str) (a : E) (e : Expr) : Bool := onCall e fun g as _ => onName g fun y _ => on1 as fun z => bltB Gam nm x "sorted" && bltB Gam nm y "set" && plainE z && f a z
noncomputable def chkOnea (o : Op1) (a : E) (e : Expr) : Bool := onCall e fun g as _ => onName g fun x _ => on1 as fun y => if o == .sset then chkSset Gam nm f x a y else (bltFn o).any (fun z => bltB Gam nm x z) && plainE y && f a y
noncomputable def chkOneb (o : Op1) (a : E) (e : Expr) : Bool := onCall e fun g as _ => onName g fun x _ => on2 as fun y u => onName u fun t _ => bltB Gam nm x "isinstance" && (kindT o).any (fun z => bltB Gam nm t z) && plainE y && f a y
noncomputable def chkOnec (o : Op1) (a : E) (e : Expr) : Bool := onUn e fun u y _ => isUSub u && o == .neg && f a y
noncomputable def chkOned (o : Op1) (a : E) (e : Expr) : Bool := onSub e fun y sl _ => onSlice sl fun l h st _ => l.isNone && h.isNone && onSo st fun z => onUn z fun u c _ => isUSub u && onConst c fun cc _ _ => onInt cc fun i => o == .rev && i == 1 && f a y
noncomputable def chkOnee (o : Op1) (a : E) (e : Expr) : Bool := false && (onCmp e fun y os cs _ => on1 os fun op => on1 cs fun c => onConst c fun cc _ _ => isNonC cc && decide (op = .Is) && o == .isN && f a y)
noncomputable def chkOnef (o : Op1) (a : E) (e : Expr) : Bool := false && (onCmp e fun y os cs _ => on1 os fun op => on1 cs fun c => onConst c fun cc _ _ => isNonC cc && decide (op = .IsNot) && o == .notN && f a y)
noncomputable def chkOp1 (o : Op1) (a : E) (e : Expr) : Bool := chkOnea Gam nm f o a e || chkOneb Gam nm f o a e || chkOnec f o a e || chkOned f o a e || chkOnee f o a e || chkOnef f o a e
noncomputable def chkTwoa (o : Op2) (a b : E) (e : Expr) : Bool := onBin e fun x op y _ => binB o op && f a x && f b y
noncomputable def chkTwob (o : Op2) (a b : E) (e : Expr) : Bool := onCmp e fun x os ys _ => on1 os fun op => on1 ys fun y => cmpB o op && !behindInMarks op y && f a x && f b y
noncomputable def chkTwoc (o : Op2) (a b : E) (e : Expr) : Bool := onSub e fun x y _ => o == .ix && ixE y && f a x && f b y
noncomputable def conE : E → Option PV
  | .con p => some p
  | _ => none
noncomputable def chkTwod (o : Op2) (a b : E) (e : Expr) : Bool := false && (onCall e fun g as pos => onAttr g fun v m apos => on1 as fun y => onConst v fun c _ _ => onStr c fun s => o == .join && m == "join" && (conE a).any (fun p => pvB p (.str s)) && PyData.strOk s && decide (s.length ≤ 16777216) && plainE y && apos.endLine == pos.line && f b y)
noncomputable def kvsB : List PV → E → List (PV × PV) → Bool
  | [], .nil, [] => true
  | k :: ks, .cons (.con p) r, kv :: kvs => pvB k kv.1 && pvB p kv.2 && kvsB ks r kvs
  | _, _, _ => false
noncomputable def dctE : E → Option (List PV × E)
  | .dct ks vs => some (ks, vs)
  | _ => none
noncomputable def chkTwoe (o : Op2) (a b : E) (e : Expr) : Bool := false && (onSub e fun v y _ => onName v fun x _ => o == .ix && ixE y && glB nm x && (dctE a).any (fun kv => Gam.dcts.any fun d => d.1 == x && kvsB kv.1 kv.2 d.2) && f b y)
noncomputable def chkOp2 (o : Op2) (a b : E) (e : Expr) : Bool := chkTwoa f o a b e || chkTwob f o a b e || chkTwoc f o a b e || chkTwod f o a b e || chkTwoe Gam nm f o a b e
noncomputable def chkP : E → Option Expr → Bool
  | ie, some e => !isPeek ie && f ie e
  | .con .none, none => true
  | _, none => false
noncomputable def chkSl (a lo hi : E) (e : Expr) : Bool := onSub e fun x sl _ => onSlice sl fun l h st _ => st.isNone && f a x && chkP f lo l && chkP f hi h
noncomputable def chkCall (id : Nat) (a : E) (e : Expr) : Bool := onCall e fun g as _ => onName g fun x _ => onCons as fun y ys => glB nm x && plainE y && ys.all plainE && chkA f a (y :: ys) && Gam.fns.any fun r => r.1 == x && r.2.1 == id && argN a == some r.2.2
noncomputable def chkAnd (a b : E) (e : Expr) : Bool := onBool e fun o xs _ => o == .And && chkB f .And (.and a b) xs
noncomputable def chkOr (a b : E) (e : Expr) : Bool := onBool e fun o xs _ => o == .Or && chkB f .Or (.or a b) xs
noncomputable def chkNot (a : E) (e : Expr) : Bool := onUn e fun u x _ => isNotU u && f a x
noncomputable def chkIte (c a b : E) (e : Expr) : Bool := false && (onIfE e fun t x y _ => f c t && f a x && f b y && !isPeek a && !isPeek b)
noncomputable def chkChain (o o' : Op2) (a b c : E) (e : Expr) : Bool := onCmp e fun x os ys _ => on2 os fun op op' => on2 ys fun y z => cmpB o op && cmpB o' op' && !lastMarks [op, op'] [y, z] && f a x && f b y && f c z
noncomputable def chkDct (ks : List PV) (a : E) (e : Expr) : Bool := onDict e fun es vs _ => chkD f ks a es vs && decide (ks.map keyOf).Nodup && !ks.isEmpty && decide (ks.length ≤ 15)
noncomputable def plainObj : Expr → Bool
  | .Dict .. => true
  | .Name .. => true
  | _ => false
noncomputable def chkDgt (a k d : E) (e : Expr) : Bool := onCall e fun g as pos => onAttr g fun o m apos => on2 as fun e1 e2 => m == "get" && plainObj o && plainE e1 && plainE e2 && apos.endLine == pos.line && !isPeek d && f a o && f k e1 && f d e2
noncomputable def chkLrep (a n : E) (e : Expr) : Bool := false && (onBin e fun l op e2 _ => onList l fun es _ => decide (op = .Mult) && chkA f a es && (argN a).any (· ≤ 1000) && !isPeek n && f n e2)
noncomputable def notSet : Expr → Bool
  | .Set .. => false
  | _ => true
noncomputable def rngE : E → Option E
  | .rng a => some a
  | _ => none
noncomputable def enmE : E → Option E
  | .op1 o a => if o == .enum then some a else none
  | _ => none
noncomputable def chkIa (ie : E) (e : Expr) : Bool := onSo (rngE ie) fun a => onCall e fun g as _ => onName g fun x _ => on1 as fun y => bltB Gam nm x "range" && !isPeek a && plainE y && f a y
noncomputable def chkIb (tgt : Expr) (ie : E) (e : Expr) : Bool := false && (onSo (enmE ie) fun a => onCall e fun g as _ => onName g fun x _ => on1 as fun y => onTup tgt (fun _ _ _ => true) && bltB Gam nm x "enumerate" && !isPeek a && plainE y && f a y)
noncomputable def chkI (tgt : Expr) (ie : E) (e : Expr) : Bool := chkIa Gam nm f ie e || chkIb Gam nm f tgt ie e || (!isPeek ie && notSet e && f ie e)
noncomputable def relB (nm : Nms) (names : Nms) : Nms := names.map fun (n, k) => if (k == .free && nm.lookup n == some .cell) then (n, NameKind.cell) else (n, k)
noncomputable def tgNames : Option Nat → Expr → Option (List Str)
  | none, .Name x _ => some [x]
  | some n, .Tuple es _ _ => if es.length = n then (es.mapM fun e => match e with | .Name x _ => some x | _ => none) else none
  | _, _ => none
noncomputable def scopeB (own : List Str) (caps : List Nat) (scope : Scope) : Bool :=
  scope.kind == .function && scope.names.all (fun x => x.2 != .cell) && scope.names.all (fun x => x.2 != .local || scope.names.lookup x.1 == some .local) &&
  scope.names.all (fun x => x.2 != .free || nm.lookup x.1 == some .cell || nm.lookup x.1 == some .free) &&
  caps.all (fun j => match N[j]? with | some y => visB nm y && scope.names.lookup y == some .free | none => false) && decide caps.Nodup &&
  own.all (fun x => scope.names.lookup x == some .local && okN x) && decide (own ++ caps.map fun j => N.getD j "").Nodup
noncomputable def isTrueC : E → Bool
  | .con (.bool true) => true
  | _ => false
noncomputable def chkComp (g : List Str → Nms → E → Expr → Bool) (tg : Option Nat) (caps : List Nat) (it cond elt : E) (e : Expr) : Bool := onLC e fun y gs scope _ => on1 gs fun q => onSo (tgNames tg q.target) fun own =>
    q.is_async == 0 && scopeB N nm own caps scope && notSet q.iter && chkI Gam nm f q.target it q.iter && !isPeek elt &&
      g (own ++ caps.map fun j => N.getD j "") (relB nm scope.names) elt y &&
      ((q.ifs.isEmpty && isTrueC cond) || on1 q.ifs fun c => g (own ++ caps.map fun j => N.getD j "") (relB nm scope.names) cond c)
end
noncomputable def chkE (Gam : Info) : Nat → List Str → Nms → E → Expr → Bool
  | 0, _, _, _, _ => false
  | n + 1, N, nm, ie, e => match ie with
    | .var i => chkVar N nm i e
    | .peek i => chkVar N nm i e
    | .con p => chkCon Gam nm p e
    | .nil => false
    | .cons _ _ => false
    | .tup a => chkTup (chkE Gam n N nm) a e
    | .lst a => chkLst (chkE Gam n N nm) a e
    | .op1 o a => chkOp1 Gam nm (chkE Gam n N nm) o a e
    | .op2 o a b => chkOp2 Gam nm (chkE Gam n N nm) o a b e
    | .sl a lo hi => chkSl (chkE Gam n N nm) a lo hi e
    | .call f a => chkCall Gam nm (chkE Gam n N nm) f a e
    | .and a b => chkAnd (chkE Gam n N nm) a b e
    | .or a b => chkOr (chkE Gam n N nm) a b e
    | .not a => chkNot (chkE Gam n N nm) a e
    | .ite c a b => chkIte (chkE Gam n N nm) c a b e
    | .chain o o' a b c => chkChain (chkE Gam n N nm) o o' a b c e
    | .comp tg caps it cond elt => chkComp Gam N nm (chkE Gam n N nm) (chkE Gam n) tg caps it cond elt e
    | .rng _ => false
    | .rng2 _ _ => false
    | .dct ks a => chkDct (chkE Gam n N nm) ks a e
    | .dgt a k d => chkDgt (chkE Gam n N nm) a k d e
    | .lrep a k => chkLrep (chkE Gam n N nm) a k e
    | .skey _ _ _ => false
theorem rngE_of {ie a : E} (h : rngE ie = some a) : ie = .rng a := by
  cases ie with
  | rng b => cases (show some b = some a from h); rfl
  | _ => exact nomatch (show none = some a from h)
theorem isTrueC_of {e : E} (h : isTrueC e = true) : e = .con (.bool true) := by
  cases e with
  | con p =>
    cases p with
    | bool b =>
      cases b with
      | true => rfl
      | false => exact nomatch (show false = true from h)
    | _ => exact nomatch (show false = true from h)
  | _ => exact nomatch (show false = true from h)
end DD
set_option Elab.async false
set_option linter.all false
set_option maxRecDepth 100000
set_option maxHeartbeats 1000000
namespace DD
open PySem PySem.Spec PyProof.Rows L2
section
variable {X : Cx} {cf : CF} {k : Nat} {Gam : Info} {f : E → Expr → Bool}
theorem Good.units (g : Good X k cf Gam) : X.A.units + 190 < cLine := by have := g.room.un; lia
theorem ok_var {i : Nat} {e : Expr} (h : chkVar X.N X.env.scope.names i e = true) : Snd X cf (.var i) e ∧ Snd X cf (.peek i) e := by
  refine onName_el h fun x pos h => ?_
  simp only [Bool.and_eq_true, beq_iff_eq] at h
  obtain ⟨⟨h1, h2⟩, h3⟩ := h
  obtain ⟨o1, o2, o3⟩ := okN_of h3
  exact ⟨snd_var h1 (visB_of h2) o1 o2, snd_peek h1 (visB_of h2) o1 o2⟩
theorem glB_of {x : Str} (h : glB X.env.scope.names x = true) : Gl X x ∧ (x == ("__debug__" : Str)) = false ∧ x ≠ "__name__" := by
  simp only [glB, Bool.and_eq_true, beq_iff_eq] at h
  obtain ⟨o1, o2, o3⟩ := okN_of h.2
  exact ⟨h.1, o1, o3⟩
theorem bltB_of (g : Good X k cf Gam) {x y : Str} (h : bltB Gam X.env.scope.names x y = true) : x = y ∧ Gl X x ∧ (x == ("__debug__" : Str)) = false ∧ x ≠ "__name__" ∧ X.mg x = none := by
  simp only [bltB, Bool.and_eq_true, beq_iff_eq] at h
  obtain ⟨⟨h1, h2⟩, h3⟩ := h
  obtain ⟨a, b, c⟩ := glB_of h2
  exact ⟨h1, a, b, c, g.blts x (by simpa using h3)⟩
theorem ok_con (g : Good X k cf Gam) {p : PV} {e : Expr} (h : chkCon Gam X.env.scope.names p e = true) : Snd X cf (.con p) e := by
  rcases (Bool.or_eq_true _ _).mp h with h | h
  · refine onConst_el h fun c j pos h' => ?_
    refine .plain ?_ (fun _ => rfl)
    cases c with
    | none => cases pvB_eq (show pvB p .none = true from h'); exact pe_con pe_non fun G => rfl
    | bool b => cases pvB_eq (show pvB p (.bool b) = true from h'); exact pe_con pe_bl fun G => rfl
    | int i => cases pvB_eq (show pvB p (.int i) = true from h'); exact pe_con pe_int fun G => rfl
    | str x =>
      have h' : (pvB p (.str x) && PyData.strOk x && decide (x.length ≤ 16777216)) = true := h'
      simp only [Bool.and_eq_true, decide_eq_true_eq] at h'
      cases pvB_eq h'.1.1
      exact pe_con pe_str fun G => ⟨rfl, h'.1.2, h'.2⟩
    | float b => cases h'
    | complex a b => cases h'
    | bytes b => cases h'
    | ellipsis => cases h'
  · refine onName_el h fun x pos h => ?_
    simp only [Bool.and_eq_true, List.any_eq_true, beq_iff_eq] at h
    obtain ⟨h1, c, hc, rfl, h3⟩ := h
    obtain ⟨gl, o1, o3⟩ := glB_of h1
    obtain ⟨u, v, hm, r, rp⟩ := g.consts c.1 c.2 hc
    rw [pvB_eq h3] at rp
    exact .plain (pe_con (pe_glob gl hm r o1) rp) (fun _ => rfl)
theorem isi_tuple : CallR X (.builtin "isinstance") (rIsi X.K .isTup "tuple") :=
  isi_ok (fun b e => by cases e; rfl) (fun c b e => by cases e; rfl) (fun c b e => by cases e; rfl) (fun c b e => by cases e; rfl) (fun c b e => by cases e; rfl) (fun c b e => by cases e; rfl) (fun p r e => by cases p <;> first | (cases e; exact ⟨_, rfl⟩) | cases e) fun kvs r e => by cases e
theorem isi_int : CallR X (.builtin "isinstance") (rIsi X.K .isInt "int") :=
  isi_ok (fun b e => by cases e; rfl) (fun c b e => by cases e; rfl) (fun c b e => by cases e; rfl) (fun c b e => by cases e; rfl) (fun c b e => by cases e; rfl) (fun c b e => by cases e; rfl) (fun p r e => by cases p <;> first | (cases e; exact ⟨_, rfl⟩) | cases e) fun kvs r e => by cases e
theorem isi_bool : CallR X (.builtin "isinstance") (rIsi X.K .isBool "bool") :=
  isi_ok (fun b e => by cases e; rfl) (fun c b e => by cases e; rfl) (fun c b e => by cases e; rfl) (fun c b e => by cases e; rfl) (fun c b e => by cases e; rfl) (fun c b e => by cases e; rfl) (fun p r e => by cases p <;> first | (cases e; exact ⟨_, rfl⟩) | cases e) fun kvs r e => by cases e
theorem isi_str : CallR X (.builtin "isinstance") (rIsi X.K .isStr "str") :=
  isi_ok (fun b e => by cases e; rfl) (fun c b e => by cases e; rfl) (fun c b e => by cases e; rfl) (fun c b e => by cases e; rfl) (fun c b e => by cases e; rfl) (fun c b e => by cases e; rfl) (fun p r e => by cases p <;> first | (cases e; exact ⟨_, rfl⟩) | cases e) fun kvs r e => by cases e
variable (IH : ∀ ie e, f ie e = true → Snd X cf ie e)
include IH
theorem ok_args : ∀ {a : E} {es : List Expr}, chkA f a es = true → PA X es (tA cf X.K a) ∧ ∃ n, argN a = some n ∧ n = es.length := by
  intro a
  induction a with
  | nil =>
    intro es hc
    cases es with
    | nil => exact ⟨snd_nil, 0, rfl, rfl⟩
    | cons _ _ => exact nomatch (show false = true from hc)
  | cons h t _ iht =>
    intro es hc
    cases es with
    | nil => exact nomatch (show false = true from hc)
    | cons e es =>
      have hc' : (!isPeek h && plainE e && f h e && chkA f t es) = true := hc
      simp only [Bool.and_eq_true, Bool.not_eq_true'] at hc'
      obtain ⟨⟨⟨h1, h2⟩, h3⟩, h4⟩ := hc'
      obtain ⟨p, n, hn, hl⟩ := iht h4
      exact ⟨snd_cons (IH h e h3).pe p h1 h2, n + 1, by rw [argN, hn]; rfl, congrArg (· + 1) hl⟩
  | _ => exact fun hc => nomatch (show false = true from hc)
theorem ok_tup {a : E} {e : Expr} (h : chkTup f a e = true) : Snd X cf (.tup a) e := by
  refine onTup_el h fun es j pos h => ?_
  rw [Bool.and_eq_true] at h
  obtain ⟨p, n, hn, _⟩ := ok_args IH h.1
  rw [hn] at h
  exact snd_tup p hn (by simpa using h.2)
theorem ok_lst {a : E} {e : Expr} (h : chkLst f a e = true) : Snd X cf (.lst a) e := by
  refine onList_el h fun es pos h => ?_
  rw [Bool.and_eq_true] at h
  obtain ⟨p, n, hn, _⟩ := ok_args IH h.1
  rw [hn] at h
  exact snd_lst p hn (by simpa using h.2)
theorem cmp_ok (g : Good X k cf Gam) {o : Op2} {op : CmpOp} (h : cmpB o op = true) : OpR X (compareOp op) (rOp2 X.K o) ∧ ∀ p q r, opF2 o p q = some r → ∃ b, r = .bool b := by
  have hu := g.units
  have bl : ∀ (x : Option Bool) (f : Bool → Bool) (r : PV), bnd x (fun b => some (PyData.bool (f b))) = some r → ∃ b, r = .bool b := fun x f r e => by
    obtain ⟨b, _, e2⟩ := bnd_eq.mp e
    cases e2
    exact ⟨_, rfl⟩
  have ci : ∀ (f : Int → Int → Bool) (p q r : PV), cmpI f p q = some r → ∃ b, r = .bool b := fun f p q r e => by
    cases p <;> cases q <;> simp [cmpI, ltF] at e
    exact ⟨_, e.symm⟩
  have h' : cmpO o = some op := of_decide_eq_true h
  cases o with
  | eq => cases (show some CmpOp.Eq = some op from h'); exact ⟨s_eq hu, fun p q r e => bl _ id r e⟩
  | ne => cases (show some CmpOp.NotEq = some op from h'); exact ⟨s_ne hu, fun p q r e => bl _ not r e⟩
  | inn => cases (show some CmpOp.In = some op from h'); exact ⟨s_in hu, fun p q r e => bl _ id r e⟩
  | nin => cases (show some CmpOp.NotIn = some op from h'); exact ⟨s_nin hu, fun p q r e => bl _ not r e⟩
  | le => cases (show some CmpOp.LtE = some op from h'); exact ⟨s_le, fun p q r e => ci _ p q r e⟩
  | gt => cases (show some CmpOp.Gt = some op from h'); exact ⟨s_gt, fun p q r e => ci _ p q r e⟩
  | lt =>
    cases (show some CmpOp.Lt = some op from h')
    refine ⟨s_lt hu, fun p q r e => ?_⟩
    cases p <;> cases q <;> simp [cmpI, ltF] at e
    · exact ⟨_, e.symm⟩
    · obtain ⟨_, _, e⟩ := bnd_eq.mp e
      obtain ⟨_, _, e⟩ := bnd_eq.mp e
      cases e
      exact ⟨_, rfl⟩
  | _ => cases h'
theorem ok_twoa {o : Op2} {a b : E} {e : Expr} (h : chkTwoa f o a b e = true) : Snd X cf (.op2 o a b) e := by
  refine onBin_el h fun x op y pos h => ?_
  simp only [Bool.and_eq_true] at h
  obtain ⟨⟨h1, h2⟩, h3⟩ := h
  have A := (IH a x h2).pe
  have B := (IH b y h3).pe
  have h' : binO o = some op := of_decide_eq_true h1
  cases o with
  | add => cases (show some Operator.Add = some op from h'); exact snd_bin s_add A B
  | sub => cases (show some Operator.Sub = some op from h'); exact snd_bin s_sub A B
  | fdiv => cases (show some Operator.FloorDiv = some op from h'); exact snd_bin s_fdiv A B
  | mod => cases (show some Operator.Mod = some op from h'); exact snd_bin s_mod A B
  | mul => cases (show some Operator.Mult = some op from h'); exact snd_bin s_mul A B
  | pow => cases (show some Operator.Pow = some op from h'); exact snd_bin s_pow A B
  | _ => exact nomatch (show none = some op from h')
theorem ok_twob (g : Good X k cf Gam) {o : Op2} {a b : E} {e : Expr} (h : chkTwob f o a b e = true) : Snd X cf (.op2 o a b) e := by
  refine onCmp_el h fun x os ys pos h => ?_
  refine on1_el h fun op h => ?_
  refine on1_el h fun y h => ?_
  simp only [Bool.and_eq_true, Bool.not_eq_true'] at h
  obtain ⟨⟨⟨h1, h2⟩, h3⟩, h4⟩ := h
  obtain ⟨c1, c2⟩ := cmp_ok IH g h1
  exact snd_cmp c1 c2 (IH a x h3).pe (IH b y h4).pe h2
theorem ok_twoc (g : Good X k cf Gam) {o : Op2} {a b : E} {e : Expr} (h : chkTwoc f o a b e = true) : Snd X cf (.op2 o a b) e := by
  refine onSub_el h fun x y pos h => ?_
  simp only [Bool.and_eq_true, beq_iff_eq] at h
  obtain ⟨⟨⟨h1, h2⟩, h3⟩, h4⟩ := h
  subst h1
  exact snd_ix g.units (IH a x h3).pe (IH b y h4).pe h2
theorem ok_twod {o : Op2} {a b : E} {e : Expr} (h : chkTwod f o a b e = true) : Snd X cf (.op2 o a b) e := nomatch (show false = true from h)
theorem ok_twoe (g : Good X k cf Gam) {o : Op2} {a b : E} {e : Expr} (h : chkTwoe Gam X.env.scope.names f o a b e = true) : Snd X cf (.op2 o a b) e := nomatch (show false = true from h)
theorem ok_op2 (g : Good X k cf Gam) {o : Op2} {a b : E} {e : Expr} (h : chkOp2 Gam X.env.scope.names f o a b e = true) : Snd X cf (.op2 o a b) e := by
  have h' : (chkTwoa f o a b e || chkTwob f o a b e || chkTwoc f o a b e || chkTwod f o a b e || chkTwoe Gam X.env.scope.names f o a b e) = true := h
  simp only [Bool.or_eq_true] at h'
  rcases h' with (((h | h) | h) | h) | h
  · exact ok_twoa IH h
  · exact ok_twob IH g h
  · exact ok_twoc IH g h
  · exact ok_twod IH h
  · exact ok_twoe IH g h
theorem ok_sset (g : Good X k cf Gam) {x : Str} {a : E} {y : Expr} {p pos : Pos} (h : chkSset Gam X.env.scope.names f x a y = true) : Snd X cf (.op1 .sset a) (.Call (.Name x p) [y] [] pos) := by
  refine onCall_el h fun g2 as pos2 h => ?_
  refine onName_el h fun y2 p2 h => ?_
  refine on1_el h fun z h => ?_
  simp only [Bool.and_eq_true] at h
  obtain ⟨⟨⟨h0, h1⟩, h2⟩, h3⟩ := h
  obtain ⟨rfl, gl1, _, _, hm1⟩ := bltB_of g h0
  obtain ⟨rfl, gl2, _, _, hm2⟩ := bltB_of g h1
  exact snd_sset g.calm g.units gl1 hm1 gl2 hm2 (IH a z h3).pe h2
theorem ok_onea (g : Good X k cf Gam) {o : Op1} {a : E} {e : Expr} (h : chkOnea Gam X.env.scope.names f o a e = true) : Snd X cf (.op1 o a) e := by
  refine onCall_el h fun g1 as pos h => ?_
  refine onName_el h fun x p h => ?_
  refine on1_el h fun y hq => ?_
  clear h
  by_cases ho : (o == .sset) = true
  · rw [if_pos ho] at hq
    cases eq_of_beq ho
    exact ok_sset IH g hq
  rw [if_neg ho] at hq
  simp only [Bool.and_eq_true] at hq
  obtain ⟨⟨h1, h2⟩, h3⟩ := hq
  have A := (IH a y h3).pe
  cases hb : bltFn o with
  | none => rw [hb] at h1; cases h1
  | some z =>
    rw [hb] at h1
    obtain ⟨rfl, gl, o1, o3, hm⟩ := bltB_of g (show bltB Gam X.env.scope.names x z = true from h1)
    cases o with
    | len => cases (show some ("len" : Str) = some x from hb); exact snd_callB s_len gl hm boot_len o3 o1 A h2
    | toTuple => cases (show some ("tuple" : Str) = some x from hb); exact snd_callT s_toTuple gl hm PyProof.Rows.boot_tuple o3 o1 A h2
    | toList => cases (show some ("list" : Str) = some x from hb); exact snd_callT s_toList gl hm PyProof.Rows.boot_list o3 o1 A h2
    | toInt => cases (show some ("int" : Str) = some x from hb); exact snd_callT s_toInt gl hm PyProof.Rows.boot_int o3 o1 A h2
    | toStr => cases (show some ("str" : Str) = some x from hb); exact snd_callT s_toStr gl hm PyProof.Rows.boot_str o3 o1 A h2
    | all => cases (show some ("all" : Str) = some x from hb); exact snd_callB (s_all g.calm) gl hm boot_all o3 o1 A h2
    | _ => exact nomatch (show none = some x from hb)
theorem ok_oneb (g : Good X k cf Gam) {o : Op1} {a : E} {e : Expr} (h : chkOneb Gam X.env.scope.names f o a e = true) : Snd X cf (.op1 o a) e := by
  refine onCall_el h fun g1 as pos h => ?_
  refine onName_el h fun x p h => ?_
  refine on2_el h fun y u h => ?_
  refine onName_el h fun t p2 h => ?_
  simp only [Bool.and_eq_true] at h
  obtain ⟨⟨⟨h0, h1⟩, h2⟩, h3⟩ := h
  have A := (IH a y h3).pe
  obtain ⟨rfl, gl0, _, _, hm0⟩ := bltB_of g h0
  cases hb : kindT o with
  | none => rw [hb] at h1; cases h1
  | some z =>
    rw [hb] at h1
    obtain ⟨et, gl, o1, o3, hm⟩ := bltB_of g (show bltB Gam X.env.scope.names t z = true from h1)
    have fin : ∀ {T : String}, CallR X (.builtin "isinstance") (rIsi X.K o T) → bootBuiltins (T : Str) = some (.type T) → z = T → Snd X cf (.op1 o a) (.Call (.Name "isinstance" p) [y, .Name t p2] [] pos) := fun {T} hc hv ez => by
      subst ez
      rw [et] at gl hm o3 o1 ⊢
      exact snd_isi hc gl0 hm0 gl hm hv o3 o1 A h2
    cases o with
    | isTup => exact fin isi_tuple PyProof.Rows.boot_tuple (Option.some.inj hb).symm
    | isInt => exact fin isi_int PyProof.Rows.boot_int (Option.some.inj hb).symm
    | isBool => exact fin isi_bool PyProof.Rows.boot_bool (Option.some.inj hb).symm
    | isStr => exact fin isi_str PyProof.Rows.boot_str (Option.some.inj hb).symm
    | _ => exact nomatch (show none = some z from hb)
theorem ok_onec {o : Op1} {a : E} {e : Expr} (h : chkOnec f o a e = true) : Snd X cf (.op1 o a) e := by
  refine onUn_el h fun u y pos h => ?_
  simp only [Bool.and_eq_true, beq_iff_eq] at h
  obtain ⟨⟨hu, rfl⟩, h2⟩ := h
  cases isUSub_of hu
  exact snd_neg (IH a y h2).pe
theorem ok_oned {o : Op1} {a : E} {e : Expr} (h : chkOned f o a e = true) : Snd X cf (.op1 o a) e := by
  refine onSub_el h fun y sl pos h => ?_
  refine onSlice_el h fun l hh st p1 h => ?_
  simp only [Bool.and_eq_true] at h
  obtain ⟨⟨hl, hm⟩, h⟩ := h
  cases isN_of hl
  cases isN_of hm
  refine onSo_el h fun z h => ?_
  refine onUn_el h fun u c p2 h => ?_
  rw [Bool.and_eq_true] at h
  cases isUSub_of h.1
  refine onConst_el h.2 fun cc j p3 h => ?_
  refine onInt_el h fun i h => ?_
  simp only [Bool.and_eq_true, beq_iff_eq] at h
  obtain ⟨⟨rfl, rfl⟩, h2⟩ := h
  exact snd_rev (IH _ _ h2).pe
theorem ok_onee {o : Op1} {a : E} {e : Expr} (h : chkOnee f o a e = true) : Snd X cf (.op1 o a) e := nomatch (show false = true from h)
theorem ok_onef {o : Op1} {a : E} {e : Expr} (h : chkOnef f o a e = true) : Snd X cf (.op1 o a) e := nomatch (show false = true from h)
theorem ok_op1 (g : Good X k cf Gam) {o : Op1} {a : E} {e : Expr} (h : chkOp1 Gam X.env.scope.names f o a e = true) : Snd X cf (.op1 o a) e := by
  have h' : (chkOnea Gam X.env.scope.names f o a e || chkOneb Gam X.env.scope.names f o a e || chkOnec f o a e || chkOned f o a e || chkOnee f o a e || chkOnef f o a e) = true := h
  simp only [Bool.or_eq_true] at h'
  rcases h' with ((((h | h) | h) | h) | h) | h
  · exact ok_onea IH g h
  · exact ok_oneb IH g h
  · exact ok_onec IH h
  · exact ok_oned IH h
  · exact ok_onee IH h
  · exact ok_onef IH h
theorem ok_part {ie : E} {e : Option Expr} (h : chkP f ie e = true) : PO X e (tP cf X.K ie) := by
  cases e with
  | some e =>
    simp only [chkP, Bool.and_eq_true, Bool.not_eq_true'] at h
    exact part_some (IH ie e h.2).pe h.1
  | none =>
    cases ie with
    | con p =>
      cases p with
      | none => exact part_none
      | _ => simp [chkP] at h
    | _ => simp [chkP] at h
theorem ok_sl {a lo hi : E} {e : Expr} (h : chkSl f a lo hi e = true) : Snd X cf (.sl a lo hi) e := by
  refine onSub_el h fun x sl pos h => ?_
  refine onSlice_el h fun l hh st p1 h => ?_
  simp only [Bool.and_eq_true] at h
  cases isN_of h.1.1.1
  exact snd_sl (IH _ _ h.1.1.2).pe (ok_part IH h.1.2) (ok_part IH h.2)
theorem ok_call (g : Good X k cf Gam) {id : Nat} {a : E} {e : Expr} (h : chkCall Gam X.env.scope.names f id a e = true) : Snd X cf (.call id a) e := by
  refine onCall_el h fun g1 as pos h => ?_
  refine onName_el h fun x p h => ?_
  refine onCons_el h fun y ys h => ?_
  simp only [Bool.and_eq_true, List.any_eq_true, beq_iff_eq] at h
  obtain ⟨⟨⟨⟨h1, h2⟩, h3⟩, h4⟩, r, hr, ⟨h5, h6⟩, h7⟩ := h
  obtain ⟨gl, o1, o3⟩ := glB_of h1
  obtain ⟨x', id', n'⟩ := r
  dsimp only at h5 h6 h7
  subst h5 h6
  obtain ⟨fa, fd, ps, hl, hm, hk, hb, F⟩ := g.fns x' id' n' hr
  obtain ⟨pa, _⟩ := ok_args IH h4
  exact snd_call F g.room gl hm hk hb pa (by rw [h7, hl]) o1 h2 h3
theorem ok_bool : ∀ {op : BoolOp} {ie : E} {es : List Expr} {pos : Pos}, chkB f op ie es = true → SndB X cf op ie es pos
  | op, ie, [e], pos, h => by
    have h' : f ie e = true := by
      unfold chkB at h
      exact h
    exact sndb_one (IH ie e h')
  | op, ie, e :: e2 :: r, pos, h => by
    cases ie with
    | and a b =>
      simp only [chkB, Bool.and_eq_true, Bool.not_eq_true', beq_iff_eq] at h
      obtain ⟨⟨⟨⟨rfl, h1⟩, h2⟩, h3⟩, h4⟩ := h
      exact sndb_and (IH a e h3) h1 (ok_bool h4) h2
    | or a b =>
      simp only [chkB, Bool.and_eq_true, Bool.not_eq_true', beq_iff_eq] at h
      obtain ⟨⟨⟨⟨rfl, h1⟩, h2⟩, h3⟩, h4⟩ := h
      exact sndb_or (IH a e h3) h1 (ok_bool h4) h2
    | _ => simp [chkB] at h
  | op, ie, [], pos, h => by cases ie <;> simp [chkB] at h
theorem ok_and {a b : E} {e : Expr} (h : chkAnd f a b e = true) : Snd X cf (.and a b) e := by
  refine onBool_el h fun o xs pos h => ?_
  rw [Bool.and_eq_true] at h
  cases eq_of_beq h.1
  exact (ok_bool IH h.2).snd
theorem ok_or {a b : E} {e : Expr} (h : chkOr f a b e = true) : Snd X cf (.or a b) e := by
  refine onBool_el h fun o xs pos h => ?_
  rw [Bool.and_eq_true] at h
  cases eq_of_beq h.1
  exact (ok_bool IH h.2).snd
theorem ok_not {a : E} {e : Expr} (h : chkNot f a e = true) : Snd X cf (.not a) e := by
  refine onUn_el h fun u x pos h => ?_
  rw [Bool.and_eq_true] at h
  cases isNotU_of h.1
  exact snd_not (IH _ _ h.2)
theorem ok_ite {c a b : E} {e : Expr} (h : chkIte f c a b e = true) : Snd X cf (.ite c a b) e := nomatch (show false = true from h)
theorem ok_dct {ks : List PV} {a : E} {e : Expr} (h : chkDct f ks a e = true) : Snd X cf (.dct ks a) e := by
  refine onDict_el h fun es vs pos h => ?_
  simp only [Bool.and_eq_true, Bool.not_eq_true', decide_eq_true_eq] at h
  obtain ⟨⟨⟨h1, h2⟩, h3⟩, h4⟩ := h
  exact snd_dct IH h1 h2 (by intro z; rw [z] at h3; cases h3) h4
theorem ok_dgt (g : Good X k cf Gam) {a b d : E} {e : Expr} (h : chkDgt f a b d e = true) : Snd X cf (.dgt a b d) e := by
  refine onCall_el h fun g1 as pos h => ?_
  refine onAttr_el h fun o m apos h => ?_
  refine on2_el h fun e1 e2 h => ?_
  simp only [Bool.and_eq_true, Bool.not_eq_true', beq_iff_eq] at h
  obtain ⟨⟨⟨⟨⟨⟨⟨⟨h1, h2⟩, h3⟩, h4⟩, h5⟩, h6⟩, h7⟩, h8⟩, h9⟩ := h
  subst h1
  have s2 := star_of h4 [] X.env
  have s1 : starEach [e1, e2] X.env = [(false, eval e1 X.env), (false, eval e2 X.env)] := by rw [star_of h3 [e2] X.env, s2]; rfl
  refine snd_dgt g.units (IH _ _ h7).pe (IH _ _ h8).pe (IH _ _ h9).pe h6 ⟨?_, ?_, by rw [h5]; simp, ?_⟩
  · cases o with
    | Dict es vs p => rfl
    | Name x p => rfl
    | _ => exact nomatch (show false = true from h2)
  · rw [s1]; rfl
  · rw [s1]; rfl
theorem ok_lrep {a n : E} {e : Expr} (h : chkLrep f a n e = true) : Snd X cf (.lrep a n) e := nomatch (show false = true from h)
theorem ok_chain (g : Good X k cf Gam) {o o' : Op2} {a b c : E} {e : Expr} (h : chkChain f o o' a b c e = true) : Snd X cf (.chain o o' a b c) e := by
  refine onCmp_el h fun x os ys pos h => ?_
  refine on2_el h fun op op' h => ?_
  refine on2_el h fun y z h => ?_
  simp only [Bool.and_eq_true, Bool.not_eq_true'] at h
  obtain ⟨⟨⟨⟨⟨h1, h2⟩, h3⟩, h4⟩, h5⟩, h6⟩ := h
  obtain ⟨a1, a2⟩ := cmp_ok IH g h1
  obtain ⟨b1, b2⟩ := cmp_ok IH g h2
  exact snd_chain a1 b1 a2 b2 (IH _ _ h4).pe (IH _ _ h5).pe (IH _ _ h6).pe h3
theorem ok_itera (g : Good X k cf Gam) {tg : Expr} {ie : E} {e : Expr} (h : chkIa Gam X.env.scope.names f ie e = true) : PI X tg e (tI cf X.K ie) := by
  obtain ⟨a, ha, h⟩ := onSo_of h
  cases rngE_of ha
  refine onCall_el h fun g1 as pos h => ?_
  refine onName_el h fun x p h => ?_
  refine on1_el h fun y h => ?_
  simp only [Bool.and_eq_true, Bool.not_eq_true'] at h
  obtain ⟨⟨⟨h1, h2⟩, h3⟩, h4⟩ := h
  obtain ⟨rfl, gl, _, _, hm⟩ := bltB_of g h1
  exact it_rng (IH _ _ h4).pe h2 h3 gl hm
theorem ok_iterb (g : Good X k cf Gam) {tg : Expr} {ie : E} {e : Expr} (h : chkIb Gam X.env.scope.names f tg ie e = true) : PI X tg e (tI cf X.K ie) := nomatch (show false = true from h)
theorem ok_iter (g : Good X k cf Gam) {tg : Expr} {ie : E} {e : Expr} (h : chkI Gam X.env.scope.names f tg ie e = true) : PI X tg e (tI cf X.K ie) := by
  have h' : (chkIa Gam X.env.scope.names f ie e || chkIb Gam X.env.scope.names f tg ie e || (!isPeek ie && notSet e && f ie e)) = true := h
  simp only [Bool.or_eq_true] at h'
  rcases h' with (h | h) | h
  · exact ok_itera IH g h
  · exact ok_iterb IH g h
  · simp only [Bool.and_eq_true, Bool.not_eq_true'] at h
    exact it_seq (IH _ _ h.2).pe h.1.1
theorem folded_of {e : Expr} {env : PySem.Env} (h : notSet e = true) : ∀ x, foldedSetIterable e env x = pure x := foldedSet_of (by cases e <;> first | rfl | exact absurd (show false = true from h) Bool.false_ne_true)
end
end DD
set_option Elab.async false
set_option linter.all false
set_option maxRecDepth 100000
set_option maxHeartbeats 1000000
namespace DD
open PySem PySem.Spec PyProof.Rows L2
theorem Good.blk {X X' : Cx} {k : Nat} {cf : CF} {Gam : Info} {N' : List Str} {scope : Scope} (g : Good X k cf Gam) (b : Blk X N' scope X') : Good X' k cf Gam := by
  refine ⟨b.calm, b.xe, by rw [b.A]; exact g.room, fun x id n h => ?_, fun x p h => ?_, fun x h => by rw [b.mg]; exact g.blts x h, fun x kvs h => ?_⟩
  · obtain ⟨fa, fd, ps, h1, h2, h3, h4, h5⟩ := g.fns x id n h
    exact ⟨fa, fd, ps, h1, by rw [b.mg]; exact h2, by rw [b.K]; exact h3, by rw [b.K]; exact h4, by rw [b.prog, b.w, b.K, b.mg, b.base]; exact h5⟩
  · obtain ⟨u, v, h1, h2, h3⟩ := g.consts x p h
    exact ⟨u, v, by rw [b.mg]; exact h1, h2, by rw [b.K]; exact h3⟩
  · obtain ⟨a, l, vs, h1, h2, h3, h4⟩ := g.dcts x kvs h
    exact ⟨a, l, vs, by rw [b.mg]; exact h1, by rw [b.K]; exact h2, h3, by rw [b.K, b.prog, b.w]; exact h4⟩
theorem relB_eq {scope : Scope} {env : PySem.Env} (hk : env.scope.kind = .function) : (relabel scope env).names = relB env.scope.names scope.names := by
  unfold relabel relB
  dsimp only
  congr 1
  funext x
  obtain ⟨n, k⟩ := x
  dsimp only
  have e : (env.scope.kind == .function) = true := by rw [hk]; rfl
  rw [e, Bool.and_true]
  rfl
theorem relB_local {nm names : Nms} {x : Str} (h : names.lookup x = some .local) : (relB nm names).lookup x = some .local := by
  unfold relB
  have := lookup_map (fun (y : Str × NameKind) => match y with | (n, k) => if (k == .free && nm.lookup n == some .cell) then (n, NameKind.cell) else (n, k)) (fun n k => by dsimp only; split <;> rfl) names x
  refine this.trans ?_
  rw [h]
  rfl
theorem names_of : ∀ {es : List Expr} {own : List Str}, (es.mapM fun e => match e with | .Name x _ => some x | _ => none) = some own → ∃ ps : List Pos, ps.length = own.length ∧ es = (own.zip ps).map fun q => Expr.Name q.1 q.2
  | [], own, h => by
    cases (show some [] = some own from h)
    exact ⟨[], rfl, rfl⟩
  | e :: es, own, h => by
    rw [List.mapM_cons] at h
    cases e with
    | Name x pos =>
      cases hm : (es.mapM fun e => match e with | .Name x _ => some x | _ => none) with
      | none => rw [hm] at h; cases h
      | some r =>
        rw [hm] at h
        cases (show some (x :: r) = some own from h)
        obtain ⟨ps, h1, h2⟩ := names_of hm
        exact ⟨pos :: ps, by simp [h1], by rw [h2]; rfl⟩
    | _ => cases h
section
variable {X' : Cx}
noncomputable def gNames : Nat → Nat → TGs
  | _, 0 => gNil
  | i, n + 1 => gCons (gName i) (gNames (i + 1) n)
theorem pg_names {N : List Str} (hN : X'.N.Nodup) : ∀ (own : List Str) (ps : List Pos) (i : Nat), ps.length = own.length → (∀ (j : Nat) (x : Str), own[j]? = some x → X'.N[i + j]? = some x ∧ X'.env.scope.names.lookup x = some .local) →
    PGs X' ((own.zip ps).map fun q => Expr.Name q.1 q.2) (gNames i own.length)
  | [], ps, i, hl, h => by
    have : ps = [] := List.length_eq_zero_iff.mp hl
    subst this
    exact pgs_nil
  | x :: own, [], i, hl, h => by cases hl
  | x :: own, p :: ps, i, hl, h => by
    obtain ⟨h1, h2⟩ := h 0 x rfl
    refine pgs_cons (pg_name hN h1 (.inl h2) (.inr h2)) (pg_names (N := N) hN own ps (i + 1) (by simpa using hl) fun j y e => ?_) rfl
    have := h (j + 1) y (by simpa using e)
    rw [show i + (j + 1) = i + 1 + j from by lia] at this
    exact this
theorem gNames_ok {Q : St → Hp → Prop} {H : Hp} : ∀ (vs : List V) (σ : St) (i : Nat), i + vs.length ≤ σ.length → Q (σ.take i ++ (vs.map some ++ σ.drop (i + vs.length))) H → gNames i vs.length vs σ H Q
  | [], σ, i, hl, h => by
    refine ⟨rfl, ?_⟩
    have e : σ.take i ++ (([] : List V).map some ++ σ.drop (i + ([] : List V).length)) = σ := by simp
    rw [e] at h
    exact h
  | v :: vs, σ, i, hl, h => by
    refine ⟨v, vs, rfl, gNames_ok vs (σ.set i (some v)) (i + 1) (by simp at hl ⊢; lia) ?_⟩
    have hi : i < σ.length := by simp at hl; lia
    have e : (σ.set i (some v)).take (i + 1) ++ (vs.map some ++ (σ.set i (some v)).drop (i + 1 + vs.length)) = σ.take i ++ ((v :: vs).map some ++ σ.drop (i + (v :: vs).length)) := by
      rw [List.take_succ_eq_append_getElem (by simpa using hi), List.take_set_of_le (Nat.le_refl _), List.getElem_set_self, List.drop_set_of_lt (by lia), List.append_assoc]
      simp [show i + 1 + vs.length = i + (vs.length + 1) from by lia]
    rw [e]
    exact h
end
structure CompOk (X : Cx) (cf : CF) (tg : Option Nat) (caps : List Nat) (it cond elt : E) (y tgt iter : Expr) (ifs : List Expr) (scope : Scope) (own : List Str) : Prop where
  cs : CScope X own caps scope
  hd : caps.Nodup
  hown : own.length = tg.getD 1
  hpk : isPeek elt = false
  hit : PI X tgt iter (tI cf X.K it)
  hfs : ∀ x, foldedSetIterable iter X.env x = pure x
  B : BlkOk X cf own caps scope tg tgt ifs y cond elt
section
variable {X : Cx} {cf : CF} {k : Nat} {Gam : Info} {f : E → Expr → Bool} {gB : List Str → Nms → E → Expr → Bool}
theorem comp_data (g : Good X k cf Gam) (hkind : X.env.scope.kind = .function) (IH : ∀ ie e, f ie e = true → Snd X cf ie e)
    (IHB : ∀ X', Good X' k cf Gam → X'.env.scope.kind = .function → ∀ ie e, gB X'.N X'.env.scope.names ie e = true → Snd X' cf ie e) {tg : Option Nat} {caps : List Nat} {it cond elt : E} {y tgt iter : Expr} {ifs : List Expr} {z : Int} {scope : Scope} {pos : Pos}
    (h : chkComp Gam X.N X.env.scope.names f gB tg caps it cond elt (.ListComp y [⟨tgt, iter, ifs, z⟩] scope pos) = true) : z = 0 ∧ ∃ own, CompOk X cf tg caps it cond elt y tgt iter ifs scope own := by
  obtain ⟨own, hn, hq⟩ := onSo_of (show onSo (tgNames tg tgt) _ = true from h)
  · simp only [Bool.and_eq_true, beq_iff_eq, Bool.not_eq_true'] at hq
    obtain ⟨⟨⟨⟨⟨⟨h1, h2⟩, h3⟩, h4⟩, h5⟩, h6⟩, h7⟩ := hq
    refine ⟨h1, own, ?_⟩
    simp only [scopeB, Bool.and_eq_true, beq_iff_eq, List.all_eq_true, Bool.or_eq_true, bne_iff_ne, decide_eq_true_eq] at h2
    obtain ⟨⟨⟨⟨⟨⟨⟨s1, s2⟩, s3⟩, s4⟩, s5⟩, s6⟩, s7⟩, s8⟩ := h2
    have cs : CScope X own caps scope := by
      refine ⟨s1, fun x hx => s2 x hx, fun x hx e => ?_, fun x hx e => ?_, fun j hj => ?_⟩
      · rcases s3 x hx with q | q
        · exact absurd e q
        · exact q
      · rcases s4 x hx with (q | q) | q
        · exact absurd e q
        · exact .inl q
        · exact .inr q
      · have := s5 j hj
        cases q : X.N[j]? with
        | none => rw [q] at this; cases this
        | some y =>
          rw [q] at this
          simp only [Bool.and_eq_true, beq_iff_eq] at this
          exact ⟨y, rfl, visB_of this.1, this.2⟩
    have hown : own.length = tg.getD 1 := by
      cases tg with
      | none =>
        cases tgt with
        | Name x p => cases (show some [x] = some own from hn); rfl
        | _ => cases hn
      | some n =>
        cases tgt with
        | Tuple es j p =>
          simp only [tgNames] at hn
          split at hn
          · rename_i hl
            obtain ⟨ps, h1, h2⟩ := names_of hn
            have : es.length = own.length := by rw [h2]; simp [h1]
            rw [← this]; exact hl
          · cases hn
        | _ => cases hn
    have kx : ∀ X', Blk X (namesC X own caps) scope X' → X'.N = own ++ caps.map (fun j => X.N.getD j "") ∧ X'.env.scope.names = relB X.env.scope.names scope.names ∧ X'.env.scope.kind = .function := fun X' b =>
      ⟨b.N, by rw [b.sc]; exact relB_eq hkind, by rw [b.sc]; exact s1⟩
    refine ⟨cs, s6, hown, h5, ok_iter IH g h4, folded_of IH h3, ⟨fun X' b => ?_, fun X' b => ?_, fun X' b => ?_⟩⟩
    · obtain ⟨kN, kS, kK⟩ := kx X' b
      have nd : X'.N.Nodup := by rw [kN]; exact s8
      have pl : ∀ (j : Nat) (x : Str), own[j]? = some x → X'.N[0 + j]? = some x ∧ X'.env.scope.names.lookup x = some .local := fun j x e => by
        refine ⟨?_, ?_⟩
        · rw [kN, Nat.zero_add, List.getElem?_append_left (List.getElem?_eq_some_iff.mp e).1]; exact e
        · rw [kS]; exact relB_local (s7 x (List.mem_of_getElem? e)).1
      cases tg with
      | none =>
        cases tgt with
        | Name x p =>
          cases (show some [x] = some own from hn)
          obtain ⟨p1, p2⟩ := pl 0 x rfl
          have pg := pg_name (pos := p) nd p1 (.inl p2) (.inr p2)
          intro pins s σ H v u Q I r hq
          obtain ⟨hl, _, hq⟩ := hq
          refine pg pins s σ H v u Q I r ?_
          show Q (σ.set 0 (some v)) H
          cases σ with
          | nil => cases hl
          | cons o σ => exact hq
        | _ => cases hn
      | some n =>
        cases tgt with
        | Tuple es j p =>
          simp only [tgNames] at hn
          split at hn
          · rename_i hl
            obtain ⟨ps, l1, l2⟩ := names_of hn
            have hes : es.length = own.length := by rw [l2]; simp [l1]
            have pgs := pg_names (N := X'.N) nd own ps 0 l1 pl
            rw [← l2] at pgs
            have as1 : ∀ (l : List Expr) (qs : List Pos) (ow : List Str), qs.length = ow.length → l = (ow.zip qs).map (fun q => Expr.Name q.1 q.2) → (assignEach l X'.env).length = l.length ∧ (assignEach l X'.env).findIdx? (·.1) = none := by
              intro l
              induction l with
              | nil => intro _ _ _ _; exact ⟨rfl, rfl⟩
              | cons e l ih =>
                intro qs ow hq he
                cases ow with
                | nil => cases he
                | cons w ow =>
                  cases qs with
                  | nil => cases hq
                  | cons q qs =>
                    cases he
                    obtain ⟨i1, i2⟩ := ih qs ow (by simpa using hq) rfl
                    refine ⟨?_, ?_⟩
                    · show ((assignEach _ X'.env).length + 1) = _
                      rw [i1]; rfl
                    · show List.findIdx? _ ((false, _) :: assignEach _ X'.env) = none
                      rw [List.findIdx?_cons, i2]
                      rfl
            obtain ⟨a1, a2⟩ := as1 es ps own l1 l2
            have pg := pg_tup (X := X') (pos := p) (k := j) b.calm pgs (a1.trans hl) a2
            intro pins s σ H v u Q I r hq
            obtain ⟨hlen, a, xs, rfl, q, lx, _, hq⟩ := hq
            refine pg pins s σ H _ u Q I r ⟨a, xs, rfl, by rw [b.K]; exact q, lx, ?_⟩
            have eo : own.length = xs.length := by lia
            rw [eo] at hlen hq ⊢
            exact gNames_ok xs σ 0 (by lia) (by simpa using hq)
          · cases hn
        | _ => cases hn
    · obtain ⟨kN, kS, kK⟩ := kx X' b
      intro pins s σ H Q I hq
      have e1 := b.prog
      have e2 := b.w
      have e3 := b.A
      cases ifs with
      | nil =>
        obtain ⟨G, ρ, p, t, S, e, et, kq⟩ := hq
        have h8 : isTrueC cond = true := by
          rcases (Bool.or_eq_true _ _).mp h7 with z | z
          · exact z
          · exact nomatch (show false = true from z)
        cases isTrueC_of h8
        cases (show some (PyData.bool true) = some p from e)
        have et' : true = t := Option.some.inj et
        subst et'
        exact wpAny_tests_nil ⟨H, I, kq G H (.refl S.sub)⟩
      | cons c cs' =>
        have h8 : on1 (c :: cs') (fun c => gB (own ++ caps.map fun j => X.N.getD j "") (relB X.env.scope.names scope.names) cond c) = true := by
          rcases (Bool.or_eq_true _ _).mp h7 with z | z
          · exact nomatch (show false = true from z)
          · exact z
        cases cs' with
        | nil =>
          have sn := IHB X' (g.blk b) kK cond c (by rw [kN, kS]; exact h8)
          have := sn.pt pins s σ H Q I (by rw [b.K]; exact hq)
          rw [e1, e2, e3, b.xe] at this
          exact wpAny_tests_one this
        | cons _ _ => exact nomatch (show false = true from h8)
    · obtain ⟨kN, kS, kK⟩ := kx X' b
      have := (IHB X' (g.blk b) kK elt y (by rw [kN, kS]; exact h6)).pe
      rw [b.K] at this
      exact this
theorem comp_form {tg : Option Nat} {caps : List Nat} {it cond elt : E} {N : List Str} {nm : Nms} {P : Expr → Prop} {e : Expr} (H : ∀ y q scope pos, chkComp Gam N nm f gB tg caps it cond elt (.ListComp y [q] scope pos) = true → P (.ListComp y [q] scope pos)) (h : chkComp Gam N nm f gB tg caps it cond elt e = true) : P e := by
  have h0 := h
  revert h0
  refine onLC_el h fun y gs scope pos h => ?_
  refine on1_el h fun q _ h0 => ?_
  exact H y q scope pos h0
theorem ok_comp (g : Good X k cf Gam) (hkind : X.env.scope.kind = .function) (IH : ∀ ie e, f ie e = true → Snd X cf ie e)
    (IHB : ∀ X', Good X' k cf Gam → X'.env.scope.kind = .function → ∀ ie e, gB X'.N X'.env.scope.names ie e = true → Snd X' cf ie e) {tg : Option Nat} {caps : List Nat} {it cond elt : E} {e : Expr}
    (h : chkComp Gam X.N X.env.scope.names f gB tg caps it cond elt e = true) : Snd X cf (.comp tg caps it cond elt) e := by
  refine comp_form (P := fun e => Snd X cf (.comp tg caps it cond elt) e) (fun y q scope pos h => ?_) h
  obtain ⟨tgt, iter, ifs, z⟩ := q
  obtain ⟨rfl, own, c⟩ := comp_data g hkind IH IHB h
  exact .plain (pe_comp g.calm c.cs c.hd c.hown c.hpk c.hit c.hfs c.B) (fun _ => rfl)
end
theorem chk_ok {cf : CF} {k : Nat} {Gam : Info} : ∀ (n : Nat) (X : Cx), Good X k cf Gam → X.env.scope.kind = .function → ∀ ie e, chkE Gam n X.N X.env.scope.names ie e = true → Snd X cf ie e
  | 0, X, g, hk, ie, e, h => by cases h
  | n + 1, X, g, hk, ie, e, h => by
    have IH := chk_ok n X g hk
    have IHB := fun X' g' hk' => chk_ok (cf := cf) (k := k) (Gam := Gam) n X' g' hk'
    cases ie with
    | var i => exact (ok_var h).1
    | peek i => exact (ok_var h).2
    | con p => exact ok_con g h
    | nil => cases h
    | cons _ _ => cases h
    | tup a => exact ok_tup IH h
    | lst a => exact ok_lst IH h
    | op1 o a => exact ok_op1 IH g h
    | op2 o a b => exact ok_op2 IH g h
    | sl a lo hi => exact ok_sl IH h
    | call f a => exact ok_call IH g h
    | and a b => exact ok_and IH h
    | or a b => exact ok_or IH h
    | not a => exact ok_not IH h
    | ite c a b => exact ok_ite IH h
    | chain o o' a b c => exact ok_chain IH g h
    | comp tg caps it cond elt => exact ok_comp g hk IH IHB h
    | rng _ => cases h
    | rng2 _ _ => cases h
    | dct ks a => exact ok_dct IH h
    | dgt a b d => exact ok_dgt IH g h
    | lrep a n => exact ok_lrep IH h
    | skey _ _ _ => cases h
end DD
set_option Elab.async false
set_option linter.all false
set_option maxRecDepth 100000
set_option maxHeartbeats 1000000
namespace DD
open PySem PySem.Spec PyProof.Rows L2
noncomputable def locB (nm : Nms) (x : Str) : Bool := nm.lookup x == some .local || nm.lookup x == some .cell
noncomputable def notComp : Expr → Bool
  | .ListComp .. => false
  | .SetComp .. => false
  | .DictComp .. => false
  | _ => true
theorem swaps_no {e : Expr} (h : notComp e = true) (t : Option Expr) (l : Nat) (env : PySem.Env) : swapsWith e t l env = pure false := by
  cases e <;> first | rfl | exact absurd (show false = true from h) Bool.false_ne_true
theorem swaps_comp (y : Expr) (gs : List Comprehension) (scope : Scope) (pos p : Pos) (x : Str) (l : Nat) (env : PySem.Env) : ∃ b : Bool, swapsWith (.ListComp y gs scope pos) (some (.Name x p)) l env = pure b ∧ (b = true → env.kindOf x = some .local) := by
  refine ⟨env.blockKind == .function && env.kindOf x == some .local && p.line == (Expr.ListComp y gs scope pos).pos.line && !(scope.names.any fun (n, k) => n == x && (k == .local || k == .cell)), rfl, fun h => ?_⟩
  simp only [Bool.and_eq_true, beq_iff_eq] at h
  exact h.1.1.2
section
variable (Gam : Info) (N : List Str) (nm : Nms) (f : E → Expr → Bool) (gB : List Str → Nms → E → Expr → Bool)
noncomputable def isLC : Expr → Bool
  | .ListComp .. => true
  | _ => false
noncomputable def isCompE : E → Bool
  | .comp .. => true
  | _ => false
noncomputable def lstE : E → Option E
  | .lst a => some a
  | _ => none
noncomputable def setB (i : Nat) (ie : E) (x : Str) (v : Expr) : Bool := N[i]? == some x && locB nm x && !isPeek ie && (notComp v || (isLC v && isCompE ie)) && f ie v
noncomputable def tgN : List Nat → List Expr → Bool
  | [], [] => true
  | i :: is, e :: es => (onName e fun x _ => N[i]? == some x && locB nm x) && tgN is es
  | _, _ => false
noncomputable def tgB (t : Tg) (e : Expr) : Bool := match t with
  | .one i => onName e fun x _ => N[i]? == some x && locB nm x
  | .many is => false && onTup e fun es _ _ => tgN N nm is es
noncomputable def chkS (fB : S → List Stmt → Bool) (is : S) (st : Stmt) : Bool := match is with
  | .set i ie => onAsg st fun t v _ => onName t fun x _ => setB N nm f i ie x v
  | .own i ie => onAsg st fun t v _ => onName t fun x _ => onList v fun es _ => N[i]? == some x && locB nm x && (lstE ie).any fun a => chkA f a es && (argN a).any (· ≤ 1000)
  | .ret ie => onRet st fun v => !isPeek ie && f ie v
  | .ife c a b => onIfS st fun t x y => f c t && fB a x && fB b y
  | .loop t it b => onFor st fun tgt iter body => tgB N nm t tgt && notSet iter && chkI Gam nm f tgt it iter && fB b body
  | .app i ie => onExS st fun e => onCall e fun g as cpos => onAttr g fun o m apos => onName o fun x _ => on1 as fun v => m == "append" && N[i]? == some x && visB nm x && okN x && !isPeek ie && plainE v && apos.endLine == cpos.line && f ie v
  | _ => false
end
noncomputable def chkSs (fS : S → Stmt → Bool) : S → List Stmt → Bool
  | .nx, [] => true
  | .seq (.frz _) b, sts => chkSs fS b sts
  | .seq a b, st :: rest => fS a st && chkSs fS b rest
  | a, [st] => fS a st
  | _, _ => false
noncomputable def chkBody (Gam : Info) (m : Nat) : Nat → List Str → Nms → S → List Stmt → Bool
  | 0, _, _, _, _ => false
  | n + 1, N, nm, is, sts => chkSs (chkS Gam N nm (chkE Gam m N nm) (chkBody Gam m n N nm)) is sts
section
variable {X : Cx} {cf : CF} {k : Nat} {Gam : Info} {m : Nat}
theorem locB_of {x : Str} (h : locB X.env.scope.names x = true) : Loc X.env.scope x := by
  simp only [locB, Bool.or_eq_true, beq_iff_eq] at h
  exact h
theorem ok_tgN (hN : X.N.Nodup) (hfn : ∀ x, X.fn x = true) : ∀ {is : List Nat} {es : List Expr}, tgN X.N X.env.scope.names is es = true → PGs X es (gMany is) ∧ (assignEach es X.env).length = is.length ∧ (assignEach es X.env).findIdx? (·.1) = none
  | [], [], _ => ⟨pgs_nil, rfl, rfl⟩
  | i :: is, [], h => nomatch (show false = true from h)
  | [], _ :: _, h => nomatch (show false = true from h)
  | i :: is, e :: es, h => by
    obtain ⟨h1, h2⟩ := (Bool.and_eq_true _ _).mp (show ((onName e fun x _ => X.N[i]? == some x && locB X.env.scope.names x) && tgN X.N X.env.scope.names is es) = true from h)
    obtain ⟨q1, q2, q3⟩ := ok_tgN hN hfn h2
    clear h
    refine onName_el h1 fun x p h => ?_
    simp only [Bool.and_eq_true, beq_iff_eq] at h
    refine ⟨pgs_cons (pg_name hN h.1 (locB_of h.2) (.inl (hfn x))) q1 rfl, ?_, ?_⟩
    · show (assignEach es X.env).length + 1 = is.length + 1
      rw [q2]
    · show List.findIdx? _ ((false, _) :: assignEach es X.env) = none
      rw [List.findIdx?_cons, q3]
      rfl
theorem ok_tgB (hc : X.calm = true) (hN : X.N.Nodup) (hfn : ∀ x, X.fn x = true) {t : Tg} {e : Expr} (h : tgB X.N X.env.scope.names t e = true) : PG X e (gS X.K t) := by
  cases t with
  | one i =>
    refine onName_el (show onName e _ = true from h) fun x p h => ?_
    simp only [Bool.and_eq_true, beq_iff_eq] at h
    exact pg_name hN h.1 (locB_of h.2) (.inl (hfn _))
  | many is => exact nomatch (show false = true from h)
theorem isLC_el {v : Expr} {P : Expr → Prop} (h : isLC v = true) (H : ∀ y gs scope pos, P (.ListComp y gs scope pos)) : P v := by
  cases v with
  | ListComp y gs scope pos => exact H y gs scope pos
  | _ => exact nomatch (show false = true from h)
theorem isCompE_el {ie : E} {P : E → Prop} (h : isCompE ie = true) (H : ∀ tg caps it cond elt, P (.comp tg caps it cond elt)) : P ie := by
  cases ie with
  | comp tg caps it cond elt => exact H tg caps it cond elt
  | _ => exact nomatch (show false = true from h)
theorem lstE_of {ie a : E} (h : lstE ie = some a) : ie = .lst a := by
  cases ie with
  | lst b => cases (show some b = some a from h); rfl
  | _ => exact nomatch (show none = some a from h)
theorem ok_setS (g : Good X k cf Gam) (hk : X.env.scope.kind = .function) (hN : X.N.Nodup) (hfn : ∀ x, X.fn x = true) {i : Nat} {ie : E} {x : Str} {v : Expr} {p pos : Pos} (h : setB X.N X.env.scope.names (chkE Gam (m + 1) X.N X.env.scope.names) i ie x v = true) :
    PS X (.Assign [.Name x p] v pos) (tS cf X.K (.set i ie)) := by
  simp only [setB, Bool.and_eq_true, beq_iff_eq, Bool.not_eq_true', Bool.or_eq_true] at h
  obtain ⟨⟨⟨⟨h1, h2⟩, h3⟩, h4⟩, h5⟩ := h
  rcases h4 with hc | ⟨hl, hi⟩
  · exact st_set hN h1 (locB_of h2) (.inl (hfn x)) (chk_ok (cf := cf) (k := k) (Gam := Gam) (m + 1) X g hk ie v h5).pe h3 (swaps_no hc _ _ _)
  · revert h5; revert h3
    refine isLC_el (P := fun v => isPeek ie = false → chkE Gam (m + 1) X.N X.env.scope.names ie v = true → PS X (.Assign [.Name x p] v pos) (tS cf X.K (.set i ie))) hl fun y gs scope cpos => ?_
    refine isCompE_el (P := fun ie => isPeek ie = false → chkE Gam (m + 1) X.N X.env.scope.names ie (.ListComp y gs scope cpos) = true → PS X (.Assign [.Name x p] (.ListComp y gs scope cpos) pos) (tS cf X.K (.set i ie))) hi fun tg caps it cond elt => ?_
    intro h3 h5
    refine comp_form (P := fun v => PS X (.Assign [.Name x p] v pos) (tS cf X.K (.set i (.comp tg caps it cond elt)))) (fun y q scope cpos h => ?_) (show chkComp Gam X.N X.env.scope.names (chkE Gam m X.N X.env.scope.names) (chkE Gam m) tg caps it cond elt (.ListComp y gs scope cpos) = true from h5)
    obtain ⟨tgt, iter, ifs, z⟩ := q
    obtain ⟨rfl, own, c⟩ := comp_data g hk (chk_ok (cf := cf) (k := k) (Gam := Gam) m X g hk) (fun X' g' hk' => chk_ok (cf := cf) (k := k) (Gam := Gam) m X' g' hk') h
    obtain ⟨b, sw, sl⟩ := swaps_comp _ [⟨tgt, iter, ifs, 0⟩] _ _ p x pos.line X.env
    cases b with
    | false => exact st_set hN h1 (locB_of h2) (.inl (hfn x)) (pe_comp g.calm c.cs c.hd c.hown c.hpk c.hit c.hfs c.B) h3 sw
    | true => exact (ps_comp g.calm c.cs c.hd c.hown c.hpk c.hit c.hfs c.B hN h1 (sl rfl) sw).weak (asg_w rfl)
theorem ok_stmt (g : Good X k cf Gam) (hk : X.env.scope.kind = .function) (hN : X.N.Nodup) (hfn : ∀ x, X.fn x = true) {fB : S → List Stmt → Bool} (IHB : ∀ is sts, fB is sts = true → PSs X sts (tS cf X.K is)) {is : S} {st : Stmt}
    (h : chkS Gam X.N X.env.scope.names (chkE Gam (m + 1) X.N X.env.scope.names) fB is st = true) : PS X st (tS cf X.K is) := by
  have IH := chk_ok (cf := cf) (k := k) (Gam := Gam) (m + 1) X g hk
  cases is with
  | set i ie =>
    refine onAsg_el (show onAsg st _ = true from h) fun t v pos h => ?_
    refine onName_el h fun x p h => ?_
    exact ok_setS g hk hN hfn h
  | own i ie =>
    refine onAsg_el (show onAsg st _ = true from h) fun t v pos h => ?_
    refine onName_el h fun x p h => ?_
    refine onList_el h fun es lp h => ?_
    simp only [Bool.and_eq_true, beq_iff_eq] at h
    obtain ⟨⟨h1, h2⟩, h3⟩ := h
    cases hl : lstE ie with
    | none => rw [hl] at h3; exact nomatch (show false = true from h3)
    | some a =>
      rw [hl] at h3
      cases lstE_of hl
      obtain ⟨h4, h5⟩ := (Bool.and_eq_true _ _).mp (show (chkA (chkE Gam (m + 1) X.N X.env.scope.names) a es && (argN a).any (· ≤ 1000)) = true from h3)
      obtain ⟨pa, n, hn, _⟩ := ok_args IH h4
      rw [hn] at h5
      exact st_own hN h1 (locB_of h2) (.inl (hfn x)) pa hn (by simpa using h5)
  | ret ie =>
    refine onRet_el (show onRet st _ = true from h) fun v pos h => ?_
    simp only [Bool.and_eq_true, Bool.not_eq_true'] at h
    exact st_ret (IH _ _ h.2).pe h.1
  | ife c a b =>
    refine onIfS_el (show onIfS st _ = true from h) fun t x y pos h => ?_
    simp only [Bool.and_eq_true] at h
    exact st_ife (IH _ _ h.1.1).pt (IHB _ _ h.1.2) (IHB _ _ h.2)
  | loop t it b =>
    refine onFor_el (show onFor st _ = true from h) fun tgt iter body pos h => ?_
    simp only [Bool.and_eq_true] at h
    obtain ⟨⟨⟨h1, h2⟩, h3⟩, h4⟩ := h
    exact st_loop g.xe g.calm (ok_iter IH g h3) (ok_tgB g.calm hN hfn h1) (IHB _ _ h4) (folded_of IH h2)
  | app i ie =>
    refine onExS_el (show onExS st _ = true from h) fun e pos h => ?_
    refine onCall_el h fun g1 as cpos h => ?_
    refine onAttr_el h fun o mm apos h => ?_
    refine onName_el h fun x p h => ?_
    refine on1_el h fun v h => ?_
    simp only [Bool.and_eq_true, beq_iff_eq, Bool.not_eq_true'] at h
    obtain ⟨⟨⟨⟨⟨⟨⟨h1, h2⟩, h3⟩, h4⟩, h5⟩, h6⟩, h7⟩, h8⟩ := h
    subst h1
    obtain ⟨o1, o2, o3⟩ := okN_of h4
    exact st_app h2 (visB_of h3) o1 o2 (IH _ _ h8).pe h5 h6 (by rw [h7]; simp)
  | _ => exact nomatch (show false = true from h)
theorem ok_stmts {fS : S → Stmt → Bool} (IH : ∀ is st, fS is st = true → PS X st (tS cf X.K is)) : ∀ (is : S) (sts : List Stmt), chkSs fS is sts = true → PSs X sts (tS cf X.K is) := by
  intro is
  induction is with
  | seq a b iha ihb =>
    intro sts h
    unfold chkSs at h
    split at h
    · rename_i heq; cases heq
    · rename_i i b' sts' heq
      injection heq with q1 q2
      subst q1 q2
      exact ss_frz (ihb _ h)
    · rename_i a' b' st rest _ heq
      injection heq with q1 q2
      subst q1 q2
      simp only [Bool.and_eq_true] at h
      exact ss_cons (IH _ _ h.1) (ihb _ h.2)
    · rename_i a' st hna _ _
      exact ss_one (IH _ _ h)
    · cases h
  | nx =>
    intro sts h
    cases sts with
    | nil => exact ss_nil
    | cons st rest =>
      cases rest with
      | nil => exact ss_one (IH _ _ (by simpa [chkSs] using h))
      | cons _ _ => simp [chkSs] at h
  | _ =>
    intro sts h
    cases sts with
    | nil => simp [chkSs] at h
    | cons st rest =>
      cases rest with
      | nil => exact ss_one (IH _ _ (by simpa [chkSs] using h))
      | cons _ _ => simp [chkSs] at h
theorem ok_body (g : Good X k cf Gam) (hk : X.env.scope.kind = .function) (hN : X.N.Nodup) (hfn : ∀ x, X.fn x = true) : ∀ (n : Nat) (is : S) (sts : List Stmt), chkBody Gam (m + 1) n X.N X.env.scope.names is sts = true → PSs X sts (tS cf X.K is)
  | 0, is, sts, h => by cases h
  | n + 1, is, sts, h => ok_stmts (fun is st h => ok_stmt (m := m) g hk hN hfn (ok_body g hk hN hfn n) h) is sts h
end
end DD
set_option Elab.async false
set_option linter.all false
set_option maxRecDepth 100000
set_option maxHeartbeats 1000000
namespace DD
open PySem PySem.Spec PyProof.Rows L2
theorem sr_start {K : PySem.W.Frag} {G H : Hp} {N : List Str} {F : Fn} {vs : List V} {ps : List PV} (s : Sub G H) (r : RpA K G ps vs) (h1 : ps.length = F.np) (h2 : N.length = F.ns) (h3 : F.np ≤ F.ns) :
    SR K G H (L2.start N vs) (DD.start F ps) := by
  have hl := r.length
  have noown : ∀ (i : Nat) (sl : Sl), (DD.start F ps)[i]? = some sl → isOwn sl = false := fun i sl e => by
    have hm := List.mem_of_getElem? e
    simp only [DD.start, List.mem_append, List.mem_map, List.mem_replicate] at hm
    rcases hm with ⟨p, _, rfl⟩ | ⟨_, rfl⟩ <;> rfl
  refine ⟨?_, s, fun i sl o e1 e2 => ?_, fun i j si sj a _ e1 _ o1 _ _ => ?_⟩
  · simp only [L2.start, DD.start, List.length_append, List.length_map, List.length_replicate]
    lia
  · simp only [DD.start] at e1
    simp only [L2.start] at e2
    by_cases hi : i < ps.length
    · rw [List.getElem?_append_left (by simpa using hi)] at e1
      rw [List.getElem?_append_left (by simpa using (by lia : i < vs.length))] at e2
      rw [List.getElem?_map] at e1 e2
      obtain ⟨p, ep⟩ : ∃ p, ps[i]? = some p := ⟨_, List.getElem?_eq_getElem hi⟩
      obtain ⟨v, ev, rv⟩ := r.get ep
      rw [ep] at e1; rw [ev] at e2
      cases e1; cases e2
      exact ⟨v, rfl, rv⟩
    · have hm : sl ∈ List.replicate (F.ns - F.np) Sl.un := by
        rw [List.getElem?_append_right (by simpa using hi)] at e1
        exact List.mem_of_getElem? e1
      rw [(List.mem_replicate.mp hm).2]
      trivial
  · have := noown i si e1
    rw [this] at o1; cases o1
structure DI where
  x : Str
  id : Nat
  st : Stmt
  N : List Str
  ps : List Str
structure Def1 (K : PySem.W.Frag) (mg : Str → Option Value) (T : Tab) (Gam : Info) (d : DI) (f : Addr) (fd : FuncData) : Prop where
  F : Fun K d.x d.x d.st f fd
  b : Binds K fd d.ps []
  m : mg d.x = some (.ref f)
  S : FnScope d.N d.ps (defScope d.st)
  c : ∃ B, T d.id = some B ∧ d.ps.length = B.np ∧ d.N.length = B.ns ∧ B.np ≤ B.ns ∧ chkBody Gam 200 200 d.N (defScope d.st).names B.body (defBody d.st) = true
theorem spD_len {K : PySem.W.Frag} {n : Nat} {r : List PV → Option PV} : ∀ vs H Q E, spD K n r vs H Q E → vs.length = n := fun _ _ _ _ h => h.1
theorem all_ok {P : Program} {w : World} {K : PySem.W.Frag} {mg : Str → Option Value} {base : Heap} {T : Tab} {Gam : Info}
    (hf : ∀ x id n, (x, id, n) ∈ Gam.fns → ∃ d f fd, d.x = x ∧ d.id = id ∧ d.ps.length = n ∧ Def1 K mg T Gam d f fd)
    (hc : ∀ x p, (x, p) ∈ Gam.consts → ∃ u v, mg x = some u ∧ RelV v u ∧ ∀ G, Rp K G p v) (hb : ∀ x ∈ Gam.blts, mg x = none)
    (hd : ∀ x kvs, (x, kvs) ∈ Gam.dcts → ∃ a l vs, mg x = some (.ref a) ∧ (∀ G, RpD K G kvs l) ∧ KV l vs ∧ ∀ h : Heap, K.In h → h.DictOf (mixKind P w) a vs) :
    ∀ (k : Nat) (d : DI) (f : Addr) (fd : FuncData), Def1 K mg T Gam d f fd → FnOk P w K mg base CX0 k f fd d.ps (spD K d.ps.length (run T k d.id))
  | 0, d, f, fd, D => ⟨spD_len, fun A outer s H args us vs Q E hr e0 hbi hv hsp => by
      obtain ⟨_, G, ps, p, _, _, e, _⟩ := hsp
      cases (show (none : Option PV) = some p from e)⟩
  | k + 1, d, f, fd, D => by
    obtain ⟨B, eB, n1, n2, n3, hchk⟩ := D.c
    refine D.F.ok D.S spD_len fun cdv A outer s H vs Q E hr hsp => ?_
    obtain ⟨hl, G, ps, p, sub, r, e, hQ⟩ := hsp
    have g : Good (cxOf CX0 P w K mg base d.N d.x (defScope d.st) f cdv A outer s H E).nox k (run T k) Gam := by
      refine ⟨rfl, rfl, hr, fun x id n hm => ?_, hc, hb, hd⟩
      obtain ⟨d', f', fd', rfl, rfl, rfl, D'⟩ := hf x id n hm
      exact ⟨f', fd', d'.ps, rfl, D'.m, D'.F.kp, D'.b, all_ok hf hc hb hd k d' f' fd' D'⟩
    refine ⟨_, ok_body (m := 199) g D.S.kind D.S.nd (fun _ => rfl) 200 B.body (defBody d.st) hchk, ?_⟩
    have hpl : ps.length = B.np := by rw [r.length, hl, n1]
    have sr := sr_start (N := d.N) (F := B) sub r hpl n2 n3
    unfold run at e
    rw [eB] at e
    simp only [hpl, if_true] at e
    cases ho : evS (run T k) B.body (DD.start B ps) with
    | none => rw [ho] at e; cases e
    | some o =>
      rw [ho] at e
      refine ⟨G, H, G, DD.start B ps, o, ⟨sr, .refl sub, fun i qs a e1 e2 => ?_⟩, ho, ?_⟩
      · exfalso
        have hm := List.mem_of_getElem? e1
        simp only [DD.start, List.mem_append, List.mem_map, List.mem_replicate] at hm
        rcases hm with ⟨p, _, z⟩ | ⟨_, z⟩ <;> cases z
      · cases o with
        | rt q =>
          cases (show some q = some p from e)
          exact fun v G' H' x rv => hQ v G' H' x rv
        | nx ρ =>
          cases (show some PyData.none = some p from e)
          exact fun σ G' H' T' => hQ .non G' H' T'.ex rfl
        | bk ρ => cases (show (none : Option PV) = some p from e)
        | ct ρ => cases (show (none : Option PV) = some p from e)
end DD
set_option Elab.async false
set_option linter.all false
set_option maxRecDepth 100000
set_option maxHeartbeats 1000000
namespace DD
open PySem PySem.Spec PyProof.Rows L2
noncomputable def flatArgs : List PV → List Value → Bool
  | [], [] => true
  | .str s :: ps, .str s' _ :: us => s == s' && PyData.strOk s && decide (s.length ≤ 16777216) && flatArgs ps us
  | .int i :: ps, .int j _ :: us => i == j && flatArgs ps us
  | _, _ => false
theorem flat_of {K : PySem.W.Frag} : ∀ (ps : List PV) {us : List Value}, flatArgs ps us = true → ∃ vs, Vals vs us ∧ ∀ G, RpL K G ps vs := by
  intro ps
  induction ps with
  | nil =>
    intro us h
    cases us with
    | nil => exact ⟨[], .nil, fun _ => rfl⟩
    | cons _ _ => cases h
  | cons p ps ih =>
    intro us h
    cases us with
    | nil => cases p <;> exact nomatch (show false = true from h)
    | cons u us =>
      cases p with
      | str s =>
        cases u with
        | str s' t =>
          have h' : (s == s' && PyData.strOk s && decide (s.length ≤ 16777216) && flatArgs ps us) = true := h
          simp only [Bool.and_eq_true, beq_iff_eq, decide_eq_true_eq] at h'
          obtain ⟨⟨⟨rfl, h1⟩, h2⟩, h3⟩ := h'
          obtain ⟨vs, a, b⟩ := ih h3
          exact ⟨.str _ :: vs, .cons ⟨t, rfl⟩ a, fun G => ⟨.str _, vs, rfl, ⟨rfl, rfl, h1, h2⟩, b G⟩⟩
        | _ => exact nomatch (show false = true from h)
      | int i =>
        cases u with
        | int j t =>
          obtain ⟨h1, h3⟩ := (Bool.and_eq_true _ _).mp (show (i == j && flatArgs ps us) = true from h)
          cases eq_of_beq h1
          obtain ⟨vs, a, b⟩ := ih h3
          exact ⟨.int _ :: vs, .cons ⟨t, rfl⟩ a, fun G => ⟨.int _, vs, rfl, ⟨rfl, rfl⟩, b G⟩⟩
        | _ => exact nomatch (show false = true from h)
      | _ => exact nomatch (show false = true from h)
theorem con_tup {K : PySem.W.Frag} {mg : Str → Option Value} {x : Str} {a : Addr} {od : Option Addr} {its : Array Value} {n : Nat} {sl : Array (Option Value)} {ps : List PV} (hm : mg x = some (.ref a))
    (hl : K.lookup a = some ⟨.type "tuple", od, .seq its n, sl⟩) (h : flatArgs ps its.toList = true) (hs : its.size ≤ sizeLine) : ∃ u v, mg x = some u ∧ RelV v u ∧ ∀ G, Rp K G (.tuple ps) v := by
  obtain ⟨vs, r, b⟩ := flat_of (K := K) _ h
  exact ⟨.ref a, .ref a, hm, rfl, fun G => ⟨a, vs, rfl, .inr ⟨_, its, n, hl, rfl, rfl, hs, r⟩, b G⟩⟩
theorem con_str {K : PySem.W.Frag} {mg : Str → Option Value} {x s : Str} {t : Tok} (hm : mg x = some (.str s t)) (h1 : PyData.strOk s = true) (h2 : s.length ≤ 16777216) : ∃ u v, mg x = some u ∧ RelV v u ∧ ∀ G, Rp K G (.str s) v :=
  ⟨_, .str s, hm, ⟨t, rfl⟩, fun G => ⟨rfl, h1, h2⟩⟩
theorem con_int {K : PySem.W.Frag} {mg : Str → Option Value} {x : Str} {i : Int} {t : Tok} (hm : mg x = some (.int i t)) : ∃ u v, mg x = some u ∧ RelV v u ∧ ∀ G, Rp K G (.int i) v :=
  ⟨_, .int i, hm, ⟨t, rfl⟩, fun G => rfl⟩
@[elab_as_elim] theorem lens1 {P : List Value → Prop} (h : ∀ a, P [a]) (us : List Value) (hl : us.length = 1) : P us := by
  cases us with
  | nil => cases hl
  | cons a us =>
    cases List.length_eq_zero_iff.mp (Nat.succ.inj hl)
    exact h a
@[elab_as_elim] theorem lens2 {P : List Value → Prop} (h : ∀ a b, P [a, b]) (us : List Value) (hl : us.length = 2) : P us := by
  cases us with
  | nil => cases hl
  | cons a us => exact lens1 (P := fun r => P (a :: r)) (h a) us (Nat.succ.inj hl)
@[elab_as_elim] theorem lens3 {P : List Value → Prop} (h : ∀ a b c, P [a, b, c]) (us : List Value) (hl : us.length = 3) : P us := by
  cases us with
  | nil => cases hl
  | cons a us => exact lens2 (P := fun r => P (a :: r)) (h a) us (Nat.succ.inj hl)
theorem rpL_ints {K : PySem.W.Frag} {G : Hp} : ∀ ns : List Int, RpL K G (ns.map .int) (ns.map V.int)
  | [] => rfl
  | n :: ns => ⟨_, _, rfl, ⟨rfl, rfl⟩, rpL_ints ns⟩
theorem sp_law {K : PySem.W.Frag} {r : List PV → Option PV} {H : Hp} {a : Addr} {ns : List Int} (h : r [.list (ns.map .int)] = some (.bool true)) (hS : SqL K H a (ns.map V.int)) :
    spD K 1 r [.ref a] H (fun v _ => v = .bl true) fun _ _ _ => False :=
  ⟨rfl, H, [.list (ns.map .int)], _, .refl _, ⟨.ref a, [], rfl, ⟨a, _, rfl, hS, rpL_ints ns⟩, rfl⟩, h, fun v G' H' x r => r⟩
end DD
set_option Elab.async false
set_option linter.all false
set_option maxRecDepth 100000
set_option maxHeartbeats 4000000
namespace K01
open PySem PySem.Spec PyProof.Rows L2 DD
noncomputable def top (i : Nat) : Stmt := PySem.Challenge.pw_twonamed_k01_things.main.body.getD i (.Pass ⟨0, 0, 0, 0⟩)
noncomputable def Gam : Info := {
  fns := [("is_tuple_of", 0, 2), ("is_whole", 1, 1), ("is_mark_form", 2, 1), ("is_arrow_form", 3, 1), ("is_flat_form", 4, 1), ("is_form_within", 5, 2), ("is_form", 6, 1), ("is_demand", 7, 1), ("count_marks", 8, 1), ("is_row", 9, 1), ("is_number_below", 10, 2), ("is_arrow", 11, 2), ("rises", 12, 1), ("are_marked", 13, 2), ("are_arrows", 14, 2), ("is_world", 15, 1), ("_law_cell_at", 16, 2), ("_law_mixed", 17, 2), ("_law_drawn", 18, 2), ("_law_form", 19, 2), ("_law_demand", 20, 2), ("_law_row", 21, 2), ("_law_world", 22, 2), ("_law_odd", 23, 1), ("_law_spoilt", 24, 3), ("_law_number", 25, 2), ("_law_is_form", 26, 2), ("_law_is_row", 27, 1), ("_law_is_world", 28, 1), ("_law_same", 29, 2), ("law", 30, 1)]
  consts := [("PLAIN_FORMS", .tuple [.str "yes", .str "no"]), ("MARK_WORDS", .tuple [.str "a", .str "b"]), ("ARROW_WORD", .str "to"), ("NOT_WORD", .str "not"), ("PAIRING_WORDS", .tuple [.str "both", .str "either"]), ("NAMES", .tuple [.str "x", .str "y"]), ("DEEPEST_FORM", .int (5)), ("DEMAND_WORDS", .tuple [.str "each", .str "some"]), ("MARK_START", .tuple [.str "some", .str "each"]), ("MOST_DEMANDS", .int (4)), ("MOST_MARKS", .int (2)), ("MOST_THINGS", .int (4))]
  blts := ["all", "bool", "int", "isinstance", "len", "list", "range", "set", "sorted", "str", "tuple"]
  dcts := [] }
noncomputable abbrev d0 : DI := ⟨"is_tuple_of", 0, top 13, ["thing", "length"], ["thing", "length"]⟩
theorem s0 : FnScope d0.N d0.ps (defScope d0.st) := ⟨rfl, rfl, rfl, by decide +kernel, rfl, by decide +kernel, by decide +kernel⟩
theorem c0 : ∃ B, tab d0.id = some B ∧ d0.ps.length = B.np ∧ d0.N.length = B.ns ∧ B.np ≤ B.ns ∧ chkBody Gam 200 200 d0.N (defScope d0.st).names B.body (defBody d0.st) = true := ⟨f0, rfl, rfl, rfl, by decide, by decide +kernel⟩
noncomputable abbrev d1 : DI := ⟨"is_whole", 1, top 14, ["thing"], ["thing"]⟩
theorem s1 : FnScope d1.N d1.ps (defScope d1.st) := ⟨rfl, rfl, rfl, by decide +kernel, rfl, by decide +kernel, by decide +kernel⟩
theorem c1 : ∃ B, tab d1.id = some B ∧ d1.ps.length = B.np ∧ d1.N.length = B.ns ∧ B.np ≤ B.ns ∧ chkBody Gam 200 200 d1.N (defScope d1.st).names B.body (defBody d1.st) = true := ⟨f1, rfl, rfl, rfl, by decide, by decide +kernel⟩
noncomputable abbrev d2 : DI := ⟨"is_mark_form", 2, top 15, ["thing"], ["thing"]⟩
theorem s2 : FnScope d2.N d2.ps (defScope d2.st) := ⟨rfl, rfl, rfl, by decide +kernel, rfl, by decide +kernel, by decide +kernel⟩
theorem c2 : ∃ B, tab d2.id = some B ∧ d2.ps.length = B.np ∧ d2.N.length = B.ns ∧ B.np ≤ B.ns ∧ chkBody Gam 200 200 d2.N (defScope d2.st).names B.body (defBody d2.st) = true := ⟨f2, rfl, rfl, rfl, by decide, by decide +kernel⟩
noncomputable abbrev d3 : DI := ⟨"is_arrow_form", 3, top 16, ["thing"], ["thing"]⟩
theorem s3 : FnScope d3.N d3.ps (defScope d3.st) := ⟨rfl, rfl, rfl, by decide +kernel, rfl, by decide +kernel, by decide +kernel⟩
theorem c3 : ∃ B, tab d3.id = some B ∧ d3.ps.length = B.np ∧ d3.N.length = B.ns ∧ B.np ≤ B.ns ∧ chkBody Gam 200 200 d3.N (defScope d3.st).names B.body (defBody d3.st) = true := ⟨f3, rfl, rfl, rfl, by decide, by decide +kernel⟩
noncomputable abbrev d4 : DI := ⟨"is_flat_form", 4, top 17, ["thing"], ["thing"]⟩
theorem s4 : FnScope d4.N d4.ps (defScope d4.st) := ⟨rfl, rfl, rfl, by decide +kernel, rfl, by decide +kernel, by decide +kernel⟩
theorem c4 : ∃ B, tab d4.id = some B ∧ d4.ps.length = B.np ∧ d4.N.length = B.ns ∧ B.np ≤ B.ns ∧ chkBody Gam 200 200 d4.N (defScope d4.st).names B.body (defBody d4.st) = true := ⟨f4, rfl, rfl, rfl, by decide, by decide +kernel⟩
noncomputable abbrev d5 : DI := ⟨"is_form_within", 5, top 18, ["thing", "depth"], ["thing", "depth"]⟩
theorem s5 : FnScope d5.N d5.ps (defScope d5.st) := ⟨rfl, rfl, rfl, by decide +kernel, rfl, by decide +kernel, by decide +kernel⟩
theorem c5 : ∃ B, tab d5.id = some B ∧ d5.ps.length = B.np ∧ d5.N.length = B.ns ∧ B.np ≤ B.ns ∧ chkBody Gam 200 200 d5.N (defScope d5.st).names B.body (defBody d5.st) = true := ⟨f5, rfl, rfl, rfl, by decide, by decide +kernel⟩
noncomputable abbrev d6 : DI := ⟨"is_form", 6, top 19, ["thing"], ["thing"]⟩
theorem s6 : FnScope d6.N d6.ps (defScope d6.st) := ⟨rfl, rfl, rfl, by decide +kernel, rfl, by decide +kernel, by decide +kernel⟩
theorem c6 : ∃ B, tab d6.id = some B ∧ d6.ps.length = B.np ∧ d6.N.length = B.ns ∧ B.np ≤ B.ns ∧ chkBody Gam 200 200 d6.N (defScope d6.st).names B.body (defBody d6.st) = true := ⟨f6, rfl, rfl, rfl, by decide, by decide +kernel⟩
noncomputable abbrev d7 : DI := ⟨"is_demand", 7, top 20, ["thing"], ["thing"]⟩
theorem s7 : FnScope d7.N d7.ps (defScope d7.st) := ⟨rfl, rfl, rfl, by decide +kernel, rfl, by decide +kernel, by decide +kernel⟩
theorem c7 : ∃ B, tab d7.id = some B ∧ d7.ps.length = B.np ∧ d7.N.length = B.ns ∧ B.np ≤ B.ns ∧ chkBody Gam 200 200 d7.N (defScope d7.st).names B.body (defBody d7.st) = true := ⟨f7, rfl, rfl, rfl, by decide, by decide +kernel⟩
noncomputable abbrev d8 : DI := ⟨"count_marks", 8, top 21, ["demands"], ["demands"]⟩
theorem s8 : FnScope d8.N d8.ps (defScope d8.st) := ⟨rfl, rfl, rfl, by decide +kernel, rfl, by decide +kernel, by decide +kernel⟩
theorem c8 : ∃ B, tab d8.id = some B ∧ d8.ps.length = B.np ∧ d8.N.length = B.ns ∧ B.np ≤ B.ns ∧ chkBody Gam 200 200 d8.N (defScope d8.st).names B.body (defBody d8.st) = true := ⟨f8, rfl, rfl, rfl, by decide, by decide +kernel⟩
noncomputable abbrev d9 : DI := ⟨"is_row", 9, top 22, ["thing"], ["thing"]⟩
theorem s9 : FnScope d9.N d9.ps (defScope d9.st) := ⟨rfl, rfl, rfl, by decide +kernel, rfl, by decide +kernel, by decide +kernel⟩
theorem c9 : ∃ B, tab d9.id = some B ∧ d9.ps.length = B.np ∧ d9.N.length = B.ns ∧ B.np ≤ B.ns ∧ chkBody Gam 200 200 d9.N (defScope d9.st).names B.body (defBody d9.st) = true := ⟨f9, rfl, rfl, rfl, by decide, by decide +kernel⟩
noncomputable abbrev d10 : DI := ⟨"is_number_below", 10, top 23, ["thing", "many"], ["thing", "many"]⟩
theorem s10 : FnScope d10.N d10.ps (defScope d10.st) := ⟨rfl, rfl, rfl, by decide +kernel, rfl, by decide +kernel, by decide +kernel⟩
theorem c10 : ∃ B, tab d10.id = some B ∧ d10.ps.length = B.np ∧ d10.N.length = B.ns ∧ B.np ≤ B.ns ∧ chkBody Gam 200 200 d10.N (defScope d10.st).names B.body (defBody d10.st) = true := ⟨f10, rfl, rfl, rfl, by decide, by decide +kernel⟩
noncomputable abbrev d11 : DI := ⟨"is_arrow", 11, top 24, ["thing", "many"], ["thing", "many"]⟩
theorem s11 : FnScope d11.N d11.ps (defScope d11.st) := ⟨rfl, rfl, rfl, by decide +kernel, rfl, by decide +kernel, by decide +kernel⟩
theorem c11 : ∃ B, tab d11.id = some B ∧ d11.ps.length = B.np ∧ d11.N.length = B.ns ∧ B.np ≤ B.ns ∧ chkBody Gam 200 200 d11.N (defScope d11.st).names B.body (defBody d11.st) = true := ⟨f11, rfl, rfl, rfl, by decide, by decide +kernel⟩
noncomputable abbrev d12 : DI := ⟨"rises", 12, top 25, ["parts"], ["parts"]⟩
theorem s12 : FnScope d12.N d12.ps (defScope d12.st) := ⟨rfl, rfl, rfl, by decide +kernel, rfl, by decide +kernel, by decide +kernel⟩
theorem c12 : ∃ B, tab d12.id = some B ∧ d12.ps.length = B.np ∧ d12.N.length = B.ns ∧ B.np ≤ B.ns ∧ chkBody Gam 200 200 d12.N (defScope d12.st).names B.body (defBody d12.st) = true := ⟨f12, rfl, rfl, rfl, by decide, by decide +kernel⟩
noncomputable abbrev d13 : DI := ⟨"are_marked", 13, top 26, ["thing", "many"], ["thing", "many"]⟩
theorem s13 : FnScope d13.N d13.ps (defScope d13.st) := ⟨rfl, rfl, rfl, by decide +kernel, rfl, by decide +kernel, by decide +kernel⟩
theorem c13 : ∃ B, tab d13.id = some B ∧ d13.ps.length = B.np ∧ d13.N.length = B.ns ∧ B.np ≤ B.ns ∧ chkBody Gam 200 200 d13.N (defScope d13.st).names B.body (defBody d13.st) = true := ⟨f13, rfl, rfl, rfl, by decide, by decide +kernel⟩
noncomputable abbrev d14 : DI := ⟨"are_arrows", 14, top 27, ["thing", "many"], ["thing", "many"]⟩
theorem s14 : FnScope d14.N d14.ps (defScope d14.st) := ⟨rfl, rfl, rfl, by decide +kernel, rfl, by decide +kernel, by decide +kernel⟩
theorem c14 : ∃ B, tab d14.id = some B ∧ d14.ps.length = B.np ∧ d14.N.length = B.ns ∧ B.np ≤ B.ns ∧ chkBody Gam 200 200 d14.N (defScope d14.st).names B.body (defBody d14.st) = true := ⟨f14, rfl, rfl, rfl, by decide, by decide +kernel⟩
noncomputable abbrev d15 : DI := ⟨"is_world", 15, top 28, ["thing", "many"], ["thing"]⟩
theorem s15 : FnScope d15.N d15.ps (defScope d15.st) := ⟨rfl, rfl, rfl, by decide +kernel, rfl, by decide +kernel, by decide +kernel⟩
theorem c15 : ∃ B, tab d15.id = some B ∧ d15.ps.length = B.np ∧ d15.N.length = B.ns ∧ B.np ≤ B.ns ∧ chkBody Gam 200 200 d15.N (defScope d15.st).names B.body (defBody d15.st) = true := ⟨f15, rfl, rfl, rfl, by decide, by decide +kernel⟩
noncomputable abbrev d16 : DI := ⟨"_law_cell_at", 16, top 30, ["_law_script", "_law_k"], ["_law_script", "_law_k"]⟩
theorem s16 : FnScope d16.N d16.ps (defScope d16.st) := ⟨rfl, rfl, rfl, by decide +kernel, rfl, by decide +kernel, by decide +kernel⟩
theorem c16 : ∃ B, tab d16.id = some B ∧ d16.ps.length = B.np ∧ d16.N.length = B.ns ∧ B.np ≤ B.ns ∧ chkBody Gam 200 200 d16.N (defScope d16.st).names B.body (defBody d16.st) = true := ⟨f16, rfl, rfl, rfl, by decide, by decide +kernel⟩
noncomputable abbrev d17 : DI := ⟨"_law_mixed", 17, top 31, ["_law_script", "_law_k", "_law_drawn_here"], ["_law_script", "_law_k"]⟩
theorem s17 : FnScope d17.N d17.ps (defScope d17.st) := ⟨rfl, rfl, rfl, by decide +kernel, rfl, by decide +kernel, by decide +kernel⟩
theorem c17 : ∃ B, tab d17.id = some B ∧ d17.ps.length = B.np ∧ d17.N.length = B.ns ∧ B.np ≤ B.ns ∧ chkBody Gam 200 200 d17.N (defScope d17.st).names B.body (defBody d17.st) = true := ⟨f17, rfl, rfl, rfl, by decide, by decide +kernel⟩
noncomputable abbrev d18 : DI := ⟨"_law_drawn", 18, top 32, ["_law_number_here", "_law_k", "_law_drawn_here"], ["_law_number_here", "_law_k"]⟩
theorem s18 : FnScope d18.N d18.ps (defScope d18.st) := ⟨rfl, rfl, rfl, by decide +kernel, rfl, by decide +kernel, by decide +kernel⟩
theorem c18 : ∃ B, tab d18.id = some B ∧ d18.ps.length = B.np ∧ d18.N.length = B.ns ∧ B.np ≤ B.ns ∧ chkBody Gam 200 200 d18.N (defScope d18.st).names B.body (defBody d18.st) = true := ⟨f18, rfl, rfl, rfl, by decide, by decide +kernel⟩
noncomputable abbrev d19 : DI := ⟨"_law_form", 19, top 33, ["_law_number_here", "_law_deep", "_law_kind", "_law_some", "_law_one", "_law_other"], ["_law_number_here", "_law_deep"]⟩
theorem s19 : FnScope d19.N d19.ps (defScope d19.st) := ⟨rfl, rfl, rfl, by decide +kernel, rfl, by decide +kernel, by decide +kernel⟩
theorem c19 : ∃ B, tab d19.id = some B ∧ d19.ps.length = B.np ∧ d19.N.length = B.ns ∧ B.np ≤ B.ns ∧ chkBody Gam 200 200 d19.N (defScope d19.st).names B.body (defBody d19.st) = true := ⟨f19, rfl, rfl, rfl, by decide, by decide +kernel⟩
noncomputable abbrev d20 : DI := ⟨"_law_demand", 20, top 34, ["_law_number_here", "_law_deep", "_law_one", "_law_other"], ["_law_number_here", "_law_deep"]⟩
theorem s20 : FnScope d20.N d20.ps (defScope d20.st) := ⟨rfl, rfl, rfl, by decide +kernel, rfl, by decide +kernel, by decide +kernel⟩
theorem c20 : ∃ B, tab d20.id = some B ∧ d20.ps.length = B.np ∧ d20.N.length = B.ns ∧ B.np ≤ B.ns ∧ chkBody Gam 200 200 d20.N (defScope d20.st).names B.body (defBody d20.st) = true := ⟨f20, rfl, rfl, rfl, by decide, by decide +kernel⟩
noncomputable abbrev d21 : DI := ⟨"_law_row", 21, top 35, ["_law_number_here", "_law_most", "_law_found", "_law_k", "_law_demand_here", "_law_marks"], ["_law_number_here", "_law_most"]⟩
theorem s21 : FnScope d21.N d21.ps (defScope d21.st) := ⟨rfl, rfl, rfl, by decide +kernel, rfl, by decide +kernel, by decide +kernel⟩
theorem c21 : ∃ B, tab d21.id = some B ∧ d21.ps.length = B.np ∧ d21.N.length = B.ns ∧ B.np ≤ B.ns ∧ chkBody Gam 200 200 d21.N (defScope d21.st).names B.body (defBody d21.st) = true := ⟨f21, rfl, rfl, rfl, by decide, by decide +kernel⟩
noncomputable abbrev d22 : DI := ⟨"_law_world", 22, top 36, ["_law_number_here", "_law_most", "_law_many", "_law_marked", "_law_at", "_law_arrows", "_law_share", "_law_one", "_law_other"], ["_law_number_here", "_law_most"]⟩
theorem s22 : FnScope d22.N d22.ps (defScope d22.st) := ⟨rfl, rfl, rfl, by decide +kernel, rfl, by decide +kernel, by decide +kernel⟩
theorem c22 : ∃ B, tab d22.id = some B ∧ d22.ps.length = B.np ∧ d22.N.length = B.ns ∧ B.np ≤ B.ns ∧ chkBody Gam 200 200 d22.N (defScope d22.st).names B.body (defBody d22.st) = true := ⟨f22, rfl, rfl, rfl, by decide, by decide +kernel⟩
noncomputable abbrev d23 : DI := ⟨"_law_odd", 23, top 37, ["_law_number_here", "_law_some"], ["_law_number_here"]⟩
theorem s23 : FnScope d23.N d23.ps (defScope d23.st) := ⟨rfl, rfl, rfl, by decide +kernel, rfl, by decide +kernel, by decide +kernel⟩
theorem c23 : ∃ B, tab d23.id = some B ∧ d23.ps.length = B.np ∧ d23.N.length = B.ns ∧ B.np ≤ B.ns ∧ chkBody Gam 200 200 d23.N (defScope d23.st).names B.body (defBody d23.st) = true := ⟨f23, rfl, rfl, rfl, by decide, by decide +kernel⟩
noncomputable abbrev d24 : DI := ⟨"_law_spoilt", 24, top 38, ["_law_thing", "_law_number_here", "_law_deep", "_law_at", "_law_part"], ["_law_thing", "_law_number_here", "_law_deep"]⟩
theorem s24 : FnScope d24.N d24.ps (defScope d24.st) := ⟨rfl, rfl, rfl, by decide +kernel, rfl, by decide +kernel, by decide +kernel⟩
theorem c24 : ∃ B, tab d24.id = some B ∧ d24.ps.length = B.np ∧ d24.N.length = B.ns ∧ B.np ≤ B.ns ∧ chkBody Gam 200 200 d24.N (defScope d24.st).names B.body (defBody d24.st) = true := ⟨f24, rfl, rfl, rfl, by decide, by decide +kernel⟩
noncomputable abbrev d25 : DI := ⟨"_law_number", 25, top 39, ["_law_thing", "_law_high"], ["_law_thing", "_law_high"]⟩
theorem s25 : FnScope d25.N d25.ps (defScope d25.st) := ⟨rfl, rfl, rfl, by decide +kernel, rfl, by decide +kernel, by decide +kernel⟩
theorem c25 : ∃ B, tab d25.id = some B ∧ d25.ps.length = B.np ∧ d25.N.length = B.ns ∧ B.np ≤ B.ns ∧ chkBody Gam 200 200 d25.N (defScope d25.st).names B.body (defBody d25.st) = true := ⟨f25, rfl, rfl, rfl, by decide, by decide +kernel⟩
noncomputable abbrev d26 : DI := ⟨"_law_is_form", 26, top 40, ["_law_thing", "_law_deep"], ["_law_thing", "_law_deep"]⟩
theorem s26 : FnScope d26.N d26.ps (defScope d26.st) := ⟨rfl, rfl, rfl, by decide +kernel, rfl, by decide +kernel, by decide +kernel⟩
theorem c26 : ∃ B, tab d26.id = some B ∧ d26.ps.length = B.np ∧ d26.N.length = B.ns ∧ B.np ≤ B.ns ∧ chkBody Gam 200 200 d26.N (defScope d26.st).names B.body (defBody d26.st) = true := ⟨f26, rfl, rfl, rfl, by decide, by decide +kernel⟩
noncomputable abbrev d27 : DI := ⟨"_law_is_row", 27, top 41, ["_law_thing", "_law_marks", "_law_part", "_law_word"], ["_law_thing"]⟩
theorem s27 : FnScope d27.N d27.ps (defScope d27.st) := ⟨rfl, rfl, rfl, by decide +kernel, rfl, by decide +kernel, by decide +kernel⟩
theorem c27 : ∃ B, tab d27.id = some B ∧ d27.ps.length = B.np ∧ d27.N.length = B.ns ∧ B.np ≤ B.ns ∧ chkBody Gam 200 200 d27.N (defScope d27.st).names B.body (defBody d27.st) = true := ⟨f27, rfl, rfl, rfl, by decide, by decide +kernel⟩
noncomputable abbrev d28 : DI := ⟨"_law_is_world", 28, top 42, ["_law_thing", "_law_some", "_law_pair"], ["_law_thing"]⟩
theorem s28 : FnScope d28.N d28.ps (defScope d28.st) := ⟨rfl, rfl, rfl, by decide +kernel, rfl, by decide +kernel, by decide +kernel⟩
theorem c28 : ∃ B, tab d28.id = some B ∧ d28.ps.length = B.np ∧ d28.N.length = B.ns ∧ B.np ≤ B.ns ∧ chkBody Gam 200 200 d28.N (defScope d28.st).names B.body (defBody d28.st) = true := ⟨f28, rfl, rfl, rfl, by decide, by decide +kernel⟩
noncomputable abbrev d29 : DI := ⟨"_law_same", 29, top 43, ["_law_found", "_law_due"], ["_law_found", "_law_due"]⟩
theorem s29 : FnScope d29.N d29.ps (defScope d29.st) := ⟨rfl, rfl, rfl, by decide +kernel, rfl, by decide +kernel, by decide +kernel⟩
theorem c29 : ∃ B, tab d29.id = some B ∧ d29.ps.length = B.np ∧ d29.N.length = B.ns ∧ B.np ≤ B.ns ∧ chkBody Gam 200 200 d29.N (defScope d29.st).names B.body (defBody d29.st) = true := ⟨f29, rfl, rfl, rfl, by decide, by decide +kernel⟩
noncomputable abbrev d30 : DI := ⟨"law", 30, top 44, ["_law_script", "_law_number_here", "_law_thing", "_law_k"], ["_law_script"]⟩
theorem s30 : FnScope d30.N d30.ps (defScope d30.st) := ⟨rfl, rfl, rfl, by decide +kernel, rfl, by decide +kernel, by decide +kernel⟩
theorem c30 : ∃ B, tab d30.id = some B ∧ d30.ps.length = B.np ∧ d30.N.length = B.ns ∧ B.np ≤ B.ns ∧ chkBody Gam 200 200 d30.N (defScope d30.st).names B.body (defBody d30.st) = true := ⟨f30, rfl, rfl, rfl, by decide, by decide +kernel⟩
theorem all_mk {l : PySem.W.OpenLaw} {w : World} {K : PySem.W.Frag} {h : Heap} {mg : Str → Option Value} {fa : Addr} (X : K.In h) (G : h.Ns mainGlobals mg) (hfa : mg "law" = some (.ref fa))
    {f0 : Addr} {od0 an0 : Option Addr} {sl0 : Array (Option Value)} {oc0 kV0 dc0 pm0 cd0 ct0 : Value}
    (a0 : PySem.W.nsIn K mainGlobals "is_tuple_of" = some (some (.ref f0))) (l0 : K.lookup f0 = some ⟨oc0, od0, .func (PySem.W.fnOf "is_tuple_of" "is_tuple_of" (defArgs (top 13)) (defBody (top 13)) (defScope (top 13)) .none kV0 dc0 pm0 an0 cd0 ct0), sl0⟩) (c0 : PySem.W.codeIn K cd0 "is_tuple_of" = true) (k0 : PySem.W.keepIn K (.ref f0) = true)
    {f1 : Addr} {od1 an1 : Option Addr} {sl1 : Array (Option Value)} {oc1 kV1 dc1 pm1 cd1 ct1 : Value}
    (a1 : PySem.W.nsIn K mainGlobals "is_whole" = some (some (.ref f1))) (l1 : K.lookup f1 = some ⟨oc1, od1, .func (PySem.W.fnOf "is_whole" "is_whole" (defArgs (top 14)) (defBody (top 14)) (defScope (top 14)) .none kV1 dc1 pm1 an1 cd1 ct1), sl1⟩) (c1 : PySem.W.codeIn K cd1 "is_whole" = true) (k1 : PySem.W.keepIn K (.ref f1) = true)
    {f2 : Addr} {od2 an2 : Option Addr} {sl2 : Array (Option Value)} {oc2 kV2 dc2 pm2 cd2 ct2 : Value}
    (a2 : PySem.W.nsIn K mainGlobals "is_mark_form" = some (some (.ref f2))) (l2 : K.lookup f2 = some ⟨oc2, od2, .func (PySem.W.fnOf "is_mark_form" "is_mark_form" (defArgs (top 15)) (defBody (top 15)) (defScope (top 15)) .none kV2 dc2 pm2 an2 cd2 ct2), sl2⟩) (c2 : PySem.W.codeIn K cd2 "is_mark_form" = true) (k2 : PySem.W.keepIn K (.ref f2) = true)
    {f3 : Addr} {od3 an3 : Option Addr} {sl3 : Array (Option Value)} {oc3 kV3 dc3 pm3 cd3 ct3 : Value}
    (a3 : PySem.W.nsIn K mainGlobals "is_arrow_form" = some (some (.ref f3))) (l3 : K.lookup f3 = some ⟨oc3, od3, .func (PySem.W.fnOf "is_arrow_form" "is_arrow_form" (defArgs (top 16)) (defBody (top 16)) (defScope (top 16)) .none kV3 dc3 pm3 an3 cd3 ct3), sl3⟩) (c3 : PySem.W.codeIn K cd3 "is_arrow_form" = true) (k3 : PySem.W.keepIn K (.ref f3) = true)
    {f4 : Addr} {od4 an4 : Option Addr} {sl4 : Array (Option Value)} {oc4 kV4 dc4 pm4 cd4 ct4 : Value}
    (a4 : PySem.W.nsIn K mainGlobals "is_flat_form" = some (some (.ref f4))) (l4 : K.lookup f4 = some ⟨oc4, od4, .func (PySem.W.fnOf "is_flat_form" "is_flat_form" (defArgs (top 17)) (defBody (top 17)) (defScope (top 17)) .none kV4 dc4 pm4 an4 cd4 ct4), sl4⟩) (c4 : PySem.W.codeIn K cd4 "is_flat_form" = true) (k4 : PySem.W.keepIn K (.ref f4) = true)
    {f5 : Addr} {od5 an5 : Option Addr} {sl5 : Array (Option Value)} {oc5 kV5 dc5 pm5 cd5 ct5 : Value}
    (a5 : PySem.W.nsIn K mainGlobals "is_form_within" = some (some (.ref f5))) (l5 : K.lookup f5 = some ⟨oc5, od5, .func (PySem.W.fnOf "is_form_within" "is_form_within" (defArgs (top 18)) (defBody (top 18)) (defScope (top 18)) .none kV5 dc5 pm5 an5 cd5 ct5), sl5⟩) (c5 : PySem.W.codeIn K cd5 "is_form_within" = true) (k5 : PySem.W.keepIn K (.ref f5) = true)
    {f6 : Addr} {od6 an6 : Option Addr} {sl6 : Array (Option Value)} {oc6 kV6 dc6 pm6 cd6 ct6 : Value}
    (a6 : PySem.W.nsIn K mainGlobals "is_form" = some (some (.ref f6))) (l6 : K.lookup f6 = some ⟨oc6, od6, .func (PySem.W.fnOf "is_form" "is_form" (defArgs (top 19)) (defBody (top 19)) (defScope (top 19)) .none kV6 dc6 pm6 an6 cd6 ct6), sl6⟩) (c6 : PySem.W.codeIn K cd6 "is_form" = true) (k6 : PySem.W.keepIn K (.ref f6) = true)
    {f7 : Addr} {od7 an7 : Option Addr} {sl7 : Array (Option Value)} {oc7 kV7 dc7 pm7 cd7 ct7 : Value}
    (a7 : PySem.W.nsIn K mainGlobals "is_demand" = some (some (.ref f7))) (l7 : K.lookup f7 = some ⟨oc7, od7, .func (PySem.W.fnOf "is_demand" "is_demand" (defArgs (top 20)) (defBody (top 20)) (defScope (top 20)) .none kV7 dc7 pm7 an7 cd7 ct7), sl7⟩) (c7 : PySem.W.codeIn K cd7 "is_demand" = true) (k7 : PySem.W.keepIn K (.ref f7) = true)
    {f8 : Addr} {od8 an8 : Option Addr} {sl8 : Array (Option Value)} {oc8 kV8 dc8 pm8 cd8 ct8 : Value}
    (a8 : PySem.W.nsIn K mainGlobals "count_marks" = some (some (.ref f8))) (l8 : K.lookup f8 = some ⟨oc8, od8, .func (PySem.W.fnOf "count_marks" "count_marks" (defArgs (top 21)) (defBody (top 21)) (defScope (top 21)) .none kV8 dc8 pm8 an8 cd8 ct8), sl8⟩) (c8 : PySem.W.codeIn K cd8 "count_marks" = true) (k8 : PySem.W.keepIn K (.ref f8) = true)
    {f9 : Addr} {od9 an9 : Option Addr} {sl9 : Array (Option Value)} {oc9 kV9 dc9 pm9 cd9 ct9 : Value}
    (a9 : PySem.W.nsIn K mainGlobals "is_row" = some (some (.ref f9))) (l9 : K.lookup f9 = some ⟨oc9, od9, .func (PySem.W.fnOf "is_row" "is_row" (defArgs (top 22)) (defBody (top 22)) (defScope (top 22)) .none kV9 dc9 pm9 an9 cd9 ct9), sl9⟩) (c9 : PySem.W.codeIn K cd9 "is_row" = true) (k9 : PySem.W.keepIn K (.ref f9) = true)
    {f10 : Addr} {od10 an10 : Option Addr} {sl10 : Array (Option Value)} {oc10 kV10 dc10 pm10 cd10 ct10 : Value}
    (a10 : PySem.W.nsIn K mainGlobals "is_number_below" = some (some (.ref f10))) (l10 : K.lookup f10 = some ⟨oc10, od10, .func (PySem.W.fnOf "is_number_below" "is_number_below" (defArgs (top 23)) (defBody (top 23)) (defScope (top 23)) .none kV10 dc10 pm10 an10 cd10 ct10), sl10⟩) (c10 : PySem.W.codeIn K cd10 "is_number_below" = true) (k10 : PySem.W.keepIn K (.ref f10) = true)
    {f11 : Addr} {od11 an11 : Option Addr} {sl11 : Array (Option Value)} {oc11 kV11 dc11 pm11 cd11 ct11 : Value}
    (a11 : PySem.W.nsIn K mainGlobals "is_arrow" = some (some (.ref f11))) (l11 : K.lookup f11 = some ⟨oc11, od11, .func (PySem.W.fnOf "is_arrow" "is_arrow" (defArgs (top 24)) (defBody (top 24)) (defScope (top 24)) .none kV11 dc11 pm11 an11 cd11 ct11), sl11⟩) (c11 : PySem.W.codeIn K cd11 "is_arrow" = true) (k11 : PySem.W.keepIn K (.ref f11) = true)
    {f12 : Addr} {od12 an12 : Option Addr} {sl12 : Array (Option Value)} {oc12 kV12 dc12 pm12 cd12 ct12 : Value}
    (a12 : PySem.W.nsIn K mainGlobals "rises" = some (some (.ref f12))) (l12 : K.lookup f12 = some ⟨oc12, od12, .func (PySem.W.fnOf "rises" "rises" (defArgs (top 25)) (defBody (top 25)) (defScope (top 25)) .none kV12 dc12 pm12 an12 cd12 ct12), sl12⟩) (c12 : PySem.W.codeIn K cd12 "rises" = true) (k12 : PySem.W.keepIn K (.ref f12) = true)
    {f13 : Addr} {od13 an13 : Option Addr} {sl13 : Array (Option Value)} {oc13 kV13 dc13 pm13 cd13 ct13 : Value}
    (a13 : PySem.W.nsIn K mainGlobals "are_marked" = some (some (.ref f13))) (l13 : K.lookup f13 = some ⟨oc13, od13, .func (PySem.W.fnOf "are_marked" "are_marked" (defArgs (top 26)) (defBody (top 26)) (defScope (top 26)) .none kV13 dc13 pm13 an13 cd13 ct13), sl13⟩) (c13 : PySem.W.codeIn K cd13 "are_marked" = true) (k13 : PySem.W.keepIn K (.ref f13) = true)
    {f14 : Addr} {od14 an14 : Option Addr} {sl14 : Array (Option Value)} {oc14 kV14 dc14 pm14 cd14 ct14 : Value}
    (a14 : PySem.W.nsIn K mainGlobals "are_arrows" = some (some (.ref f14))) (l14 : K.lookup f14 = some ⟨oc14, od14, .func (PySem.W.fnOf "are_arrows" "are_arrows" (defArgs (top 27)) (defBody (top 27)) (defScope (top 27)) .none kV14 dc14 pm14 an14 cd14 ct14), sl14⟩) (c14 : PySem.W.codeIn K cd14 "are_arrows" = true) (k14 : PySem.W.keepIn K (.ref f14) = true)
    {f15 : Addr} {od15 an15 : Option Addr} {sl15 : Array (Option Value)} {oc15 kV15 dc15 pm15 cd15 ct15 : Value}
    (a15 : PySem.W.nsIn K mainGlobals "is_world" = some (some (.ref f15))) (l15 : K.lookup f15 = some ⟨oc15, od15, .func (PySem.W.fnOf "is_world" "is_world" (defArgs (top 28)) (defBody (top 28)) (defScope (top 28)) .none kV15 dc15 pm15 an15 cd15 ct15), sl15⟩) (c15 : PySem.W.codeIn K cd15 "is_world" = true) (k15 : PySem.W.keepIn K (.ref f15) = true)
    {f16 : Addr} {od16 an16 : Option Addr} {sl16 : Array (Option Value)} {oc16 kV16 dc16 pm16 cd16 ct16 : Value}
    (a16 : PySem.W.nsIn K mainGlobals "_law_cell_at" = some (some (.ref f16))) (l16 : K.lookup f16 = some ⟨oc16, od16, .func (PySem.W.fnOf "_law_cell_at" "_law_cell_at" (defArgs (top 30)) (defBody (top 30)) (defScope (top 30)) .none kV16 dc16 pm16 an16 cd16 ct16), sl16⟩) (c16 : PySem.W.codeIn K cd16 "_law_cell_at" = true) (k16 : PySem.W.keepIn K (.ref f16) = true)
    {f17 : Addr} {od17 an17 : Option Addr} {sl17 : Array (Option Value)} {oc17 kV17 dc17 pm17 cd17 ct17 : Value}
    (a17 : PySem.W.nsIn K mainGlobals "_law_mixed" = some (some (.ref f17))) (l17 : K.lookup f17 = some ⟨oc17, od17, .func (PySem.W.fnOf "_law_mixed" "_law_mixed" (defArgs (top 31)) (defBody (top 31)) (defScope (top 31)) .none kV17 dc17 pm17 an17 cd17 ct17), sl17⟩) (c17 : PySem.W.codeIn K cd17 "_law_mixed" = true) (k17 : PySem.W.keepIn K (.ref f17) = true)
    {f18 : Addr} {od18 an18 : Option Addr} {sl18 : Array (Option Value)} {oc18 kV18 dc18 pm18 cd18 ct18 : Value}
    (a18 : PySem.W.nsIn K mainGlobals "_law_drawn" = some (some (.ref f18))) (l18 : K.lookup f18 = some ⟨oc18, od18, .func (PySem.W.fnOf "_law_drawn" "_law_drawn" (defArgs (top 32)) (defBody (top 32)) (defScope (top 32)) .none kV18 dc18 pm18 an18 cd18 ct18), sl18⟩) (c18 : PySem.W.codeIn K cd18 "_law_drawn" = true) (k18 : PySem.W.keepIn K (.ref f18) = true)
    {f19 : Addr} {od19 an19 : Option Addr} {sl19 : Array (Option Value)} {oc19 kV19 dc19 pm19 cd19 ct19 : Value}
    (a19 : PySem.W.nsIn K mainGlobals "_law_form" = some (some (.ref f19))) (l19 : K.lookup f19 = some ⟨oc19, od19, .func (PySem.W.fnOf "_law_form" "_law_form" (defArgs (top 33)) (defBody (top 33)) (defScope (top 33)) .none kV19 dc19 pm19 an19 cd19 ct19), sl19⟩) (c19 : PySem.W.codeIn K cd19 "_law_form" = true) (k19 : PySem.W.keepIn K (.ref f19) = true)
    {f20 : Addr} {od20 an20 : Option Addr} {sl20 : Array (Option Value)} {oc20 kV20 dc20 pm20 cd20 ct20 : Value}
    (a20 : PySem.W.nsIn K mainGlobals "_law_demand" = some (some (.ref f20))) (l20 : K.lookup f20 = some ⟨oc20, od20, .func (PySem.W.fnOf "_law_demand" "_law_demand" (defArgs (top 34)) (defBody (top 34)) (defScope (top 34)) .none kV20 dc20 pm20 an20 cd20 ct20), sl20⟩) (c20 : PySem.W.codeIn K cd20 "_law_demand" = true) (k20 : PySem.W.keepIn K (.ref f20) = true)
    {f21 : Addr} {od21 an21 : Option Addr} {sl21 : Array (Option Value)} {oc21 kV21 dc21 pm21 cd21 ct21 : Value}
    (a21 : PySem.W.nsIn K mainGlobals "_law_row" = some (some (.ref f21))) (l21 : K.lookup f21 = some ⟨oc21, od21, .func (PySem.W.fnOf "_law_row" "_law_row" (defArgs (top 35)) (defBody (top 35)) (defScope (top 35)) .none kV21 dc21 pm21 an21 cd21 ct21), sl21⟩) (c21 : PySem.W.codeIn K cd21 "_law_row" = true) (k21 : PySem.W.keepIn K (.ref f21) = true)
    {f22 : Addr} {od22 an22 : Option Addr} {sl22 : Array (Option Value)} {oc22 kV22 dc22 pm22 cd22 ct22 : Value}
    (a22 : PySem.W.nsIn K mainGlobals "_law_world" = some (some (.ref f22))) (l22 : K.lookup f22 = some ⟨oc22, od22, .func (PySem.W.fnOf "_law_world" "_law_world" (defArgs (top 36)) (defBody (top 36)) (defScope (top 36)) .none kV22 dc22 pm22 an22 cd22 ct22), sl22⟩) (c22 : PySem.W.codeIn K cd22 "_law_world" = true) (k22 : PySem.W.keepIn K (.ref f22) = true)
    {f23 : Addr} {od23 an23 : Option Addr} {sl23 : Array (Option Value)} {oc23 kV23 dc23 pm23 cd23 ct23 : Value}
    (a23 : PySem.W.nsIn K mainGlobals "_law_odd" = some (some (.ref f23))) (l23 : K.lookup f23 = some ⟨oc23, od23, .func (PySem.W.fnOf "_law_odd" "_law_odd" (defArgs (top 37)) (defBody (top 37)) (defScope (top 37)) .none kV23 dc23 pm23 an23 cd23 ct23), sl23⟩) (c23 : PySem.W.codeIn K cd23 "_law_odd" = true) (k23 : PySem.W.keepIn K (.ref f23) = true)
    {f24 : Addr} {od24 an24 : Option Addr} {sl24 : Array (Option Value)} {oc24 kV24 dc24 pm24 cd24 ct24 : Value}
    (a24 : PySem.W.nsIn K mainGlobals "_law_spoilt" = some (some (.ref f24))) (l24 : K.lookup f24 = some ⟨oc24, od24, .func (PySem.W.fnOf "_law_spoilt" "_law_spoilt" (defArgs (top 38)) (defBody (top 38)) (defScope (top 38)) .none kV24 dc24 pm24 an24 cd24 ct24), sl24⟩) (c24 : PySem.W.codeIn K cd24 "_law_spoilt" = true) (k24 : PySem.W.keepIn K (.ref f24) = true)
    {f25 : Addr} {od25 an25 : Option Addr} {sl25 : Array (Option Value)} {oc25 kV25 dc25 pm25 cd25 ct25 : Value}
    (a25 : PySem.W.nsIn K mainGlobals "_law_number" = some (some (.ref f25))) (l25 : K.lookup f25 = some ⟨oc25, od25, .func (PySem.W.fnOf "_law_number" "_law_number" (defArgs (top 39)) (defBody (top 39)) (defScope (top 39)) .none kV25 dc25 pm25 an25 cd25 ct25), sl25⟩) (c25 : PySem.W.codeIn K cd25 "_law_number" = true) (k25 : PySem.W.keepIn K (.ref f25) = true)
    {f26 : Addr} {od26 an26 : Option Addr} {sl26 : Array (Option Value)} {oc26 kV26 dc26 pm26 cd26 ct26 : Value}
    (a26 : PySem.W.nsIn K mainGlobals "_law_is_form" = some (some (.ref f26))) (l26 : K.lookup f26 = some ⟨oc26, od26, .func (PySem.W.fnOf "_law_is_form" "_law_is_form" (defArgs (top 40)) (defBody (top 40)) (defScope (top 40)) .none kV26 dc26 pm26 an26 cd26 ct26), sl26⟩) (c26 : PySem.W.codeIn K cd26 "_law_is_form" = true) (k26 : PySem.W.keepIn K (.ref f26) = true)
    {f27 : Addr} {od27 an27 : Option Addr} {sl27 : Array (Option Value)} {oc27 kV27 dc27 pm27 cd27 ct27 : Value}
    (a27 : PySem.W.nsIn K mainGlobals "_law_is_row" = some (some (.ref f27))) (l27 : K.lookup f27 = some ⟨oc27, od27, .func (PySem.W.fnOf "_law_is_row" "_law_is_row" (defArgs (top 41)) (defBody (top 41)) (defScope (top 41)) .none kV27 dc27 pm27 an27 cd27 ct27), sl27⟩) (c27 : PySem.W.codeIn K cd27 "_law_is_row" = true) (k27 : PySem.W.keepIn K (.ref f27) = true)
    {f28 : Addr} {od28 an28 : Option Addr} {sl28 : Array (Option Value)} {oc28 kV28 dc28 pm28 cd28 ct28 : Value}
    (a28 : PySem.W.nsIn K mainGlobals "_law_is_world" = some (some (.ref f28))) (l28 : K.lookup f28 = some ⟨oc28, od28, .func (PySem.W.fnOf "_law_is_world" "_law_is_world" (defArgs (top 42)) (defBody (top 42)) (defScope (top 42)) .none kV28 dc28 pm28 an28 cd28 ct28), sl28⟩) (c28 : PySem.W.codeIn K cd28 "_law_is_world" = true) (k28 : PySem.W.keepIn K (.ref f28) = true)
    {f29 : Addr} {od29 an29 : Option Addr} {sl29 : Array (Option Value)} {oc29 kV29 dc29 pm29 cd29 ct29 : Value}
    (a29 : PySem.W.nsIn K mainGlobals "_law_same" = some (some (.ref f29))) (l29 : K.lookup f29 = some ⟨oc29, od29, .func (PySem.W.fnOf "_law_same" "_law_same" (defArgs (top 43)) (defBody (top 43)) (defScope (top 43)) .none kV29 dc29 pm29 an29 cd29 ct29), sl29⟩) (c29 : PySem.W.codeIn K cd29 "_law_same" = true) (k29 : PySem.W.keepIn K (.ref f29) = true)
    {f30 : Addr} {od30 an30 : Option Addr} {sl30 : Array (Option Value)} {oc30 kV30 dc30 pm30 cd30 ct30 : Value}
    (a30 : PySem.W.nsIn K mainGlobals "law" = some (some (.ref f30))) (l30 : K.lookup f30 = some ⟨oc30, od30, .func (PySem.W.fnOf "law" "law" (defArgs (top 44)) (defBody (top 44)) (defScope (top 44)) .none kV30 dc30 pm30 an30 cd30 ct30), sl30⟩) (c30 : PySem.W.codeIn K cd30 "law" = true) (k30 : PySem.W.keepIn K (.ref f30) = true)
    {ca0 : Addr} {co0 : Option Addr} {ci0 : Array Value} {cn0 : Nat} {cs0 : Array (Option Value)} (u0 : PySem.W.nsIn K mainGlobals "PLAIN_FORMS" = some (some (.ref ca0))) (v0 : K.lookup ca0 = some ⟨.type "tuple", co0, .seq ci0 cn0, cs0⟩) (w0 : flatArgs [.str "yes", .str "no"] ci0.toList = true) (x0 : ci0.size ≤ sizeLine)
    {ca1 : Addr} {co1 : Option Addr} {ci1 : Array Value} {cn1 : Nat} {cs1 : Array (Option Value)} (u1 : PySem.W.nsIn K mainGlobals "MARK_WORDS" = some (some (.ref ca1))) (v1 : K.lookup ca1 = some ⟨.type "tuple", co1, .seq ci1 cn1, cs1⟩) (w1 : flatArgs [.str "a", .str "b"] ci1.toList = true) (x1 : ci1.size ≤ sizeLine)
    {ct2 : Tok} (u2 : PySem.W.nsIn K mainGlobals "ARROW_WORD" = some (some (.str "to" ct2)))
    {ct3 : Tok} (u3 : PySem.W.nsIn K mainGlobals "NOT_WORD" = some (some (.str "not" ct3)))
    {ca4 : Addr} {co4 : Option Addr} {ci4 : Array Value} {cn4 : Nat} {cs4 : Array (Option Value)} (u4 : PySem.W.nsIn K mainGlobals "PAIRING_WORDS" = some (some (.ref ca4))) (v4 : K.lookup ca4 = some ⟨.type "tuple", co4, .seq ci4 cn4, cs4⟩) (w4 : flatArgs [.str "both", .str "either"] ci4.toList = true) (x4 : ci4.size ≤ sizeLine)
    {ca5 : Addr} {co5 : Option Addr} {ci5 : Array Value} {cn5 : Nat} {cs5 : Array (Option Value)} (u5 : PySem.W.nsIn K mainGlobals "NAMES" = some (some (.ref ca5))) (v5 : K.lookup ca5 = some ⟨.type "tuple", co5, .seq ci5 cn5, cs5⟩) (w5 : flatArgs [.str "x", .str "y"] ci5.toList = true) (x5 : ci5.size ≤ sizeLine)
    {ct6 : Tok} (u6 : PySem.W.nsIn K mainGlobals "DEEPEST_FORM" = some (some (.int (5) ct6)))
    {ca7 : Addr} {co7 : Option Addr} {ci7 : Array Value} {cn7 : Nat} {cs7 : Array (Option Value)} (u7 : PySem.W.nsIn K mainGlobals "DEMAND_WORDS" = some (some (.ref ca7))) (v7 : K.lookup ca7 = some ⟨.type "tuple", co7, .seq ci7 cn7, cs7⟩) (w7 : flatArgs [.str "each", .str "some"] ci7.toList = true) (x7 : ci7.size ≤ sizeLine)
    {ca8 : Addr} {co8 : Option Addr} {ci8 : Array Value} {cn8 : Nat} {cs8 : Array (Option Value)} (u8 : PySem.W.nsIn K mainGlobals "MARK_START" = some (some (.ref ca8))) (v8 : K.lookup ca8 = some ⟨.type "tuple", co8, .seq ci8 cn8, cs8⟩) (w8 : flatArgs [.str "some", .str "each"] ci8.toList = true) (x8 : ci8.size ≤ sizeLine)
    {ct9 : Tok} (u9 : PySem.W.nsIn K mainGlobals "MOST_DEMANDS" = some (some (.int (4) ct9)))
    {ct10 : Tok} (u10 : PySem.W.nsIn K mainGlobals "MOST_MARKS" = some (some (.int (2) ct10)))
    {ct11 : Tok} (u11 : PySem.W.nsIn K mainGlobals "MOST_THINGS" = some (some (.int (4) ct11)))
    (z0 : PySem.W.nsIn K mainGlobals "all" = some none)
    (z1 : PySem.W.nsIn K mainGlobals "bool" = some none)
    (z2 : PySem.W.nsIn K mainGlobals "int" = some none)
    (z3 : PySem.W.nsIn K mainGlobals "isinstance" = some none)
    (z4 : PySem.W.nsIn K mainGlobals "len" = some none)
    (z5 : PySem.W.nsIn K mainGlobals "list" = some none)
    (z6 : PySem.W.nsIn K mainGlobals "range" = some none)
    (z7 : PySem.W.nsIn K mainGlobals "set" = some none)
    (z8 : PySem.W.nsIn K mainGlobals "sorted" = some none)
    (z9 : PySem.W.nsIn K mainGlobals "str" = some none)
    (z10 : PySem.W.nsIn K mainGlobals "tuple" = some none)
    : ∃ fd : FuncData, (∀ (s : Shared) (v : Value), BindsTo s fd ⟨[v], []⟩ [("_law_script", v)]) ∧ ∀ base : Heap, K.In base → base.Ns mainGlobals mg → FnOk l.prog w K mg base CX0 40 fa fd ["_law_script"] (spD K 1 (run tab 40 30)) := by
  have e := hfa.symm.trans (PySem.W.mg_of X G a30)
  cases e
  have F0 := fun_mk (st := top 13) l0 c0 k0
  have D0 : Def1 K mg tab Gam d0 _ _ := ⟨F0, F0.binds (ps := ["thing", "length"]) fun _ _ _ _ _ _ us hl => lens2 (fun _ _ => rfl) us hl, PySem.W.mg_of X G a0, s0, K01.c0⟩
  have F1 := fun_mk (st := top 14) l1 c1 k1
  have D1 : Def1 K mg tab Gam d1 _ _ := ⟨F1, F1.binds (ps := ["thing"]) fun _ _ _ _ _ _ us hl => lens1 (fun _ => rfl) us hl, PySem.W.mg_of X G a1, s1, K01.c1⟩
  have F2 := fun_mk (st := top 15) l2 c2 k2
  have D2 : Def1 K mg tab Gam d2 _ _ := ⟨F2, F2.binds (ps := ["thing"]) fun _ _ _ _ _ _ us hl => lens1 (fun _ => rfl) us hl, PySem.W.mg_of X G a2, s2, K01.c2⟩
  have F3 := fun_mk (st := top 16) l3 c3 k3
  have D3 : Def1 K mg tab Gam d3 _ _ := ⟨F3, F3.binds (ps := ["thing"]) fun _ _ _ _ _ _ us hl => lens1 (fun _ => rfl) us hl, PySem.W.mg_of X G a3, s3, K01.c3⟩
  have F4 := fun_mk (st := top 17) l4 c4 k4
  have D4 : Def1 K mg tab Gam d4 _ _ := ⟨F4, F4.binds (ps := ["thing"]) fun _ _ _ _ _ _ us hl => lens1 (fun _ => rfl) us hl, PySem.W.mg_of X G a4, s4, K01.c4⟩
  have F5 := fun_mk (st := top 18) l5 c5 k5
  have D5 : Def1 K mg tab Gam d5 _ _ := ⟨F5, F5.binds (ps := ["thing", "depth"]) fun _ _ _ _ _ _ us hl => lens2 (fun _ _ => rfl) us hl, PySem.W.mg_of X G a5, s5, K01.c5⟩
  have F6 := fun_mk (st := top 19) l6 c6 k6
  have D6 : Def1 K mg tab Gam d6 _ _ := ⟨F6, F6.binds (ps := ["thing"]) fun _ _ _ _ _ _ us hl => lens1 (fun _ => rfl) us hl, PySem.W.mg_of X G a6, s6, K01.c6⟩
  have F7 := fun_mk (st := top 20) l7 c7 k7
  have D7 : Def1 K mg tab Gam d7 _ _ := ⟨F7, F7.binds (ps := ["thing"]) fun _ _ _ _ _ _ us hl => lens1 (fun _ => rfl) us hl, PySem.W.mg_of X G a7, s7, K01.c7⟩
  have F8 := fun_mk (st := top 21) l8 c8 k8
  have D8 : Def1 K mg tab Gam d8 _ _ := ⟨F8, F8.binds (ps := ["demands"]) fun _ _ _ _ _ _ us hl => lens1 (fun _ => rfl) us hl, PySem.W.mg_of X G a8, s8, K01.c8⟩
  have F9 := fun_mk (st := top 22) l9 c9 k9
  have D9 : Def1 K mg tab Gam d9 _ _ := ⟨F9, F9.binds (ps := ["thing"]) fun _ _ _ _ _ _ us hl => lens1 (fun _ => rfl) us hl, PySem.W.mg_of X G a9, s9, K01.c9⟩
  have F10 := fun_mk (st := top 23) l10 c10 k10
  have D10 : Def1 K mg tab Gam d10 _ _ := ⟨F10, F10.binds (ps := ["thing", "many"]) fun _ _ _ _ _ _ us hl => lens2 (fun _ _ => rfl) us hl, PySem.W.mg_of X G a10, s10, K01.c10⟩
  have F11 := fun_mk (st := top 24) l11 c11 k11
  have D11 : Def1 K mg tab Gam d11 _ _ := ⟨F11, F11.binds (ps := ["thing", "many"]) fun _ _ _ _ _ _ us hl => lens2 (fun _ _ => rfl) us hl, PySem.W.mg_of X G a11, s11, K01.c11⟩
  have F12 := fun_mk (st := top 25) l12 c12 k12
  have D12 : Def1 K mg tab Gam d12 _ _ := ⟨F12, F12.binds (ps := ["parts"]) fun _ _ _ _ _ _ us hl => lens1 (fun _ => rfl) us hl, PySem.W.mg_of X G a12, s12, K01.c12⟩
  have F13 := fun_mk (st := top 26) l13 c13 k13
  have D13 : Def1 K mg tab Gam d13 _ _ := ⟨F13, F13.binds (ps := ["thing", "many"]) fun _ _ _ _ _ _ us hl => lens2 (fun _ _ => rfl) us hl, PySem.W.mg_of X G a13, s13, K01.c13⟩
  have F14 := fun_mk (st := top 27) l14 c14 k14
  have D14 : Def1 K mg tab Gam d14 _ _ := ⟨F14, F14.binds (ps := ["thing", "many"]) fun _ _ _ _ _ _ us hl => lens2 (fun _ _ => rfl) us hl, PySem.W.mg_of X G a14, s14, K01.c14⟩
  have F15 := fun_mk (st := top 28) l15 c15 k15
  have D15 : Def1 K mg tab Gam d15 _ _ := ⟨F15, F15.binds (ps := ["thing"]) fun _ _ _ _ _ _ us hl => lens1 (fun _ => rfl) us hl, PySem.W.mg_of X G a15, s15, K01.c15⟩
  have F16 := fun_mk (st := top 30) l16 c16 k16
  have D16 : Def1 K mg tab Gam d16 _ _ := ⟨F16, F16.binds (ps := ["_law_script", "_law_k"]) fun _ _ _ _ _ _ us hl => lens2 (fun _ _ => rfl) us hl, PySem.W.mg_of X G a16, s16, K01.c16⟩
  have F17 := fun_mk (st := top 31) l17 c17 k17
  have D17 : Def1 K mg tab Gam d17 _ _ := ⟨F17, F17.binds (ps := ["_law_script", "_law_k"]) fun _ _ _ _ _ _ us hl => lens2 (fun _ _ => rfl) us hl, PySem.W.mg_of X G a17, s17, K01.c17⟩
  have F18 := fun_mk (st := top 32) l18 c18 k18
  have D18 : Def1 K mg tab Gam d18 _ _ := ⟨F18, F18.binds (ps := ["_law_number_here", "_law_k"]) fun _ _ _ _ _ _ us hl => lens2 (fun _ _ => rfl) us hl, PySem.W.mg_of X G a18, s18, K01.c18⟩
  have F19 := fun_mk (st := top 33) l19 c19 k19
  have D19 : Def1 K mg tab Gam d19 _ _ := ⟨F19, F19.binds (ps := ["_law_number_here", "_law_deep"]) fun _ _ _ _ _ _ us hl => lens2 (fun _ _ => rfl) us hl, PySem.W.mg_of X G a19, s19, K01.c19⟩
  have F20 := fun_mk (st := top 34) l20 c20 k20
  have D20 : Def1 K mg tab Gam d20 _ _ := ⟨F20, F20.binds (ps := ["_law_number_here", "_law_deep"]) fun _ _ _ _ _ _ us hl => lens2 (fun _ _ => rfl) us hl, PySem.W.mg_of X G a20, s20, K01.c20⟩
  have F21 := fun_mk (st := top 35) l21 c21 k21
  have D21 : Def1 K mg tab Gam d21 _ _ := ⟨F21, F21.binds (ps := ["_law_number_here", "_law_most"]) fun _ _ _ _ _ _ us hl => lens2 (fun _ _ => rfl) us hl, PySem.W.mg_of X G a21, s21, K01.c21⟩
  have F22 := fun_mk (st := top 36) l22 c22 k22
  have D22 : Def1 K mg tab Gam d22 _ _ := ⟨F22, F22.binds (ps := ["_law_number_here", "_law_most"]) fun _ _ _ _ _ _ us hl => lens2 (fun _ _ => rfl) us hl, PySem.W.mg_of X G a22, s22, K01.c22⟩
  have F23 := fun_mk (st := top 37) l23 c23 k23
  have D23 : Def1 K mg tab Gam d23 _ _ := ⟨F23, F23.binds (ps := ["_law_number_here"]) fun _ _ _ _ _ _ us hl => lens1 (fun _ => rfl) us hl, PySem.W.mg_of X G a23, s23, K01.c23⟩
  have F24 := fun_mk (st := top 38) l24 c24 k24
  have D24 : Def1 K mg tab Gam d24 _ _ := ⟨F24, F24.binds (ps := ["_law_thing", "_law_number_here", "_law_deep"]) fun _ _ _ _ _ _ us hl => lens3 (fun _ _ _ => rfl) us hl, PySem.W.mg_of X G a24, s24, K01.c24⟩
  have F25 := fun_mk (st := top 39) l25 c25 k25
  have D25 : Def1 K mg tab Gam d25 _ _ := ⟨F25, F25.binds (ps := ["_law_thing", "_law_high"]) fun _ _ _ _ _ _ us hl => lens2 (fun _ _ => rfl) us hl, PySem.W.mg_of X G a25, s25, K01.c25⟩
  have F26 := fun_mk (st := top 40) l26 c26 k26
  have D26 : Def1 K mg tab Gam d26 _ _ := ⟨F26, F26.binds (ps := ["_law_thing", "_law_deep"]) fun _ _ _ _ _ _ us hl => lens2 (fun _ _ => rfl) us hl, PySem.W.mg_of X G a26, s26, K01.c26⟩
  have F27 := fun_mk (st := top 41) l27 c27 k27
  have D27 : Def1 K mg tab Gam d27 _ _ := ⟨F27, F27.binds (ps := ["_law_thing"]) fun _ _ _ _ _ _ us hl => lens1 (fun _ => rfl) us hl, PySem.W.mg_of X G a27, s27, K01.c27⟩
  have F28 := fun_mk (st := top 42) l28 c28 k28
  have D28 : Def1 K mg tab Gam d28 _ _ := ⟨F28, F28.binds (ps := ["_law_thing"]) fun _ _ _ _ _ _ us hl => lens1 (fun _ => rfl) us hl, PySem.W.mg_of X G a28, s28, K01.c28⟩
  have F29 := fun_mk (st := top 43) l29 c29 k29
  have D29 : Def1 K mg tab Gam d29 _ _ := ⟨F29, F29.binds (ps := ["_law_found", "_law_due"]) fun _ _ _ _ _ _ us hl => lens2 (fun _ _ => rfl) us hl, PySem.W.mg_of X G a29, s29, K01.c29⟩
  have F30 := fun_mk (st := top 44) l30 c30 k30
  have D30 : Def1 K mg tab Gam d30 _ _ := ⟨F30, F30.binds (ps := ["_law_script"]) fun _ _ _ _ _ _ us hl => lens1 (fun _ => rfl) us hl, PySem.W.mg_of X G a30, s30, K01.c30⟩
  refine ⟨PySem.W.fnOf "law" "law" (defArgs (top 44)) (defBody (top 44)) (defScope (top 44)) .none kV30 dc30 pm30 an30 cd30 ct30, fun s v => .of_eq rfl, fun base _ _ => ?_⟩
  refine all_ok (P := l.prog) (w := w) (base := base) (Gam := Gam) (fun x id n hm => ?_) (fun x p hm => ?_) (fun x hm => ?_) (fun x kvs hm => ?_) 40 d30 _ _ D30
  · simp only [Gam, List.mem_cons, List.mem_nil_iff, List.not_mem_nil, or_false, Prod.mk.injEq] at hm
    rcases hm with ⟨rfl, rfl, rfl⟩ | ⟨rfl, rfl, rfl⟩ | ⟨rfl, rfl, rfl⟩ | ⟨rfl, rfl, rfl⟩ | ⟨rfl, rfl, rfl⟩ | ⟨rfl, rfl, rfl⟩ | ⟨rfl, rfl, rfl⟩ | ⟨rfl, rfl, rfl⟩ | ⟨rfl, rfl, rfl⟩ | ⟨rfl, rfl, rfl⟩ | ⟨rfl, rfl, rfl⟩ | ⟨rfl, rfl, rfl⟩ | ⟨rfl, rfl, rfl⟩ | ⟨rfl, rfl, rfl⟩ | ⟨rfl, rfl, rfl⟩ | ⟨rfl, rfl, rfl⟩ | ⟨rfl, rfl, rfl⟩ | ⟨rfl, rfl, rfl⟩ | ⟨rfl, rfl, rfl⟩ | ⟨rfl, rfl, rfl⟩ | ⟨rfl, rfl, rfl⟩ | ⟨rfl, rfl, rfl⟩ | ⟨rfl, rfl, rfl⟩ | ⟨rfl, rfl, rfl⟩ | ⟨rfl, rfl, rfl⟩ | ⟨rfl, rfl, rfl⟩ | ⟨rfl, rfl, rfl⟩ | ⟨rfl, rfl, rfl⟩ | ⟨rfl, rfl, rfl⟩ | ⟨rfl, rfl, rfl⟩ | ⟨rfl, rfl, rfl⟩
    · exact ⟨d0, _, _, rfl, rfl, rfl, D0⟩
    · exact ⟨d1, _, _, rfl, rfl, rfl, D1⟩
    · exact ⟨d2, _, _, rfl, rfl, rfl, D2⟩
    · exact ⟨d3, _, _, rfl, rfl, rfl, D3⟩
    · exact ⟨d4, _, _, rfl, rfl, rfl, D4⟩
    · exact ⟨d5, _, _, rfl, rfl, rfl, D5⟩
    · exact ⟨d6, _, _, rfl, rfl, rfl, D6⟩
    · exact ⟨d7, _, _, rfl, rfl, rfl, D7⟩
    · exact ⟨d8, _, _, rfl, rfl, rfl, D8⟩
    · exact ⟨d9, _, _, rfl, rfl, rfl, D9⟩
    · exact ⟨d10, _, _, rfl, rfl, rfl, D10⟩
    · exact ⟨d11, _, _, rfl, rfl, rfl, D11⟩
    · exact ⟨d12, _, _, rfl, rfl, rfl, D12⟩
    · exact ⟨d13, _, _, rfl, rfl, rfl, D13⟩
    · exact ⟨d14, _, _, rfl, rfl, rfl, D14⟩
    · exact ⟨d15, _, _, rfl, rfl, rfl, D15⟩
    · exact ⟨d16, _, _, rfl, rfl, rfl, D16⟩
    · exact ⟨d17, _, _, rfl, rfl, rfl, D17⟩
    · exact ⟨d18, _, _, rfl, rfl, rfl, D18⟩
    · exact ⟨d19, _, _, rfl, rfl, rfl, D19⟩
    · exact ⟨d20, _, _, rfl, rfl, rfl, D20⟩
    · exact ⟨d21, _, _, rfl, rfl, rfl, D21⟩
    · exact ⟨d22, _, _, rfl, rfl, rfl, D22⟩
    · exact ⟨d23, _, _, rfl, rfl, rfl, D23⟩
    · exact ⟨d24, _, _, rfl, rfl, rfl, D24⟩
    · exact ⟨d25, _, _, rfl, rfl, rfl, D25⟩
    · exact ⟨d26, _, _, rfl, rfl, rfl, D26⟩
    · exact ⟨d27, _, _, rfl, rfl, rfl, D27⟩
    · exact ⟨d28, _, _, rfl, rfl, rfl, D28⟩
    · exact ⟨d29, _, _, rfl, rfl, rfl, D29⟩
    · exact ⟨d30, _, _, rfl, rfl, rfl, D30⟩
  · simp only [Gam, List.mem_cons, List.mem_nil_iff, List.not_mem_nil, or_false, Prod.mk.injEq] at hm
    rcases hm with ⟨rfl, rfl⟩ | ⟨rfl, rfl⟩ | ⟨rfl, rfl⟩ | ⟨rfl, rfl⟩ | ⟨rfl, rfl⟩ | ⟨rfl, rfl⟩ | ⟨rfl, rfl⟩ | ⟨rfl, rfl⟩ | ⟨rfl, rfl⟩ | ⟨rfl, rfl⟩ | ⟨rfl, rfl⟩ | ⟨rfl, rfl⟩
    · exact con_tup (PySem.W.mg_of X G u0) v0 w0 x0
    · exact con_tup (PySem.W.mg_of X G u1) v1 w1 x1
    · exact con_str (PySem.W.mg_of X G u2) (by decide +kernel) (by decide +kernel)
    · exact con_str (PySem.W.mg_of X G u3) (by decide +kernel) (by decide +kernel)
    · exact con_tup (PySem.W.mg_of X G u4) v4 w4 x4
    · exact con_tup (PySem.W.mg_of X G u5) v5 w5 x5
    · exact con_int (PySem.W.mg_of X G u6)
    · exact con_tup (PySem.W.mg_of X G u7) v7 w7 x7
    · exact con_tup (PySem.W.mg_of X G u8) v8 w8 x8
    · exact con_int (PySem.W.mg_of X G u9)
    · exact con_int (PySem.W.mg_of X G u10)
    · exact con_int (PySem.W.mg_of X G u11)
  · simp only [Gam, List.mem_cons, List.mem_nil_iff, List.not_mem_nil, or_false] at hm
    rcases hm with rfl | rfl | rfl | rfl | rfl | rfl | rfl | rfl | rfl | rfl | rfl
    · exact PySem.W.mg_none_of X G z0
    · exact PySem.W.mg_none_of X G z1
    · exact PySem.W.mg_none_of X G z2
    · exact PySem.W.mg_none_of X G z3
    · exact PySem.W.mg_none_of X G z4
    · exact PySem.W.mg_none_of X G z5
    · exact PySem.W.mg_none_of X G z6
    · exact PySem.W.mg_none_of X G z7
    · exact PySem.W.mg_none_of X G z8
    · exact PySem.W.mg_none_of X G z9
    · exact PySem.W.mg_none_of X G z10
  · cases hm
theorem walk {l : PySem.W.OpenLaw} {n : Nat} {q : Program} {loose : List Str} {XP : (Str → Option Value) → Heap → Prop} {YP : World → Heap → Prop} {d : DefRec} {K : Params → PySem.W.Frag} (hn : l.most = some n) (hn2 : n ≤ sizeLine) (hdf : d.params.defaults = [])
    (hY : ∀ (w : World) (h : Heap), YP w h → (K w.params).In h)
    (F : ∀ (w : World) (mg : Str → Option Value) (fa : Addr) (h : Heap), (K w.params).In h → h.Ns mainGlobals mg → mg d.name = some (.ref fa) →
      ∃ fd : FuncData, (∀ (s : Shared) (u : Value), BindsTo s fd ⟨[u], []⟩ [("_law_script", u)]) ∧ ∀ base : Heap, (K w.params).In base → base.Ns mainGlobals mg → FnOk l.prog w (K w.params) mg base CX0 40 fa fd ["_law_script"] (spD (K w.params) 1 (run tab 40 30))) :
    PySem.W.WalkO q loose XP YP l.row.toRowW d [] (fun f vs => PySem.call f vs) :=
  L2.walk_of (n := n) (k := 40) (x := "_law_script") (CX := fun _ => CX0) (sp := fun w => spD (K w.params) 1 (run tab 40 30)) hn hn2 hdf ⟨rfl, by decide, by decide⟩ hY F (fun _ _ a ns hl _ hS => sp_law (DD.law30 ns) hS) fun _ _ _ _ _ z => z
end K01
open PySem PySem.W PyProof.Rows
set_option maxRecDepth 100000 in
set_option maxHeartbeats 0 in
theorem PySem.Challenge.cw_twonamed_k01_things_holds : PySem.Challenge.rw_twonamed_k01_things.Holds := by
  w_on; o_law; k_head; (case hw => w_witness2)
  k_fill
  refine K01.walk (l := PySem.Challenge.rw_twonamed_k01_things) rfl (by decide) rfl (fun w h Y => PySem.W.kIn_of Y) ?F
  case F =>
    intro w mg fa h KX G hmg
    refine' K01.all_mk KX G hmg ?a0 ?l0 ?c0 ?k0 ?a1 ?l1 ?c1 ?k1 ?a2 ?l2 ?c2 ?k2 ?a3 ?l3 ?c3 ?k3 ?a4 ?l4 ?c4 ?k4 ?a5 ?l5 ?c5 ?k5 ?a6 ?l6 ?c6 ?k6 ?a7 ?l7 ?c7 ?k7 ?a8 ?l8 ?c8 ?k8 ?a9 ?l9 ?c9 ?k9 ?a10 ?l10 ?c10 ?k10 ?a11 ?l11 ?c11 ?k11 ?a12 ?l12 ?c12 ?k12 ?a13 ?l13 ?c13 ?k13 ?a14 ?l14 ?c14 ?k14 ?a15 ?l15 ?c15 ?k15 ?a16 ?l16 ?c16 ?k16 ?a17 ?l17 ?c17 ?k17 ?a18 ?l18 ?c18 ?k18 ?a19 ?l19 ?c19 ?k19 ?a20 ?l20 ?c20 ?k20 ?a21 ?l21 ?c21 ?k21 ?a22 ?l22 ?c22 ?k22 ?a23 ?l23 ?c23 ?k23 ?a24 ?l24 ?c24 ?k24 ?a25 ?l25 ?c25 ?k25 ?a26 ?l26 ?c26 ?k26 ?a27 ?l27 ?c27 ?k27 ?a28 ?l28 ?c28 ?k28 ?a29 ?l29 ?c29 ?k29 ?a30 ?l30 ?c30 ?k30 ?u0 ?v0 ?w0 ?x0 ?u1 ?v1 ?w1 ?x1 ?u2 ?u3 ?u4 ?v4 ?w4 ?x4 ?u5 ?v5 ?w5 ?x5 ?u6 ?u7 ?v7 ?w7 ?x7 ?u8 ?v8 ?w8 ?x8 ?u9 ?u10 ?u11 ?z0 ?z1 ?z2 ?z3 ?z4 ?z5 ?z6 ?z7 ?z8 ?z9 ?z10
    (case a0 => k_is)
    (case l0 => k_is)
    (case c0 => k_is)
    (case k0 => k_is)
    (case a1 => k_is)
    (case l1 => k_is)
    (case c1 => k_is)
    (case k1 => k_is)
    (case a2 => k_is)
    (case l2 => k_is)
    (case c2 => k_is)
    (case k2 => k_is)
    (case a3 => k_is)
    (case l3 => k_is)
    (case c3 => k_is)
    (case k3 => k_is)
    (case a4 => k_is)
    (case l4 => k_is)
    (case c4 => k_is)
    (case k4 => k_is)
    (case a5 => k_is)
    (case l5 => k_is)
    (case c5 => k_is)
    (case k5 => k_is)
    (case a6 => k_is)
    (case l6 => k_is)
    (case c6 => k_is)
    (case k6 => k_is)
    (case a7 => k_is)
    (case l7 => k_is)
    (case c7 => k_is)
    (case k7 => k_is)
    (case a8 => k_is)
    (case l8 => k_is)
    (case c8 => k_is)
    (case k8 => k_is)
    (case a9 => k_is)
    (case l9 => k_is)
    (case c9 => k_is)
    (case k9 => k_is)
    (case a10 => k_is)
    (case l10 => k_is)
    (case c10 => k_is)
    (case k10 => k_is)
    (case a11 => k_is)
    (case l11 => k_is)
    (case c11 => k_is)
    (case k11 => k_is)
    (case a12 => k_is)
    (case l12 => k_is)
    (case c12 => k_is)
    (case k12 => k_is)
    (case a13 => k_is)
    (case l13 => k_is)
    (case c13 => k_is)
    (case k13 => k_is)
    (case a14 => k_is)
    (case l14 => k_is)
    (case c14 => k_is)
    (case k14 => k_is)
    (case a15 => k_is)
    (case l15 => k_is)
    (case c15 => k_is)
    (case k15 => k_is)
    (case a16 => k_is)
    (case l16 => k_is)
    (case c16 => k_is)
    (case k16 => k_is)
    (case a17 => k_is)
    (case l17 => k_is)
    (case c17 => k_is)
    (case k17 => k_is)
    (case a18 => k_is)
    (case l18 => k_is)
    (case c18 => k_is)
    (case k18 => k_is)
    (case a19 => k_is)
    (case l19 => k_is)
    (case c19 => k_is)
    (case k19 => k_is)
    (case a20 => k_is)
    (case l20 => k_is)
    (case c20 => k_is)
    (case k20 => k_is)
    (case a21 => k_is)
    (case l21 => k_is)
    (case c21 => k_is)
    (case k21 => k_is)
    (case a22 => k_is)
    (case l22 => k_is)
    (case c22 => k_is)
    (case k22 => k_is)
    (case a23 => k_is)
    (case l23 => k_is)
    (case c23 => k_is)
    (case k23 => k_is)
    (case a24 => k_is)
    (case l24 => k_is)
    (case c24 => k_is)
    (case k24 => k_is)
    (case a25 => k_is)
    (case l25 => k_is)
    (case c25 => k_is)
    (case k25 => k_is)
    (case a26 => k_is)
    (case l26 => k_is)
    (case c26 => k_is)
    (case k26 => k_is)
    (case a27 => k_is)
    (case l27 => k_is)
    (case c27 => k_is)
    (case k27 => k_is)
    (case a28 => k_is)
    (case l28 => k_is)
    (case c28 => k_is)
    (case k28 => k_is)
    (case a29 => k_is)
    (case l29 => k_is)
    (case c29 => k_is)
    (case k29 => k_is)
    (case a30 => k_is)
    (case l30 => k_is)
    (case c30 => k_is)
    (case k30 => k_is)
    (case u0 => k_is)
    (case v0 => k_is)
    (case w0 => decide +kernel)
    (case x0 => decide +kernel)
    (case u1 => k_is)
    (case v1 => k_is)
    (case w1 => decide +kernel)
    (case x1 => decide +kernel)
    (case u2 => k_is)
    (case u3 => k_is)
    (case u4 => k_is)
    (case v4 => k_is)
    (case w4 => decide +kernel)
    (case x4 => decide +kernel)
    (case u5 => k_is)
    (case v5 => k_is)
    (case w5 => decide +kernel)
    (case x5 => decide +kernel)
    (case u6 => k_is)
    (case u7 => k_is)
    (case v7 => k_is)
    (case w7 => decide +kernel)
    (case x7 => decide +kernel)
    (case u8 => k_is)
    (case v8 => k_is)
    (case w8 => decide +kernel)
    (case x8 => decide +kernel)
    (case u9 => k_is)
    (case u10 => k_is)
    (case u11 => k_is)
    (case z0 => k_is)
    (case z1 => k_is)
    (case z2 => k_is)
    (case z3 => k_is)
    (case z4 => k_is)
    (case z5 => k_is)
    (case z6 => k_is)
    (case z7 => k_is)
    (case z8 => k_is)
    (case z9 => k_is)
    (case z10 => k_is)
