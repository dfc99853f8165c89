import PyProof.Rows.All
import Wide.All
import OpenK.AllK
import Wide.FinOn
import Lean
import PyProof.EqAt
import PyProof.EqKinds
import PyProof.TupleCall
import PySem.Challenge.RW_termcourt_k47_rings_told
set_option Elab.async false
set_option linter.all false
set_option maxRecDepth 100000
/-! THE HAND LAYER, for ints, bools, texts, own classes, LISTS and tuples (index, slices, in, append, pop ..), calls, loops. Paste it whole ahead of your own text; what your proof does not reach may be deleted. -/
namespace L2
open PySem PySem.Spec PyProof.Rows

/-- a key: an int or a str -/
noncomputable abbrev Key := Sum Int Str
noncomputable def keyIs : Key → Value → Bool
  | .inl k, v => Value.isInt k v
  | .inr x, v => Value.isStrOf x v
noncomputable def keyH (w : World) : Key → Int
  | .inl k => hashInt k
  | .inr x => hashStr w x
theorem keyIs_shape : ∀ {k : Key} {v : Value}, keyIs k v = true → (∃ i t, k = Sum.inl i ∧ v = Value.int i t) ∨ (∃ x t, k = Sum.inr x ∧ v = Value.str x t)
  | .inl i, v, h => by
    obtain ⟨t, e⟩ := Value.isInt_shape (k := i) (v := v) h
    exact .inl ⟨i, t, rfl, e⟩
  | .inr x, v, h => by
    obtain ⟨t, e⟩ := Value.isStrOf_shape (x := x) (v := v) h
    exact .inr ⟨x, t, rfl, e⟩
theorem keyIs_int (i : Int) (t : Tok) : keyIs (.inl i) (.int i t) = true := by simp [keyIs, Value.isInt]
theorem keyIs_str (x : Str) (t : Tok) : keyIs (.inr x) (.str x t) = true := by simp [keyIs, Value.isStrOf]
theorem key_ll (a b : Int) : decide ((Sum.inl a : Key) = Sum.inl b) = (a == b) := by
  by_cases e : a = b
  · subst e; simp
  · have h : ¬ (Sum.inl a : Key) = Sum.inl b := fun q => e (Sum.inl.inj q)
    rw [decide_eq_false h]
    exact (beq_eq_false_iff_ne.mpr e).symm
theorem key_rr (a b : Str) : decide ((Sum.inr a : Key) = Sum.inr b) = decide (a = b) := by
  by_cases e : a = b
  · subst e; simp
  · have h : ¬ (Sum.inr a : Key) = Sum.inr b := fun q => e (Sum.inr.inj q)
    rw [decide_eq_false h, decide_eq_false e]
theorem key_lr (a : Int) (b : Str) : decide ((Sum.inl a : Key) = Sum.inr b) = false := decide_eq_false (fun q => nomatch q)
theorem key_rl (a : Str) (b : Int) : decide ((Sum.inr a : Key) = Sum.inl b) = false := decide_eq_false (fun q => nomatch q)

noncomputable def mixKind (prog : Program) (w : World) : PySem.KeyKind prog w Key where
  is := keyIs
  hash := keyH w
  inj := fun v a b ha hb => by
    rcases keyIs_shape ha with ⟨i, t, rfl, rfl⟩ | ⟨x, t, rfl, rfl⟩
    · rcases keyIs_shape hb with ⟨j, u, rfl, e⟩ | ⟨y, u, rfl, e⟩
      · injection e with e1 _; rw [e1]
      · exact nomatch e
    · rcases keyIs_shape hb with ⟨j, u, rfl, e⟩ | ⟨y, u, rfl, e⟩
      · exact nomatch e
      · injection e with e1 _; rw [e1]
  byValue := fun k v h => by
    rcases keyIs_shape h with ⟨i, t, rfl, rfl⟩ | ⟨x, t, rfl, rfl⟩ <;> rfl
  pyHash := fun hv h => by
    rcases keyIs_shape hv with ⟨i, t, rfl, rfl⟩ | ⟨x, t, rfl, rfl⟩
    · exact wpAny_pyHash_int h
    · exact wpAny_pyHash_str h
  eqBool := fun hu hv h => by
    rcases keyIs_shape hu with ⟨i, t, rfl, rfl⟩ | ⟨x, t, rfl, rfl⟩
    · rcases keyIs_shape hv with ⟨j, u, rfl, rfl⟩ | ⟨y, u, rfl, rfl⟩
      · rw [key_ll] at h; exact wpAny_eqBool_int h
      · rw [key_lr] at h; exact SeqAt.EqAt.int_str i t y u _ _ _ _ h
    · rcases keyIs_shape hv with ⟨j, u, rfl, rfl⟩ | ⟨y, u, rfl, rfl⟩
      · rw [key_rl] at h; exact SeqAt.EqAt.str_int x t j u _ _ _ _ h
      · rw [key_rr] at h; exact wpAny_eqBool_str h
  «strs» := fun k x t v h => by
    rcases keyIs_shape h with ⟨i, u, rfl, e⟩ | ⟨y, u, rfl, e⟩
    · exact nomatch e
    · injection e with e1 _
      subst e1
      cases v <;> rfl

theorem mixKind_int (prog : Program) (w : World) (i : Int) (t : Tok) : (mixKind prog w).is (.inl i) (.int i t) = true := keyIs_int i t
theorem mixKind_str (prog : Program) (w : World) (x : Str) (t : Tok) : (mixKind prog w).is (.inr x) (.str x t) = true := keyIs_str x t
end L2

namespace L2
open PySem PySem.Spec PyProof.Rows

/-- a value, without the heap -/
inductive V where
  | non | bl (b : Bool) | int (i : Int) | str (x : Str) | byt (b : Array UInt8) | flt (b : UInt64) | ref (a : Addr) | ty (n : String)
  deriving DecidableEq

noncomputable def RelV : V → Value → Prop
  | .non, u => u = Value.none
  | .bl b, u => u = Value.bool b
  | .int i, u => ∃ t, u = Value.int i t
  | .str x, u => ∃ t, u = Value.str x t
  | .byt b, u => ∃ t, u = Value.bytes b t
  | .flt b, u => ∃ t, u = Value.float b t
  | .ref a, u => u = Value.ref a
  | .ty n, u => u = Value.type n

noncomputable abbrev Vals : List V → List Value → Prop := Paired RelV
theorem Vals.length {xs : List V} {us : List Value} (r : Vals xs us) : xs.length = us.length := Paired.length r
theorem Vals.get : ∀ {xs : List V} {us : List Value} {i : Nat} {x : V}, Vals xs us → xs[i]? = some x → ∃ u, us[i]? = some u ∧ RelV x u
  | _, _, _, _, .nil, e => by simp at e
  | _, _, 0, _, .cons r _, e => by simp at e; subst e; exact ⟨_, rfl, r⟩
  | _, _, i + 1, x, .cons _ t, e => by
    obtain ⟨u, h1, h2⟩ := Vals.get (i := i) (x := x) t (by simpa using e)
    exact ⟨u, by simpa using h1, h2⟩
theorem Vals.set {x : V} {u : Value} (r : RelV x u) : ∀ {xs : List V} {us : List Value} (i : Nat), Vals xs us → Vals (xs.set i x) (us.set i u)
  | _, _, _, .nil => .nil
  | _, _, 0, .cons _ t => .cons r t
  | _, _, i + 1, .cons q t => .cons q (Vals.set r i t)
theorem Vals.append : ∀ {xs ys : List V} {us ws : List Value}, Vals xs us → Vals ys ws → Vals (xs ++ ys) (us ++ ws)
  | _, _, _, _, .nil, s => s
  | _, _, _, _, .cons r t, s => .cons r (Vals.append t s)
theorem Vals.take : ∀ {xs : List V} {us : List Value} (n : Nat), Vals xs us → Vals (xs.take n) (us.take n)
  | _, _, 0, _ => .nil
  | _, _, _ + 1, .nil => .nil
  | _, _, n + 1, .cons r t => .cons r (Vals.take n t)
theorem Vals.drop : ∀ {xs : List V} {us : List Value} (n : Nat), Vals xs us → Vals (xs.drop n) (us.drop n)
  | _, _, 0, r => r
  | _, _, _ + 1, .nil => .nil
  | _, _, n + 1, .cons _ t => Vals.drop n t
noncomputable def RelO : Option V → Option Value → Prop
  | some v, some u => RelV v u
  | none, none => True
  | _, _ => False
noncomputable def KV {κ : Type} : List (κ × V) → List (κ × Value) → Prop := Paired fun (p : κ × V) (q : κ × Value) => p.1 = q.1 ∧ RelV p.2 q.2

/-- a key of a dict (00_mix): an int or a text -/
noncomputable def kV : Key → V
  | .inl i => .int i
  | .inr x => .str x

/-- what stands at a tracked address -/
inductive HO where
  /-- a list -/
  | lst (xs : List V)
  /-- a tuple (never changes) -/
  | tup (xs : List V)
  /-- a dict whose keys are ints and texts; one whose keys are tuples of ints and texts (the empty one is both) -/
  | dK (kvs : List (Key × V)) | dT (kvs : List (List Key × V))
  /-- a set of ints: its members, its size -/
  | set (S : Int → Bool) (n : Nat)
  /-- an instance of the class at C, its dict at dx, its attributes -/
  | ins (C dx : Addr) (fs : List (Str × V))
  /-- the dict of the instance at x -/
  | own (x : Addr)
  /-- the dict of an exception -/
  | xd (fs : List (Str × V))
  /-- a bound method, f of x -/
  | met (f x : Addr)
  /-- a range object lo, lo + 1, .. below hi -/
  | rng (lo hi : Int)
  /-- a thing that is known to the object (the script; a dict while a loop walks it): read, never written while it is so -/
  | frz (o : Obj) (u : HO)
  /-- a code object's table -/
  | tbl (ps : Array Value)
  /-- any other thing, by what is true of its one object (a def of one's own: SetO a S n := HO.ext fun h => ..) -/
  | ext (φ : Heap → Prop)

noncomputable abbrev Hp := Addr → Option HO
noncomputable def upd (H : Hp) (a : Addr) (o : HO) : Hp := fun b => if b = a then some o else H b
theorem upd_same {H : Hp} {a : Addr} {o : HO} : upd H a o a = some o := by unfold upd; rw [if_pos rfl]
theorem upd_ne {H : Hp} {a b : Addr} {o : HO} (h : b ≠ a) : upd H a o b = H b := by unfold upd; rw [if_neg h]
theorem upd_upd {H : Hp} {a : Addr} {o u : HO} : upd (upd H a o) a u = upd H a u := by
  funext b; unfold upd; split <;> rfl
/-- two objects of different content stand apart -/
theorem ne_of {H : Hp} {a b : Addr} {o u : HO} (h : H a = some o) (h' : H b = some u) (d : o ≠ u) : a ≠ b := by
  intro e; subst e; rw [h] at h'; exact d (Option.some.inj h')
theorem ne_of_none {H : Hp} {a b : Addr} {o : HO} (h : H a = some o) (h' : H b = none) : a ≠ b := by
  intro e; subst e; rw [h] at h'; cases h'

section
variable (P : Program) (w : World)
noncomputable def ObjOk (H : Hp) (h : Heap) (a : Addr) : HO → Prop
  | .lst xs => xs.length ≤ sizeLine ∧ ∃ (its : List Value) (n : Nat), Vals xs its ∧ h.get? a = some { cls := .type "list", data := .seq its.toArray n }
  | .tup xs => xs.length ≤ sizeLine ∧ ∃ its : List Value, Vals xs its ∧ IsTup h a its.toArray
  | .dK kvs => kvs.length ≤ sizeLine ∧ (a == sysModules) = false ∧ ∃ vs, KV kvs vs ∧ h.DictOf (mixKind P w) a vs
  | .dT kvs => kvs.length ≤ sizeLine ∧ (a == sysModules) = false ∧ ∃ xs : List (List Key × Addr × Value),
      Paired (fun (p : List Key × V) (q : List Key × Addr × Value) => p.1 = q.1 ∧ H q.2.1 = some (.tup (p.1.map kV)) ∧ RelV p.2 q.2.2) kvs xs ∧
      ∃ o es ep, h.get? a = some o ∧ o.ExactDict ∧ o.data = .dict es ep ∧ es.toList = xs.map (entryOfKey (tupleKind (mixKind P w))) ∧ (xs.map (·.1)).Nodup
  | .set S n => h.SetOf (intKind P w) a S n
  | .ins C dx fs => H dx = some (.own a) ∧ fs.length ≤ 1000 ∧ dx ≠ a ∧ h.get? a = some (PySem.W.instObj C dx) ∧
      ∃ mA, h.Ns1 dx mA ∧ (∀ f, RelO (fs.lookup f) (mA f)) ∧ PySem.Within mA (fs.map (·.1))
  | .own _ => ∃ o, h.get? a = some o
  | .xd fs => ∃ mA, h.Ns1 a mA ∧ ∀ f, RelO (fs.lookup f) (mA f)
  | .rng lo hi => ∃ t u v, h.get? a = some { cls := .type "range", data := .fields #[.int lo t, .int hi u, .int 1 v] }
  | .frz o u => h.get? a = some o ∧ ObjOk H h a u
  | .tbl ps => h.get? a = some { cls := .none, data := .fields ps }
  | .met f x => h.get? a = some (PySem.W.methodObj (.ref f) (.ref x))
  | .ext φ => φ h ∧ (∃ o, h.get? a = some o) ∧ ∀ h1 h2 : Heap, φ h1 → (∀ o, h1.get? a = some o → h2.get? a = some o) → φ h2
/-- the abstract heap is held -/
noncomputable def HOk (H : Hp) (h : Heap) : Prop := ∀ a o, H a = some o → ObjOk P w H h a o
end

section
variable {P : Program} {w : World} {H H' : Hp} {h h' : Heap} {a : Addr} {o : HO}
theorem ObjOk.lt (x : ObjOk P w H h a o) : a < h.objs.size := by
  cases o with
  | lst xs => obtain ⟨_, _, _, _, e⟩ := x; exact Heap.lt_size e
  | tup xs => obtain ⟨_, _, _, p⟩ := x; exact p.lt
  | dK kvs => obtain ⟨_, _, _, _, o, _, _, e, _⟩ := x; exact Heap.lt_size e
  | dT kvs => obtain ⟨_, _, _, _, o, _, _, e, _⟩ := x; exact Heap.lt_size e
  | set S n => obtain ⟨o, _, _, _, e, _⟩ := x; exact Heap.lt_size e
  | ins C dx fs => obtain ⟨_, _, _, e, _⟩ := x; exact Heap.lt_size e
  | own y => obtain ⟨_, e⟩ := x; exact Heap.lt_size e
  | xd fs => obtain ⟨_, ⟨_, _, _, e, _⟩, _⟩ := x; exact Heap.lt_size e
  | rng lo hi => obtain ⟨_, _, _, e⟩ := x; exact Heap.lt_size e
  | frz ob u => obtain ⟨e, _⟩ := x; exact Heap.lt_size e
  | tbl ps => exact Heap.lt_size (show h.get? a = some _ from x)
  | met f y => exact Heap.lt_size (show h.get? a = some _ from x)
  | ext φ => obtain ⟨_, ⟨_, e⟩, _⟩ := x; exact Heap.lt_size e
theorem Paired.mapP {α β : Type} {F G : α → β → Prop} : ∀ {l₁ : List α} {l₂ : List β}, Paired F l₁ l₂ → (∀ a b, F a b → G a b) → Paired G l₁ l₂
  | _, _, .nil, _ => .nil
  | _, _, .cons r t, f => .cons (f _ _ r) (Paired.mapP t f)
/-- what an object's description leans on: its own object, its own dict, the tuples -/
theorem ObjOk.stay (x : ObjOk P w H h a o) (k : ∀ b u, (b = a ∨ H b = some (.own a)) → h.get? b = some u → h'.get? b = some u)
    (ho : ∀ b, H b = some (.own a) → H' b = some (.own a)) (ht : ∀ b xs, H b = some (.tup xs) → H' b = some (.tup xs)) : ObjOk P w H' h' a o := by
  induction o with
  | lst xs => obtain ⟨z, its, n, r, e⟩ := x; exact ⟨z, its, n, r, k _ _ (.inl rfl) e⟩
  | tup xs => obtain ⟨z, its, r, ob, e, c⟩ := x; exact ⟨z, its, r, ob, k _ _ (.inl rfl) e, c⟩
  | dK kvs => obtain ⟨z, y, vs, r, ob, es, ep, e, c⟩ := x; exact ⟨z, y, vs, r, ob, es, ep, k _ _ (.inl rfl) e, c⟩
  | dT kvs =>
    obtain ⟨z, y, xs, r, ob, es, ep, e, c⟩ := x
    exact ⟨z, y, xs, Paired.mapP r fun p q z => ⟨z.1, ht _ _ z.2.1, z.2.2⟩, ob, es, ep, k _ _ (.inl rfl) e, c⟩
  | set S n => obtain ⟨ob, es, ep, t, e, c⟩ := x; exact ⟨ob, es, ep, t, k _ _ (.inl rfl) e, c⟩
  | ins C dx fs =>
    obtain ⟨d, z, ne, e, mA, ⟨od, es, ep, e2, c⟩, r⟩ := x
    exact ⟨ho _ d, z, ne, k _ _ (.inl rfl) e, mA, ⟨od, es, ep, k _ _ (.inr d) e2, c⟩, r⟩
  | own y => obtain ⟨ob, e⟩ := x; exact ⟨ob, k _ _ (.inl rfl) e⟩
  | xd fs => obtain ⟨mA, ⟨od, es, ep, e, c⟩, r⟩ := x; exact ⟨mA, ⟨od, es, ep, k _ _ (.inl rfl) e, c⟩, r⟩
  | rng lo hi => obtain ⟨t, u, v, e⟩ := x; exact ⟨t, u, v, k _ _ (.inl rfl) e⟩
  | frz ob u ih => obtain ⟨e, q⟩ := x; exact ⟨k _ _ (.inl rfl) e, ih q⟩
  | tbl ps =>
    have e : h.get? a = some { cls := .none, data := .fields ps } := x
    show h'.get? a = some { cls := .none, data := .fields ps }
    exact k a _ (.inl rfl) e
  | met f y =>
    have e : h.get? a = some (PySem.W.methodObj (.ref f) (.ref y)) := x
    show h'.get? a = some (PySem.W.methodObj (.ref f) (.ref y))
    exact k a _ (.inl rfl) e
  | ext φ => obtain ⟨p, ⟨o, e⟩, st⟩ := x; exact ⟨st _ _ p fun o q => k _ _ (.inl rfl) q, ⟨o, k _ _ (.inl rfl) e⟩, st⟩
theorem HOk.lt (x : HOk P w H h) (e : H a = some o) : a < h.objs.size := (x a o e).lt
theorem HOk.fresh (x : HOk P w H h) (e : h.objs.size ≤ a) : H a = none := by
  cases q : H a with
  | none => rfl
  | some u => exact absurd (Nat.lt_of_lt_of_le (x.lt q) e) (Nat.lt_irrefl _)
/-- every object of the heap is kept -/
theorem HOk.kept (x : HOk P w H h) (k : ∀ b u, h.get? b = some u → h'.get? b = some u) : HOk P w H h' := fun a o e =>
  (x a o e).stay (fun b u _ q => k b u q) (fun _ q => q) fun _ _ q => q
/-- a new object is laid and tracked -/
theorem HOk.laid (x : HOk P w H h) (k : ∀ b u, h.get? b = some u → h'.get? b = some u) (hp : h.objs.size ≤ a) (new : ObjOk P w (upd H a o) h' a o) : HOk P w (upd H a o) h' := fun b u e => by
  have hn := x.fresh hp
  by_cases hb : b = a
  · subst hb; rw [upd_same] at e; cases e; exact new
  · rw [upd_ne hb] at e
    exact (x b u e).stay (fun c v _ q => k c v q) (fun c q => by rw [upd_ne (ne_of_none q hn)]; exact q) fun c xs q => by rw [upd_ne (ne_of_none q hn)]; exact q
end

/-- what may be read as u: it is u, or a known u -/
noncomputable def Rd (H : Hp) (a : Addr) (u : HO) : Prop := H a = some u ∨ ∃ o, H a = some (.frz o u)
theorem Rd.ok {P : Program} {w : World} {H : Hp} {h : Heap} {a : Addr} {u : HO} (r : Rd H a u) (x : HOk P w H h) : ObjOk P w H h a u := by
  rcases r with r | ⟨o, r⟩
  · exact x a u r
  · obtain ⟨_, q⟩ := x a _ r
    exact q
/-- what may be written -/
noncomputable def Mut : Option HO → Prop
  | some (.lst _) => True
  | some (.dK _) => True
  | some (.dT _) => True
  | some (.set _ _) => True
  | some (.ins _ _ _) => True
  | some (.ext _) => True
  | _ => False
section
variable {P : Program} {w : World} {H : Hp} {h h' : Heap} {x e : Addr} {o' : HO}
/-- the object at e is changed: x itself, or the dict of the instance x -/
theorem HOk.write (ok : HOk P w H h) (mu : Mut (H x)) (he : e = x ∨ H e = some (.own x)) (k : ∀ b u, b ≠ e → h.get? b = some u → h'.get? b = some u) (heo : ∃ u, h'.get? e = some u)
    (new : ObjOk P w (upd H x o') h' x o') : HOk P w (upd H x o') h' := fun b u q => by
  have nown : ∀ c y, H c = some (.own y) → c ≠ x := fun c y r z => by subst z; rw [r] at mu; exact mu
  have ntup : ∀ c xs, H c = some (.tup xs) → c ≠ x := fun c xs r z => by subst z; rw [r] at mu; exact mu
  by_cases hb : b = x
  · subst hb; rw [upd_same] at q; cases q; exact new
  · rw [upd_ne hb] at q
    by_cases hbe : b = e
    · have q' : H b = some (.own x) := by
        rcases he with z | z
        · exact absurd (hbe.trans z) hb
        · rw [hbe]; exact z
      rw [q] at q'; cases q'
      obtain ⟨v, hv⟩ := heo
      exact ⟨v, by rw [hbe]; exact hv⟩
    · refine (ok b u q).stay (fun c v hc r => k c v ?_ r) (fun c r => by rw [upd_ne (nown c b r)]; exact r) fun c xs r => by rw [upd_ne (ntup c xs r)]; exact r
      rcases hc with rfl | hc
      · exact hbe
      · rintro rfl
        rcases he with z | z
        · exact nown c b hc z
        · rw [hc] at z; cases z; exact hb rfl
end

/-! ### kept unless tracked; of the frames at fs (the callers') the slots may change (an exception that passes writes there); of the records at ex (iterators) nothing is said -/
structure Un (fs ex : List Addr) (H H' : Hp) (h h' : Heap) : Prop where
  keep : ∀ b o, h.get? b = some o → H b = none → b ∉ fs → b ∉ ex → h'.get? b = some o
  slot : ∀ b o, h.get? b = some o → H b = none → b ∈ fs → b ∉ ex → ∃ sl, h'.get? b = some { o with slots := sl }
  free : ∀ b o, h.get? b = some o → H b = none → b ∉ ex → H' b = none
  there : ∀ b o, h.get? b = some o → b ∉ ex → ∃ o', h'.get? b = some o'
  tups : ∀ b xs, H b = some (.tup xs) → H' b = some (.tup xs)
  frzs : ∀ b o u, H b = some (.frz o u) → H' b = some (.frz o u)
  tbls : ∀ b ps, H b = some (.tbl ps) → ∃ more, H' b = some (.tbl (ps ++ more))
section
variable {fs fs' ex ex' : List Addr} {H H1 H2 : Hp} {h h1 h2 h' : Heap} {a x e : Addr} {o : HO}
theorem Un.any (u : Un fs ex H H1 h h1) {b : Addr} {ob : Obj} (q : h.get? b = some ob) (n : H b = none) (hx : b ∉ ex) : ∃ sl, h1.get? b = some { ob with slots := sl } := by
  by_cases hb : b ∈ fs
  · exact u.slot b ob q n hb hx
  · exact ⟨ob.slots, u.keep b ob q n hb hx⟩
theorem Un.kept (k : ∀ b u, h.get? b = some u → h'.get? b = some u) : Un fs ex H H h h' :=
  ⟨fun b ob q _ _ _ => k b ob q, fun b ob q _ _ _ => ⟨ob.slots, k b ob q⟩, fun _ _ _ n _ => n, fun b ob q _ => ⟨ob, k b ob q⟩, fun _ _ q => q, fun _ _ _ q => q, fun _ ps q => ⟨#[], by rw [q]; simp⟩⟩
theorem Un.refl : Un fs ex H H h h := Un.kept fun _ _ q => q
theorem Un.laid (k : ∀ b u, h.get? b = some u → h'.get? b = some u) (hp : h.objs.size ≤ a) (hn : H a = none) : Un fs ex H (upd H a o) h h' where
  keep := fun b u q _ _ _ => k b u q
  slot := fun b u q _ _ _ => ⟨u.slots, k b u q⟩
  free := fun b u q n _ => by rw [upd_ne (Nat.ne_of_lt (Nat.lt_of_lt_of_le (Heap.lt_size q) hp))]; exact n
  there := fun b u q _ => ⟨u, k b u q⟩
  tups := fun b xs q => by rw [upd_ne (ne_of_none q hn)]; exact q
  frzs := fun b u xs q => by rw [upd_ne (ne_of_none q hn)]; exact q
  tbls := fun b ps q => ⟨#[], by rw [upd_ne (ne_of_none q hn), q]; simp⟩
theorem Un.write (mu : Mut (H x)) (he : e = x ∨ H e = some (.own x)) (k : ∀ b u, b ≠ e → h.get? b = some u → h'.get? b = some u) (heo : ∃ u, h'.get? e = some u) : Un fs ex H (upd H x o) h h' := by
  have hx : ∀ b, H b = none → b ≠ x := fun b n z => by subst z; rw [n] at mu; exact mu
  have hb : ∀ b, H b = none → b ≠ e := fun b n z => by
    subst z
    rcases he with r | r
    · exact hx b n r
    · rw [n] at r; cases r
  have hm : ∀ b u, H b = some u → ¬ Mut (some u) → b ≠ x := fun b u q nm z => by subst z; rw [q] at mu; exact nm mu
  refine ⟨fun b u q n _ _ => k b u (hb b n) q, fun b u q n _ _ => ⟨u.slots, k b u (hb b n) q⟩, fun b u q n _ => by rw [upd_ne (hx b n)]; exact n, fun b u q _ => ?_,
    fun b xs q => by rw [upd_ne (hm b _ q fun z => z)]; exact q, fun b u xs q => by rw [upd_ne (hm b _ q fun z => z)]; exact q, fun b ps q => ⟨#[], by rw [upd_ne (hm b _ q fun z => z), q]; simp⟩⟩
  by_cases hbe : b = e
  · subst hbe; exact heo
  · exact ⟨u, k b u hbe q⟩
end

/-! ### the heap without what is tracked -/
noncomputable def trk (h : Heap) (H : Hp) : List Addr := (List.range h.objs.size).filter fun a => (H a).isSome
noncomputable def hidT (h : Heap) (H : Hp) : Heap := PySem.W.hideAll h (trk h H)
theorem hidT_size (h : Heap) (H : Hp) : (hidT h H).objs.size = h.objs.size := PySem.W.hideAll_size _ _
theorem hidT_get {h : Heap} {H : Hp} {b : Addr} {o : Obj} (e : h.get? b = some o) (n : H b = none) : (hidT h H).get? b = some o :=
  PySem.W.hideAll_get _ e fun hm => by
    have q : (H b).isSome = true := (List.mem_filter.mp hm).2
    rw [n] at q; simp at q
theorem of_hidT {h : Heap} {H : Hp} {b : Addr} {o : Obj} (e : (hidT h H).get? b = some o) : h.get? b = some o ∧ H b = none := by
  have e' : h.get? b = some o := PySem.W.of_hideAll (trk h H) e
  refine ⟨e', ?_⟩
  cases q : H b with
  | none => rfl
  | some x =>
    have hm : b ∈ trk h H := List.mem_filter.mpr ⟨List.mem_range.mpr (Heap.lt_size e'), by simp [q]⟩
    have z : (hidT h H).get? b = none := PySem.W.hideAll_none (trk h H) hm
    rw [z] at e; cases e

/-! ### OpenK's ledger, filled with every new object but one -/
noncomputable def allNews (g h : Heap) (L : Addr) : List (Addr × Obj) := (List.range h.objs.size).filterMap fun a => if a = L ∨ (g.get? a).isSome = true then none else (h.get? a).map fun o => (a, o)
noncomputable def rest (g h : Heap) (L d : Addr) : List (Addr × Obj) := (allNews g h L).filter fun p => decide (p.1 ≠ d)
end L2

namespace L2
open PySem PySem.Spec PyProof.Rows

/-- the module's facts, over the base: the heap at the law's entry without what is tracked there -/
structure Mod (K : PySem.W.Frag) (mg : Str → Option Value) (base : Heap) : Prop where
  kin : K.In base
  glob : base.Ns mainGlobals mg
  blt : ∃ mb, base.Ns builtinsNs mb ∧ ∀ x : Str, x ≠ "__name__" → mb x = bootBuiltins x
  nolimit : base.NoLimit

/-- the context: a def's body (or a comprehension's block) running. base: fixed through the whole law; s₀, H₀: the entry; outer: the frames whose slots others may change (a def's callers); stack: all frames that run;
   ex: iterators that were made ahead of the entry and are walked here (a comprehension's); fn: the names whose cells were made at the entry (a def: all; a comprehension's block: its own); calm: not within an except suite; pn: pins that every state bears; xe: what is wanted of an exception that leaves the code -/
structure Cx where
  prog : Program
  w : World
  K : PySem.W.Frag
  mg : Str → Option Value
  base : Heap
  A : Around
  N : List Str
  s₀ : Shared
  H₀ : Hp
  env : Env
  outer : List Env
  stack : List Env
  ex : List Addr
  fn : Str → Bool
  calm : Bool
  pn : List (Addr × Obj)
  xe : Value → Shared → Prop
/-- the callers' frames -/
noncomputable def frs (l : List Env) : List Addr := l.filterMap (·.frame)
noncomputable abbrev Cx.fs (X : Cx) : List Addr := frs X.outer

noncomputable def Vis (sc : Scope) (x : Str) : Prop := sc.names.lookup x = some .local ∨ sc.names.lookup x = some .cell ∨ sc.names.lookup x = some .free
noncomputable def Loc (sc : Scope) (x : Str) : Prop := sc.names.lookup x = some .local ∨ sc.names.lookup x = some .cell
noncomputable def Look (env : Env) (h : Heap) (m : Str → Option Value) (x : Str) (u : Value) : Prop :=
  (env.kindOf x = some .local ∧ m x = some u) ∨ ((env.kindOf x = some .cell ∨ env.kindOf x = some .free) ∧ ∃ c, env.cells.lookup x = some c ∧ h.IsCell c (some u))

structure Cx.Ok (X : Cx) : Prop where
  mod : Mod X.K X.mg X.base
  kind : X.env.scope.kind = .function
  glob : X.env.globals = mainGlobals
  blt : X.env.builtins = builtinsNs
  above : X.s₀.heap.objs.size ≤ X.env.locals
  inj : ∀ x y c, X.env.cells.lookup x = some c → X.env.cells.lookup y = some c → x = y
  has : ∀ x, (X.env.kindOf x = some .cell ∨ X.env.kindOf x = some .free) → ∃ c, X.env.cells.lookup x = some c
  cab : ∀ x c, X.fn x = true → X.env.cells.lookup x = some c → X.s₀.heap.objs.size ≤ c
  hd : X.calm = true → X.A.handled = none
  frames : X.A.frames = some X.stack
  stk : X.stack = X.outer ∨ (X.stack = X.env :: X.outer ∧ X.env.frame = some X.env.locals)
  exf : ∀ b ∈ X.ex, b ≠ X.env.locals ∧ ∀ x c, X.env.cells.lookup x = some c → c ≠ b
  bs : ∀ b o, X.base.get? b = some o → X.s₀.heap.get? b = some o ∧ X.H₀ b = none
  bsz : X.base.objs.size ≤ X.s₀.heap.objs.size
  noex : ∀ b o, X.base.get? b = some o → b ∉ X.ex
  exfs : ∀ b ∈ X.ex, b ∉ X.fs
  funs : X.s₀.heap.FunFrames X.base X.outer
  frf : ∀ b ∈ X.fs, X.H₀ b = none

structure Inv (X : Cx) (pins : List (Addr × Obj)) (σ : List (Option V)) (H : Hp) (s : Shared) : Prop where
  ok : X.Ok
  os : s.os = X.s₀.os
  bare : AllBare s.gens
  base : Un X.fs X.ex X.H₀ H X.s₀.heap s.heap
  loc : ∃ m, s.heap.Ns X.env.locals m ∧ ∀ (i : Nat) (x : Str) (v : V), X.N[i]? = some x → σ[i]? = some (some v) → Vis X.env.scope x → ∃ u, RelV v u ∧ Look X.env s.heap m x u
  cell : ∀ x c, X.env.cells.lookup x = some c → ∃ v, s.heap.IsCell c v
  free : H X.env.locals = none
  freeC : ∀ x c, X.env.cells.lookup x = some c → H c = none
  pin : ∀ p ∈ X.pn ++ pins, s.heap.get? p.1 = some p.2 ∧ H p.1 = none ∧ p.1 ≠ X.env.locals ∧ p.1 ∉ X.fs ∧ ∀ v, p.2.data ≠ .cell v
  hok : HOk X.prog X.w H s.heap
  len : σ.length = X.N.length

section
variable {X : Cx} {pins : List (Addr × Obj)} {σ : List (Option V)} {H H' : Hp} {s : Shared} {h' : Heap}

theorem Cx.Ok.nofr (ok : X.Ok) {b : Addr} {o : Obj} (e : X.base.get? b = some o) : b ∉ X.fs := fun hb => by
  have := (ok.funs.mem hb).1
  rw [e] at this; cases this
theorem Inv.bs (I : Inv X pins σ H s) : ∀ b o, X.base.get? b = some o → s.heap.get? b = some o ∧ H b = none := fun b o e =>
  ⟨I.base.keep b o (I.ok.bs b o e).1 (I.ok.bs b o e).2 (I.ok.nofr e) (I.ok.noex b o e), I.base.free b o (I.ok.bs b o e).1 (I.ok.bs b o e).2 (I.ok.noex b o e)⟩
theorem Inv.bk (I : Inv X pins σ H s) : ∀ b o, X.base.get? b = some o → s.heap.get? b = some o := fun b o e => (I.bs b o e).1
theorem Inv.mod (I : Inv X pins σ H s) : Mod X.K X.mg X.base := I.ok.mod
theorem Inv.kIn (I : Inv X pins σ H s) : X.K.In s.heap := I.ok.mod.kin.keeps I.bk
theorem Inv.lt (I : Inv X pins σ H s) : X.env.locals < s.heap.objs.size := let ⟨_, hn, _⟩ := I.loc; hn.lt
theorem Inv.sz (I : Inv X pins σ H s) : X.s₀.heap.objs.size ≤ s.heap.objs.size := Nat.le_trans I.ok.above (Nat.le_of_lt I.lt)
theorem Inv.nofs (I : Inv X pins σ H s) {a : Addr} (h : s.heap.objs.size ≤ a) : a ∉ X.fs := fun hb => by
  obtain ⟨_, o, ho, _⟩ := I.ok.funs.mem hb
  exact absurd (Nat.lt_of_lt_of_le (Heap.lt_size ho) (Nat.le_trans I.sz h)) (Nat.lt_irrefl _)
theorem Inv.cne (I : Inv X pins σ H s) : ∀ x c, X.env.cells.lookup x = some c → c ≠ X.env.locals := fun x c e z => by
  obtain ⟨v, o, ho, hd⟩ := I.cell x c e
  obtain ⟨m, ⟨o', es, ep, ho', hd', _⟩, _⟩ := I.loc
  rw [z, ho'] at ho; cases ho; rw [hd'] at hd; cases hd
theorem Inv.funs (I : Inv X pins σ H s) : s.heap.FunFrames X.base X.outer := by
  have all : ∀ (l : List Env), (∀ b ∈ frs l, b ∈ X.fs) → X.s₀.heap.FunFrames X.base l → s.heap.FunFrames X.base l := by
    intro l
    induction l with
    | nil => intro _ _; trivial
    | cons env r ih =>
      intro hs hl
      obtain ⟨hk, ⟨L, o, hf, hn, ho, hd⟩, hr⟩ := hl
      have hL : L ∈ X.fs := hs L (by unfold frs; rw [List.filterMap_cons, hf]; exact List.mem_cons_self)
      obtain ⟨sl, e⟩ := I.base.slot L o ho (I.ok.frf L hL) hL fun z => I.ok.exfs L z hL
      exact ⟨hk, ⟨L, _, hf, hn, e, hd⟩, ih (fun b hb => hs b (by unfold frs; rw [List.filterMap_cons, hf]; exact List.mem_cons_of_mem _ hb)) hr⟩
  exact all X.outer (fun _ hb => hb) I.ok.funs

/-- the frames that run, for a call -/
theorem Inv.stack (I : Inv X pins σ H s) : s.heap.FunFrames X.base X.stack := by
  rcases I.ok.stk with e | ⟨e, hf⟩
  · rw [e]; exact I.funs
  · rw [e]
    obtain ⟨m, hn, _⟩ := I.loc
    refine .cons (by rw [I.ok.kind]; decide) hf hn ?_ I.funs
    exact Heap.get?_none_of_le (Nat.le_trans I.ok.bsz I.ok.above)
theorem Inv.stkSub (I : Inv X pins σ H s) : ∀ b ∈ frs X.stack, b ∈ X.env.locals :: X.fs := fun b hb => by
  rcases I.ok.stk with e | ⟨e, hf⟩
  · rw [e] at hb; exact List.mem_cons_of_mem _ hb
  · rw [e] at hb
    unfold frs at hb
    rw [List.filterMap_cons, hf] at hb
    exact hb
theorem Inv.stkFree (I : Inv X pins σ H s) : ∀ b ∈ frs X.stack, H b = none := fun b hb => by
  rcases List.mem_cons.mp (I.stkSub b hb) with e | hb
  · rw [e]; exact I.free
  · obtain ⟨_, o, ho, _⟩ := I.ok.funs.mem hb
    exact I.base.free b o ho (I.ok.frf b hb) fun z => I.ok.exfs b z hb

/-- THE STEP: the untracked objects but the frame and the records at ch are kept (the callers' frames up to slots), the frame's map is kept, the new abstract heap is held -/
theorem Inv.step {g' : Array GenState} {t' : Nat} {d' : Drawn} {ch : List Addr} (I : Inv X pins σ H s)
    (hch : ∀ b ∈ ch, (b ∈ X.ex ∨ X.s₀.heap.objs.size ≤ b) ∧ b ≠ X.env.locals ∧ (∀ x c, X.env.cells.lookup x = some c → c ≠ b) ∧ ∀ p ∈ X.pn ++ pins, p.1 ≠ b)
    (keep : ∀ b o, b ≠ X.env.locals → b ∉ X.fs → b ∉ ch → s.heap.get? b = some o → H b = none → h'.get? b = some o)
    (slot : ∀ b o, b ≠ X.env.locals → b ∈ X.fs → b ∉ ch → s.heap.get? b = some o → H b = none → ∃ sl, h'.get? b = some { o with slots := sl }) (free : ∀ b o, b ∉ ch → s.heap.get? b = some o → H b = none → H' b = none)
    (there : ∀ b o, b ∉ ch → s.heap.get? b = some o → ∃ o', h'.get? b = some o')
    (tups : ∀ b xs, H b = some (.tup xs) → H' b = some (.tup xs)) (frzs : ∀ b o u, H b = some (.frz o u) → H' b = some (.frz o u)) (tbls : ∀ b ps, H b = some (.tbl ps) → ∃ more, H' b = some (.tbl (ps ++ more)))
    (ns : ∀ m, s.heap.Ns X.env.locals m → h'.Ns X.env.locals m) (hok : HOk X.prog X.w H' h') (hg : AllBare g') :
    Inv X pins σ H' { s with heap := h', gens := g', drawn := d', toks := t' } := by
  have neL : ∀ b o, X.s₀.heap.get? b = some o → b ≠ X.env.locals := fun b o e => Nat.ne_of_lt (Nat.lt_of_lt_of_le (Heap.lt_size e) I.ok.above)
  have neC : ∀ b o, X.s₀.heap.get? b = some o → b ∉ X.ex → b ∉ ch := fun b o e hx hb => by
    rcases (hch b hb).1 with z | z
    · exact hx z
    · exact absurd (Nat.lt_of_lt_of_le (Heap.lt_size e) z) (Nat.lt_irrefl _)
  have cellK : ∀ x c, X.env.cells.lookup x = some c → ∀ v, s.heap.IsCell c v → h'.IsCell c v := fun x c e v ⟨o, ho, hd⟩ => by
    have nch : c ∉ ch := fun z => (hch c z).2.2.1 x c e rfl
    by_cases hc : c ∈ X.fs
    · obtain ⟨sl, q⟩ := slot c o (I.cne x c e) hc nch ho (I.freeC x c e)
      exact ⟨_, q, hd⟩
    · exact ⟨o, keep c o (I.cne x c e) hc nch ho (I.freeC x c e), hd⟩
  refine ⟨I.ok, I.os, hg, ⟨fun b o e n hb hx => ?_, fun b o e n hb hx => ?_, fun b o e n hx => ?_, fun b o e hx => ?_, fun b xs e => tups b xs (I.base.tups b xs e), fun b o xs e => frzs b o xs (I.base.frzs b o xs e), fun b ps e => ?_⟩, ?_, fun x c e => ?_, ?_, fun x c e => ?_, fun p hp => ?_, hok, I.len⟩
  · exact keep b o (neL b o e) hb (neC b o e hx) (I.base.keep b o e n hb hx) (I.base.free b o e n hx)
  · obtain ⟨sl, e1⟩ := I.base.slot b o e n hb hx
    obtain ⟨sl', e2⟩ := slot b _ (neL b o e) hb (neC b o e hx) e1 (I.base.free b o e n hx)
    exact ⟨sl', e2⟩
  · obtain ⟨o', e1⟩ := I.base.there b o e hx
    exact free b o' (neC b o e hx) e1 (I.base.free b o e n hx)
  · obtain ⟨o', e1⟩ := I.base.there b o e hx
    exact there b o' (neC b o e hx) e1
  · obtain ⟨m1, e1⟩ := I.base.tbls b ps e
    obtain ⟨m2, e2⟩ := tbls b _ e1
    exact ⟨m1 ++ m2, by rw [e2, Array.append_assoc]⟩
  · obtain ⟨m, hn, hl⟩ := I.loc
    refine ⟨m, ns m hn, fun i x v e1 e2 e3 => ?_⟩
    obtain ⟨u, r, l⟩ := hl i x v e1 e2 e3
    refine ⟨u, r, ?_⟩
    rcases l with l | ⟨k, c, e, z⟩
    · exact .inl l
    · exact .inr ⟨k, c, e, cellK x c e _ z⟩
  · obtain ⟨v, z⟩ := I.cell x c e
    exact ⟨v, cellK x c e v z⟩
  · obtain ⟨m, ⟨o, _, _, ho, _⟩, _⟩ := I.loc
    exact free _ o (fun z => (hch _ z).2.1 rfl) ho I.free
  · obtain ⟨v, o, ho, hd⟩ := I.cell x c e
    exact free c o (fun z => (hch c z).2.2.1 x c e rfl) ho (I.freeC x c e)
  · obtain ⟨e, n, ne, nf, d⟩ := I.pin p hp
    have nch : p.1 ∉ ch := fun z => (hch p.1 z).2.2.2 p hp rfl
    exact ⟨keep p.1 p.2 ne nf nch e n, free p.1 p.2 nch e n, ne, nf, d⟩
/-- .. where the frame's own object is kept too -/
theorem Inv.un {t' : Nat} (I : Inv X pins σ H s) (u : Un X.fs [] H H' s.heap h') (hok : HOk X.prog X.w H' h') : Inv X pins σ H' { s with heap := h', toks := t' } := by
  obtain ⟨m, ⟨o, es, ep, ho, r⟩, _⟩ := id I.loc
  obtain ⟨sl, hL⟩ := u.any ho I.free (by simp)
  exact I.step (g' := s.gens) (d' := s.drawn) (ch := []) (fun _ z => nomatch z) (fun b o _ hb _ e n => u.keep b o e n hb (by simp)) (fun b o _ hb _ e n => u.slot b o e n hb (by simp)) (fun b o _ e n => u.free b o e n (by simp)) (fun b o _ e => u.there b o e (by simp)) u.tups u.frzs u.tbls (fun m' hm => by
    obtain ⟨o', es', ep', ho', r'⟩ := hm
    rw [ho] at ho'; cases ho'
    exact ⟨_, es', ep', hL, r'⟩) hok I.bare
/-- behind a call (or a comprehension's block): the slots of this frame may have changed too, the records at ch may have turned -/
theorem Inv.call {g' : Array GenState} {t' : Nat} {d' : Drawn} {ch : List Addr} (I : Inv X pins σ H s) (u : Un (frs X.stack) ch H H' s.heap h') (hok : HOk X.prog X.w H' h') (hg : AllBare g')
    (hch : ∀ b ∈ ch, (b ∈ X.ex ∨ X.s₀.heap.objs.size ≤ b) ∧ b ≠ X.env.locals ∧ (∀ x c, X.env.cells.lookup x = some c → c ≠ b) ∧ ∀ p ∈ X.pn ++ pins, p.1 ≠ b) :
    Inv X pins σ H' { s with heap := h', gens := g', drawn := d', toks := t' } := by
  obtain ⟨m, ⟨o, es, ep, ho, r⟩, _⟩ := id I.loc
  obtain ⟨sl, hL⟩ := u.any ho I.free fun z => (hch _ z).2.1 rfl
  exact I.step (ch := ch) hch (fun b o hL hb hc e n => u.keep b o e n (fun z => (List.mem_cons.mp (I.stkSub b z)).elim hL hb) hc) (fun b o _ _ hc e n => u.any e n hc) (fun b o hc e n => u.free b o e n hc) (fun b o hc e => u.there b o e hc) u.tups u.frzs u.tbls (fun m' hm => by
    obtain ⟨o', es', ep', ho', r'⟩ := hm
    rw [ho] at ho'; cases ho'
    exact ⟨_, es', ep', hL, r'⟩) hok hg
/-- an untracked record of ours (an iterator) has turned -/
theorem Inv.turned {t' : Nat} {it : Addr} (I : Inv X pins σ H s) (k : ∀ b o, b ≠ it → s.heap.get? b = some o → h'.get? b = some o) (hn : H it = none) (hL : it ≠ X.env.locals)
    (h1 : it ∈ X.ex ∨ X.s₀.heap.objs.size ≤ it) (h2 : ∀ x c, X.env.cells.lookup x = some c → c ≠ it) (h3 : ∀ p ∈ X.pn ++ pins, p.1 ≠ it) : Inv X pins σ H { s with heap := h', toks := t' } := by
  have nit : ∀ b u, H b = some u → b ≠ it := fun b u e z => by rw [z, hn] at e; cases e
  refine I.step (g' := s.gens) (d' := s.drawn) (ch := [it]) (fun b hb => ?_) (fun b o _ _ hc e _ => k b o (fun z => hc (by simp [z])) e) (fun b o _ _ hc e _ => ⟨o.slots, k b o (fun z => hc (by simp [z])) e⟩) (fun _ _ _ _ n => n)
    (fun b o hc e => ⟨o, k b o (fun z => hc (by simp [z])) e⟩) (fun _ _ e => e) (fun _ _ _ e => e) (fun b ps e => ⟨#[], by rw [e]; simp⟩) (fun m hm => ?_) (fun b u e => ?_) I.bare
  · have e : b = it := by simpa using hb
    subst e
    exact ⟨h1, hL, h2, h3⟩
  · obtain ⟨o, es, ep, ho, r⟩ := hm
    exact ⟨o, es, ep, k _ o (Ne.symm hL) ho, r⟩
  · refine (I.hok b u e).stay (fun c v hc q => k c v ?_ q) (fun _ q => q) fun _ _ q => q
    rcases hc with z | z
    · rw [z]; exact nit b u e
    · exact nit c _ z
theorem Inv.tok (I : Inv X pins σ H s) (t : Nat) : Inv X pins σ H { s with toks := t } := I.un (h' := s.heap) (t' := t) Un.refl I.hok
/-- all objects kept -/
theorem Inv.kept {t' : Nat} (I : Inv X pins σ H s) (k : ∀ b u, s.heap.get? b = some u → h'.get? b = some u) : Inv X pins σ H { s with heap := h', toks := t' } := I.un (Un.kept k) (I.hok.kept k)
/-- a new object laid and tracked -/
theorem Inv.laid {a : Addr} {o : HO} {t' : Nat} (I : Inv X pins σ H s) (k : ∀ b u, s.heap.get? b = some u → h'.get? b = some u) (hp : s.heap.objs.size ≤ a) (new : ObjOk X.prog X.w (upd H a o) h' a o) :
    Inv X pins σ (upd H a o) { s with heap := h', toks := t' } := I.un (Un.laid k hp (I.hok.fresh hp)) (I.hok.laid k hp new)
/-- an object written -/
theorem Inv.write {x e : Addr} {o : HO} {t' : Nat} (I : Inv X pins σ H s) (mu : Mut (H x)) (he : e = x ∨ H e = some (.own x)) (k : ∀ b u, b ≠ e → s.heap.get? b = some u → h'.get? b = some u) (heo : ∃ u, h'.get? e = some u)
    (new : ObjOk X.prog X.w (upd H x o) h' x o) : Inv X pins σ (upd H x o) { s with heap := h', toks := t' } := I.un (Un.write mu he k heo) (I.hok.write mu he k heo new)
theorem Inv.pins_of {pins' : List (Addr × Obj)} (I : Inv X pins σ H s) (h : ∀ p ∈ pins', s.heap.get? p.1 = some p.2 ∧ H p.1 = none ∧ p.1 ≠ X.env.locals ∧ p.1 ∉ X.fs ∧ ∀ v, p.2.data ≠ .cell v) : Inv X pins' σ H s :=
  ⟨I.ok, I.os, I.bare, I.base, I.loc, I.cell, I.free, I.freeC, fun p hp => (List.mem_append.mp hp).elim (fun z => I.pin p (List.mem_append_left _ z)) (h p), I.hok, I.len⟩

theorem nodup_ix {N : List Str} (hN : N.Nodup) {i j : Nat} {x : Str} (a : N[i]? = some x) (b : N[j]? = some x) : i = j := by
  obtain ⟨h1, e1⟩ := List.getElem?_eq_some_iff.mp a
  obtain ⟨h2, e2⟩ := List.getElem?_eq_some_iff.mp b
  exact (List.getElem_inj hN).mp (e1.trans e2.symm)

/-- a name is stored; what changed -/
theorem store_ok2 {M : Model} {A : Around} {E : Value → Shared → Prop} {i : Nat} {x : Str} {v : V} {u : Value} {Q : Unit → Shared → Prop} (I : Inv X pins σ H s) (hN : X.N.Nodup) (hi : X.N[i]? = some x) (hx : Loc X.env.scope x) (r : RelV v u)
    (h : ∀ s', Inv X pins (σ.set i (some v)) H s' → (∃ a, Heap.SameBut a s.heap s'.heap ∧ (a = X.env.locals ∨ X.env.cells.lookup x = some a)) → Q () s') (hf : X.fn x = true ∨ X.env.scope.names.lookup x = some .local := by first | exact .inl rfl | exact .inr rfl | assumption) : wpAny M A (storeName X.env x u) Q E s := by
  obtain ⟨m, hn, hl⟩ := id I.loc
  have hcls : (X.env.scope.kind == .class || (X.env.scope.kind == .module && X.env.locals != X.env.globals)) = false := by rw [I.ok.kind]; rfl
  have hiσ : i < σ.length := by rw [I.len]; exact (List.getElem?_eq_some_iff.mp hi).1
  have cne := I.cne
  have tracked : ∀ {a : Addr} {h' : Heap}, (∃ o, s.heap.get? a = some o ∧ H a = none) → Heap.SameBut a s.heap h' → HOk X.prog X.w H h' := fun {a h'} ha hs b ob e => by
    obtain ⟨_, _, hfree⟩ := ha
    refine (I.hok b ob e).stay (fun c w' hc q => (hs.2 c ?_).trans q) (fun _ q => q) fun _ _ q => q
    rintro rfl
    rcases hc with rfl | hc
    · rw [hfree] at e; cases e
    · rw [hfree] at hc; cases hc
  rcases hx with hk | hk
  · refine wpAny_storeName_local hk hn (fun h' hn' hs => ?_) hcls
    obtain ⟨oL, _, _, hoL, _⟩ := id hn
    refine h _ ⟨I.ok, I.os, I.bare, ⟨fun b o e n hb hx => ?_, fun b o e n hb hx => ?_, I.base.free, fun b o e hx => ?_, I.base.tups, I.base.frzs, I.base.tbls⟩, ⟨_, hn', fun j y v' e1 e2 e3 => ?_⟩, fun y c e => ?_, I.free, I.freeC, fun p hp => ?_, tracked ⟨oL, hoL, I.free⟩ hs, by simpa using I.len⟩ ⟨_, hs, .inl rfl⟩
    · exact (hs.2 b (Nat.ne_of_lt (Nat.lt_of_lt_of_le (Heap.lt_size e) I.ok.above))).trans (I.base.keep b o e n hb hx)
    · obtain ⟨sl, e1⟩ := I.base.slot b o e n hb hx
      exact ⟨sl, (hs.2 b (Nat.ne_of_lt (Nat.lt_of_lt_of_le (Heap.lt_size e) I.ok.above))).trans e1⟩
    · obtain ⟨o', e1⟩ := I.base.there b o e hx
      exact ⟨o', (hs.2 b (Nat.ne_of_lt (Nat.lt_of_lt_of_le (Heap.lt_size e) I.ok.above))).trans e1⟩
    · by_cases hj : j = i
      · subst hj
        rw [hi] at e1; cases e1
        rw [List.getElem?_set_self hiσ] at e2
        cases e2
        exact ⟨u, r, .inl ⟨hk, by simp⟩⟩
      · rw [List.getElem?_set_ne (Ne.symm hj)] at e2
        obtain ⟨u', r', q⟩ := hl j y v' e1 e2 e3
        refine ⟨u', r', ?_⟩
        rcases q with ⟨k, e⟩ | ⟨k, c, e, z⟩
        · refine .inl ⟨k, ?_⟩
          have : y ≠ x := fun e => hj (nodup_ix hN e1 (e ▸ hi))
          simp [this, e]
        · exact .inr ⟨k, c, e, z.sameBut hs (cne y c e)⟩
    · obtain ⟨w', z⟩ := I.cell y c e
      exact ⟨w', z.sameBut hs (cne y c e)⟩
    · obtain ⟨e, n, ne, nf, d⟩ := I.pin p hp
      exact ⟨(hs.2 p.1 ne).trans e, n, ne, nf, d⟩
  · have hfn : X.fn x = true := by
      rcases hf with z | z
      · exact z
      · rw [z] at hk; cases hk
    obtain ⟨c, hc⟩ := I.ok.has x (.inl hk)
    obtain ⟨w', z⟩ := I.cell x c hc
    refine wpAny_storeName_cell I.ok.kind hk hc z (fun h' hc' hs => ?_)
    obtain ⟨oc, hoc, hocd⟩ := id z
    refine h { s with heap := h' } ⟨I.ok, I.os, I.bare, ⟨fun b o e n hb hx => ?_, fun b o e n hb hx => ?_, I.base.free, fun b o e hx => ?_, I.base.tups, I.base.frzs, I.base.tbls⟩, ⟨m, hn.sameBut hs (Ne.symm (cne x c hc)), fun j y v' e1 e2 e3 => ?_⟩, fun y c' e => ?_, I.free, I.freeC, fun p hp => ?_, tracked ⟨oc, hoc, I.freeC x c hc⟩ hs, by simpa using I.len⟩ ⟨c, hs, .inr hc⟩
    · exact (hs.2 b (Nat.ne_of_lt (Nat.lt_of_lt_of_le (Heap.lt_size e) (I.ok.cab x c hfn hc)))).trans (I.base.keep b o e n hb hx)
    · obtain ⟨sl, e1⟩ := I.base.slot b o e n hb hx
      exact ⟨sl, (hs.2 b (Nat.ne_of_lt (Nat.lt_of_lt_of_le (Heap.lt_size e) (I.ok.cab x c hfn hc)))).trans e1⟩
    · obtain ⟨o', e1⟩ := I.base.there b o e hx
      exact ⟨o', (hs.2 b (Nat.ne_of_lt (Nat.lt_of_lt_of_le (Heap.lt_size e) (I.ok.cab x c hfn hc)))).trans e1⟩
    · by_cases hj : j = i
      · subst hj
        rw [hi] at e1; cases e1
        rw [List.getElem?_set_self hiσ] at e2
        cases e2
        exact ⟨u, r, .inr ⟨.inl hk, c, hc, hc'⟩⟩
      · rw [List.getElem?_set_ne (Ne.symm hj)] at e2
        obtain ⟨u', r', q⟩ := hl j y v' e1 e2 e3
        refine ⟨u', r', ?_⟩
        rcases q with q | ⟨k, c', e, z'⟩
        · exact .inl q
        · refine .inr ⟨k, c', e, z'.sameBut hs ?_⟩
          rintro rfl
          exact hj (nodup_ix hN e1 (I.ok.inj _ _ _ e hc ▸ hi))
    · by_cases hcc : c' = c
      · subst hcc; exact ⟨_, hc'⟩
      · obtain ⟨w2, z2⟩ := I.cell y c' e
        exact ⟨w2, z2.sameBut hs hcc⟩
    · obtain ⟨e, n, ne, nf, d⟩ := I.pin p hp
      refine ⟨(hs.2 p.1 ?_).trans e, n, ne, nf, d⟩
      intro q
      rw [q, hoc] at e
      have q' : oc = p.2 := Option.some.inj e
      exact d w' (by rw [← q']; exact hocd)
theorem store_ok {M : Model} {A : Around} {E : Value → Shared → Prop} {i : Nat} {x : Str} {v : V} {u : Value} {Q : Unit → Shared → Prop} (I : Inv X pins σ H s) (hN : X.N.Nodup) (hi : X.N[i]? = some x) (hx : Loc X.env.scope x) (r : RelV v u)
    (h : ∀ s', Inv X pins (σ.set i (some v)) H s' → Q () s') (hf : X.fn x = true ∨ X.env.scope.names.lookup x = some .local := by first | exact .inl rfl | exact .inr rfl | assumption) : wpAny M A (storeName X.env x u) Q E s :=
  store_ok2 I hN hi hx r (fun s' I' _ => h s' I') hf
/-- behind a call or a block, the state as it is -/
theorem Inv.call' {s' : Shared} {ch : List Addr} (I : Inv X pins σ H s) (ho : s'.os = s.os) (u : Un (frs X.stack) ch H H' s.heap s'.heap) (hok : HOk X.prog X.w H' s'.heap) (hg : AllBare s'.gens)
    (hch : ∀ b ∈ ch, (b ∈ X.ex ∨ X.s₀.heap.objs.size ≤ b) ∧ b ≠ X.env.locals ∧ (∀ x c, X.env.cells.lookup x = some c → c ≠ b) ∧ ∀ p ∈ X.pn ++ pins, p.1 ≠ b) : Inv X pins σ H' s' := by
  obtain ⟨h', g', d', t', o'⟩ := s'
  have e : o' = s.os := ho
  subst e
  exact I.call (g' := g') (t' := t') (d' := d') u hok hg hch
end

/-! ### the judgements -/
/-- an exception: its class, its own dict's address (where it has one), the abstract heap behind it -/
noncomputable abbrev XK := Value → Option Addr → Hp → Prop
noncomputable abbrev St := List (Option V)
noncomputable abbrev VK := V → Hp → Prop
/-- an expression's reading; a test's; an argument list's -/
noncomputable abbrev TE := St → Hp → VK → Prop
noncomputable abbrev TT := St → Hp → (Bool → Hp → Prop) → Prop
noncomputable abbrev TA := St → Hp → (List V → Hp → Prop) → Prop
/-- what is wanted behind a statement -/
structure Ends where
  nx : St → Hp → Prop
  rt : VK
  bk : St → Hp → Prop := fun _ _ => False
  ct : St → Hp → Prop := fun _ _ => False
noncomputable abbrev TS := Ends → St → Hp → Prop

noncomputable def EP (X : Cx) (pins : List (Addr × Obj)) (σ : St) (Q : VK) (u : Value) (s' : Shared) : Prop := ∃ v H', Inv X pins σ H' s' ∧ RelV v u ∧ Q v H'
noncomputable def TP (X : Cx) (pins : List (Addr × Obj)) (σ : St) (Q : Bool → Hp → Prop) (b : Bool) (s' : Shared) : Prop := ∃ H', Inv X pins σ H' s' ∧ Q b H'
noncomputable def AP (X : Cx) (pins : List (Addr × Obj)) (σ : St) (Q : List V → Hp → Prop) (us : List Value) (s' : Shared) : Prop := ∃ vs H', Inv X pins σ H' s' ∧ Vals vs us ∧ Q vs H'
noncomputable def SP (X : Cx) (pins : List (Addr × Obj)) (D : Ends) (f : Flow) (s' : Shared) : Prop :=
  match f with
  | .next => ∃ σ' H', Inv X pins σ' H' s' ∧ D.nx σ' H'
  | .brk => ∃ σ' H', Inv X pins σ' H' s' ∧ D.bk σ' H'
  | .cont => ∃ σ' H', Inv X pins σ' H' s' ∧ D.ct σ' H'
  | .ret u => ∃ v σ' H', Inv X pins σ' H' s' ∧ RelV v u ∧ D.rt v H'

noncomputable def PE (X : Cx) (e : Expr) (t : TE) : Prop :=
  ∀ (pins : List (Addr × Obj)) (s : Shared) (σ : St) (H : Hp) (Q : VK), Inv X pins σ H s → t σ H Q → wpAny (model X.prog X.w) X.A (eval e X.env) (EP X pins σ Q) X.xe s
noncomputable def PT (X : Cx) (e : Expr) (t : TT) : Prop :=
  ∀ (pins : List (Addr × Obj)) (s : Shared) (σ : St) (H : Hp) (Q : Bool → Hp → Prop), Inv X pins σ H s → t σ H Q → wpAny (model X.prog X.w) X.A (isTrue e X.env (eval e X.env)) (TP X pins σ Q) X.xe s
/-- a test whatever its 'whole' is (and, or) -/
noncomputable def PW (X : Cx) (e : Expr) (t : TT) : Prop :=
  ∀ (whole : Sem Value) (pins : List (Addr × Obj)) (s : Shared) (σ : St) (H : Hp) (Q : Bool → Hp → Prop), Inv X pins σ H s → t σ H Q → wpAny (model X.prog X.w) X.A (isTrue e X.env whole) (TP X pins σ Q) X.xe s
theorem PW.pt {X : Cx} {e : Expr} {t : TT} (h : PW X e t) : PT X e t := h _
/-- an argument list (no star), from the left -/
noncomputable def PA (X : Cx) (es : List Expr) (t : TA) : Prop :=
  ∀ (pos : Pos) (pins : List (Addr × Obj)) (s : Shared) (σ : St) (H : Hp) (Q : List V → Hp → Prop), Inv X pins σ H s → t σ H Q → wpAny (model X.prog X.w) X.A (spliced (backTo pos (starEach es X.env))) (AP X pins σ Q) X.xe s
noncomputable def PS (X : Cx) (st : Stmt) (t : TS) : Prop :=
  ∀ (pins : List (Addr × Obj)) (s : Shared) (σ : St) (H : Hp) (D : Ends), Inv X pins σ H s → t D σ H → wpAny (model X.prog X.w) X.A (exec st X.env) (SP X pins D) X.xe s
noncomputable def PSs (X : Cx) (st : List Stmt) (t : TS) : Prop :=
  ∀ (pins : List (Addr × Obj)) (s : Shared) (σ : St) (H : Hp) (D : Ends), Inv X pins σ H s → t D σ H → wpAny (model X.prog X.w) X.A (execs st X.env) (SP X pins D) X.xe s
/-- weaken the end -/
theorem thn {α : Type} {t : Sem α} {Q Q' : α → Shared → Prop} {M : Model} {A : Around} {E : Value → Shared → Prop} {s : Shared} (h : wpAny M A t Q E s) (hQ : ∀ a s, Q a s → Q' a s) : wpAny M A t Q' E s := wpAny_mono h hQ fun _ _ x => x
end L2

namespace L2
open PySem PySem.Spec PyProof.Rows
section
variable {X : Cx}

/-! ### names and constants -/
noncomputable def tVar (i : Nat) : TE := fun σ H Q => ∃ v, σ[i]? = some (some v) ∧ Q v H
noncomputable def tC (v : V) : TE := fun _ H Q => Q v H
theorem pe_var {i : Nat} {x : Str} {pos : Pos} (hN : X.N[i]? = some x) (hv : Vis X.env.scope x) (hd : (x == ("__debug__" : Str)) = false := by decide) (hcd : (x == ("__classdict__" : Str)) = false := by decide) : PE X (.Name x pos) (tVar i) := by
  intro pins s σ H Q I h
  obtain ⟨v, e, h⟩ := h
  obtain ⟨m, hn, hl⟩ := I.loc
  obtain ⟨u, r, l⟩ := hl i x v hN e hv
  have fin : EP X pins σ Q u s := ⟨v, H, I, r, h⟩
  rcases l with ⟨hk, hm⟩ | ⟨hk, c, hc, hcell⟩
  · exact wpAny_Name (wpAny_loadName_local I.ok.kind hk hn hm fin) hd
  · rcases hk with hk | hk
    · exact wpAny_Name (wpAny_loadName_cell I.ok.kind hk hc hcell fin) hd
    · exact wpAny_Name (wpAny_loadName_free I.ok.kind hk hc hcell fin hcd) hd
theorem pe_int {i j pos} : PE X (.Constant (.int i) j pos) (tC (.int i)) := fun _ _ _ H _ I h => wpAny_Constant_int ⟨.int i, H, I.tok _, ⟨_, rfl⟩, h⟩
theorem pe_bl {b j pos} : PE X (.Constant (.bool b) j pos) (tC (.bl b)) := fun _ _ _ H _ I h => Constant_bool ⟨.bl b, H, I, rfl, h⟩
theorem pe_non {j pos} : PE X (.Constant .none j pos) (tC .non) := fun _ _ _ H _ I h => Constant_none ⟨.non, H, I, rfl, h⟩
theorem pe_str {x j pos} : PE X (.Constant (.str x) j pos) (tC (.str x)) := fun _ _ _ H _ I h => Calls.Constant_str ⟨.str x, H, I.tok _, ⟨_, rfl⟩, h⟩

/-- a global name of the def -/
noncomputable def Gl (X : Cx) (x : Str) : Prop := X.env.kindOf x = some .globalImplicit
theorem ld_glob {E : Value → Shared → Prop} {pins : List (Addr × Obj)} {s : Shared} {σ : St} {H : Hp} {x : Str} {u : Value} {pos : Pos} {Q : Value → Shared → Prop} (I : Inv X pins σ H s) (hg : Gl X x) (hm : X.mg x = some u) (h : Q u s)
    (hd : (x == ("__debug__" : Str)) = false := by decide) : wpAny (model X.prog X.w) X.A (eval (.Name x pos) X.env) Q E s :=
  Calls.Name_function_global I.ok.kind hg (Calls.loadGlobal_global (by rw [I.ok.glob]; exact I.mod.glob.keeps I.bk) hm h) hd
theorem ld_blt {E : Value → Shared → Prop} {pins : List (Addr × Obj)} {s : Shared} {σ : St} {H : Hp} {x : Str} {u : Value} {pos : Pos} {Q : Value → Shared → Prop} (I : Inv X pins σ H s) (hg : Gl X x) (hm : X.mg x = none) (hv : bootBuiltins x = some u) (h : Q u s)
    (hn : x ≠ "__name__" := by decide) (hd : (x == ("__debug__" : Str)) = false := by decide) : wpAny (model X.prog X.w) X.A (eval (.Name x pos) X.env) Q E s := by
  obtain ⟨mb, h1, h2⟩ := I.mod.blt
  exact Calls.Name_function_global I.ok.kind hg (Calls.loadGlobal_builtin (by rw [I.ok.glob]; exact I.mod.glob.keeps I.bk) hm (by rw [I.ok.blt]; exact h1.keeps I.bk) ((h2 x hn).trans hv) h) hd
/-- a module's constant, a class, a function, as a value -/
theorem pe_glob {x : Str} {v : V} {u : Value} {pos : Pos} (hg : Gl X x) (hm : X.mg x = some u) (r : RelV v u) (hd : (x == ("__debug__" : Str)) = false := by decide) : PE X (.Name x pos) (tC v) :=
  fun _ _ _ H _ I h => ld_glob I hg hm ⟨v, H, I, r, h⟩ hd
theorem pe_bltn {x : Str} {v : V} {u : Value} {pos : Pos} (hg : Gl X x) (hm : X.mg x = none) (hv : bootBuiltins x = some u) (r : RelV v u) (hn : x ≠ "__name__" := by decide) (hd : (x == ("__debug__" : Str)) = false := by decide) : PE X (.Name x pos) (tC v) :=
  fun _ _ _ H _ I h => ld_blt I hg hm hv ⟨v, H, I, r, h⟩ hn hd

/-! ### arithmetic -/
variable {a b : Expr} {ta tb : TE} {pos : Pos}
/-! ### comparisons -/
noncomputable def PC (X : Cx) (op : CmpOp) (a b : Expr) (t : TE) : Prop :=
  ∀ (pins : List (Addr × Obj)) (s : Shared) (σ : St) (H : Hp) (Q : VK), Inv X pins σ H s → t σ H Q →
    wpAny (model X.prog X.w) X.A (eval a X.env) (fun v s₁ => wpAny (model X.prog X.w) X.A (eval b X.env) (fun u s₂ => wpAny (model X.prog X.w) X.A (compareOp op v u) (EP X pins σ Q) X.xe s₂) X.xe s₁) X.xe s
/-- a comparison as a value, as a test -/
noncomputable def tB (t : TE) : TT := fun σ H Q => t σ H fun x H1 => ∃ c, x = .bl c ∧ Q c H1
theorem pt_cmp {op : CmpOp} {t : TE} (h : PC X op a b t) (h1 : behindInMarks op b = false := by first | exact nobehind _ (by decide) (by decide) | rfl) : PT X (.Compare a [op] [b] pos) (tB t) := by
  intro pins s σ H Q I hw
  refine wpAny_isTrue_Compare1 (thn (h pins s σ H _ I hw) fun v s1 h1 => thn h1 fun u s2 h2 => thn h2 fun c s3 hh9 => ?_) h1
  obtain ⟨x, H1, I1, r1, q1⟩ := hh9
  obtain ⟨d, rfl, q⟩ := q1
  cases r1
  exact wpAny_truthy_bool ⟨H1, I1, q⟩
/-- an expression whose value is a bool, as a test -/
theorem pt_val {e : Expr} {t : TE} (h : PE X e t) (he : ∀ whole, isTrue e X.env whole = (do let v ← whole; standAt e.pos; holding [v] (truthy v)) := by intro _; rfl) : PT X e (tB t) := by
  intro pins s σ H Q I hw
  refine isTrue_plain (thn (h pins s σ H _ I hw) fun v s1 hh9 => ?_) (he _)
  obtain ⟨x, H1, I1, r1, q1⟩ := hh9
  obtain ⟨d, rfl, q⟩ := q1
  cases r1
  exact wpAny_truthy_bool ⟨H1, I1, q⟩

/-! ### and, or, not -/
variable {tA tB' : TT} {rest : List Expr}
noncomputable def tAnd (t u : TT) : TT := fun σ H Q => t σ H fun c H1 => if c = true then u σ H1 Q else Q false H1
noncomputable def tOr (t u : TT) : TT := fun σ H Q => t σ H fun c H1 => if c = true then Q true H1 else u σ H1 Q
noncomputable def tNot (t : TT) : TT := fun σ H Q => t σ H fun c H1 => Q (!c) H1
theorem pw_and1 (ha : PT X a tA) : PW X (.BoolOp .And [a] pos) tA := by
  intro wh pins s σ H Q I h
  refine isTrue_and (thn (ha pins s σ H Q I h) fun c s1 e => ?_)
  cases c with
  | true => exact isTrue_and_nil e
  | false => exact e
theorem pw_or1 (ha : PT X a tA) : PW X (.BoolOp .Or [a] pos) tA := by
  intro wh pins s σ H Q I h
  refine isTrue_or (thn (ha pins s σ H Q I h) fun c s1 e => ?_)
  cases c with
  | false => exact isTrue_or_nil e
  | true => exact e
theorem pw_and (ha : PT X a tA) (hb : PW X (.BoolOp .And (b :: rest) pos) tB') : PW X (.BoolOp .And (a :: b :: rest) pos) (tAnd tA tB') := by
  intro wh pins s σ H Q I h
  refine isTrue_and (thn (ha pins s σ H _ I h) fun c s1 hh9 => ?_)
  obtain ⟨H1, I1, q1⟩ := hh9
  cases c with
  | true => exact hb wh pins s1 σ H1 Q I1 q1
  | false => exact ⟨H1, I1, q1⟩
theorem pw_or (ha : PT X a tA) (hb : PW X (.BoolOp .Or (b :: rest) pos) tB') : PW X (.BoolOp .Or (a :: b :: rest) pos) (tOr tA tB') := by
  intro wh pins s σ H Q I h
  refine isTrue_or (thn (ha pins s σ H _ I h) fun c s1 hh9 => ?_)
  obtain ⟨H1, I1, q1⟩ := hh9
  cases c with
  | true => exact ⟨H1, I1, q1⟩
  | false => exact hb wh pins s1 σ H1 Q I1 q1
theorem pt_not (ha : PT X a tA) : PT X (.UnaryOp .Not a pos) (tNot tA) := by
  intro pins s σ H Q I h
  exact isTrue_not (ha pins s σ H (fun c H1 => Q (!c) H1) I h)
/-- .. as values (bools) -/
noncomputable def tAndV (ta tb : TE) : TE := fun σ H Q => ta σ H fun x H1 => ∃ c, x = .bl c ∧ if c = true then tb σ H1 Q else Q (.bl false) H1
noncomputable def tOrV (ta tb : TE) : TE := fun σ H Q => ta σ H fun x H1 => ∃ c, x = .bl c ∧ if c = true then Q (.bl true) H1 else tb σ H1 Q
noncomputable def tNotV (ta : TE) : TE := fun σ H Q => ta σ H fun x H1 => ∃ c, x = .bl c ∧ Q (.bl (!c)) H1
theorem pe_one {op} {t : TE} (h : PE X a t) : PE X (.BoolOp op [a] pos) t := fun pins s σ H Q I hw => BoolOp_one (h pins s σ H Q I hw)
theorem pe_and (ha : PE X a ta) (hb : PE X (.BoolOp .And (b :: rest) pos) tb) : PE X (.BoolOp .And (a :: b :: rest) pos) (tAndV ta tb) := by
  intro pins s σ H Q I h
  refine BoolOp_and (thn (ha pins s σ H _ I h) fun v s1 hh9 => ?_)
  obtain ⟨x, H1, I1, r1, q1⟩ := hh9
  obtain ⟨c, rfl, q1⟩ := q1
  cases r1
  refine wpAny_truthy_bool ?_
  cases c with
  | true => exact hb pins s1 σ H1 Q I1 q1
  | false => exact ⟨.bl false, H1, I1, rfl, q1⟩
theorem pe_or (ha : PE X a ta) (hb : PE X (.BoolOp .Or (b :: rest) pos) tb) : PE X (.BoolOp .Or (a :: b :: rest) pos) (tOrV ta tb) := by
  intro pins s σ H Q I h
  refine BoolOp_or (thn (ha pins s σ H _ I h) fun v s1 hh9 => ?_)
  obtain ⟨x, H1, I1, r1, q1⟩ := hh9
  obtain ⟨c, rfl, q1⟩ := q1
  cases r1
  refine wpAny_truthy_bool ?_
  cases c with
  | false => exact hb pins s1 σ H1 Q I1 q1
  | true => exact ⟨.bl true, H1, I1, rfl, q1⟩
theorem pe_not (ha : PE X a ta) : PE X (.UnaryOp .Not a pos) (tNotV ta) := by
  intro pins s σ H Q I h
  refine UnaryOp_ (thn (ha pins s σ H _ I h) fun v s1 hh9 => ?_)
  obtain ⟨x, H1, I1, r1, q1⟩ := hh9
  obtain ⟨c, rfl, q1⟩ := q1
  cases r1
  exact not_of (wpAny_truthy_bool ⟨.bl (!c), H1, I1, rfl, q1⟩)
/-- a if t else b -/
noncomputable def tIf (t : TT) (ta tb : TE) : TE := fun σ H Q => t σ H fun c H1 => if c = true then ta σ H1 Q else tb σ H1 Q
theorem pe_ifExp {c : Expr} (hc : PT X c tA) (ha : PE X a ta) (hb : PE X b tb) : PE X (.IfExp c a b pos) (tIf tA ta tb) := by
  intro pins s σ H Q I h
  refine wpAny_IfExp (thn (hc pins s σ H _ I h) fun d s1 hh9 => ?_)
  obtain ⟨H1, I1, q1⟩ := hh9
  cases d with
  | true => exact ha pins s1 σ H1 Q I1 q1
  | false => exact hb pins s1 σ H1 Q I1 q1
end
end L2

namespace L2
open PySem PySem.Spec PyProof.Rows

/-! ### a list, a tuple that is read: tracked, frozen, or an object of the module -/
noncomputable def SqL (K : PySem.W.Frag) (H : Hp) (a : Addr) (xs : List V) : Prop :=
  Rd H a (.lst xs) ∨
    ∃ (o : Obj) (its : Array Value) (n : Nat), K.lookup a = some o ∧ o.cls = .type "list" ∧ o.dict = none ∧ o.data = .seq its n ∧ its.size ≤ sizeLine ∧ Vals xs its.toList
noncomputable def SqT (K : PySem.W.Frag) (H : Hp) (a : Addr) (xs : List V) : Prop :=
  Rd H a (.tup xs) ∨
    ∃ (o : Obj) (its : Array Value) (n : Nat), K.lookup a = some o ∧ o.cls = .type "tuple" ∧ o.data = .seq its n ∧ its.size ≤ sizeLine ∧ Vals xs its.toList
noncomputable def absV : Value → Option V
  | .none => some .non
  | .bool b => some (.bl b)
  | .int i _ => some (.int i)
  | .str x _ => some (.str x)
  | .bytes b _ => some (.byt b)
  | .float b _ => some (.flt b)
  | .ref a => some (.ref a)
  | .type n => some (.ty n)
  | _ => none
theorem RelV.abs {x : V} {u : Value} (r : RelV x u) : absV u = some x := by
  cases x with
  | non => cases r; rfl
  | bl _ => cases r; rfl
  | int _ => obtain ⟨t, rfl⟩ := r; rfl
  | str _ => obtain ⟨t, rfl⟩ := r; rfl
  | byt _ => obtain ⟨t, rfl⟩ := r; rfl
  | flt _ => obtain ⟨t, rfl⟩ := r; rfl
  | ref _ => cases r; rfl
  | ty _ => cases r; rfl
theorem RelV.inj {x y : V} {u : Value} (r : RelV x u) (q : RelV y u) : x = y := Option.some.inj (r.abs.symm.trans q.abs)
theorem Vals.inj : ∀ {xs ys : List V} {us : List Value}, Vals xs us → Vals ys us → xs = ys
  | _, _, _, .nil, .nil => rfl
  | _, _, _, .cons r t, .cons r' t' => by rw [r.inj r', Vals.inj t t']
section
variable {X : Cx} {pins : List (Addr × Obj)} {σ : St} {H : Hp} {s : Shared} {a : Addr} {xs ys : List V}
theorem SqL.of {K : PySem.W.Frag} (h : H a = some (.lst xs)) : SqL K H a xs := .inl (.inl h)
theorem SqT.of {K : PySem.W.Frag} (h : H a = some (.tup xs)) : SqT K H a xs := .inl (.inl h)
theorem Inv.list (I : Inv X pins σ H s) (h : SqL X.K H a xs) : ∃ its : List Value, Vals xs its ∧ PlainL s.heap a its.toArray ∧ xs.length ≤ sizeLine := by
  rcases h with h | ⟨o, its, n, hk, hc, hd, hs, hz, r⟩
  · obtain ⟨z, its, n, r, e⟩ := h.ok I.hok
    exact ⟨its, r, ⟨_, n, e, rfl, rfl, rfl⟩, z⟩
  · refine ⟨its.toList, r, ⟨o, n, I.kIn a o hk, hc, hd, by simpa using hs⟩, ?_⟩
    have e := r.length
    simp only [Array.length_toList] at e
    omega
theorem Inv.tuple (I : Inv X pins σ H s) (h : SqT X.K H a xs) : ∃ its : List Value, Vals xs its ∧ IsTup s.heap a its.toArray ∧ xs.length ≤ sizeLine := by
  rcases h with h | ⟨o, its, n, hk, hc, hs, hz, r⟩
  · obtain ⟨z, its, r, p⟩ := h.ok I.hok
    exact ⟨its, r, p, z⟩
  · refine ⟨its.toList, r, ⟨o, I.kIn a o hk, hc, n, by simpa using hs⟩, ?_⟩
    have e := r.length
    simp only [Array.length_toList] at e
    omega
theorem Inv.list_inj (I : Inv X pins σ H s) (h : SqL X.K H a xs) (h' : SqL X.K H a ys) : xs = ys := by
  obtain ⟨its, r, ⟨o, n, e, _, _, d⟩, _⟩ := I.list h
  obtain ⟨its', r', ⟨o', n', e', _, _, d'⟩, _⟩ := I.list h'
  rw [e] at e'; cases e'
  rw [d] at d'
  injection d' with d1 _
  have : its = its' := by simpa using congrArg Array.toList d1
  subst this
  exact r.inj r'
theorem Inv.tuple_inj (I : Inv X pins σ H s) (h : SqT X.K H a xs) (h' : SqT X.K H a ys) : xs = ys := by
  obtain ⟨its, r, ⟨o, e, _, n, d⟩, _⟩ := I.tuple h
  obtain ⟨its', r', ⟨o', e', _, n', d'⟩, _⟩ := I.tuple h'
  rw [e] at e'; cases e'
  rw [d] at d'
  injection d' with d1 _
  have : its = its' := by simpa using congrArg Array.toList d1
  subst this
  exact r.inj r'
end

/-! ### another wish about exceptions -/
noncomputable abbrev Cx.wish (X : Cx) (E : Value → Shared → Prop) : Cx := { X with xe := E }
/-- no exception leaves -/
noncomputable abbrev Cx.nox (X : Cx) : Cx := X.wish fun _ _ => False
theorem Cx.Ok.wish {X : Cx} (ok : X.Ok) (E : Value → Shared → Prop) : (X.wish E).Ok :=
  ⟨ok.mod, ok.kind, ok.glob, ok.blt, ok.above, ok.inj, ok.has, ok.cab, ok.hd, ok.frames, ok.stk, ok.exf, ok.bs, ok.bsz, ok.noex, ok.exfs, ok.funs, ok.frf⟩
theorem Cx.Ok.unwish {X : Cx} {E : Value → Shared → Prop} (ok : (X.wish E).Ok) : X.Ok :=
  ⟨ok.mod, ok.kind, ok.glob, ok.blt, ok.above, ok.inj, ok.has, ok.cab, ok.hd, ok.frames, ok.stk, ok.exf, ok.bs, ok.bsz, ok.noex, ok.exfs, ok.funs, ok.frf⟩
section
variable {X : Cx} {pins : List (Addr × Obj)} {σ : St} {H : Hp} {s : Shared} {E : Value → Shared → Prop}
theorem Inv.wish (I : Inv X pins σ H s) (E : Value → Shared → Prop) : Inv (X.wish E) pins σ H s := ⟨I.ok.wish E, I.os, I.bare, I.base, I.loc, I.cell, I.free, I.freeC, I.pin, I.hok, I.len⟩
theorem Inv.unwish (I : Inv (X.wish E) pins σ H s) : Inv X pins σ H s := ⟨I.ok.unwish, I.os, I.bare, I.base, I.loc, I.cell, I.free, I.freeC, I.pin, I.hok, I.len⟩
theorem SP.unwish {D : Ends} {f : Flow} {s' : Shared} (h : SP (X.wish E) pins D f s') : SP X pins D f s' := by
  cases f with
  | next => obtain ⟨σ', H', I, q⟩ := h; exact ⟨σ', H', I.unwish, q⟩
  | brk => obtain ⟨σ', H', I, q⟩ := h; exact ⟨σ', H', I.unwish, q⟩
  | cont => obtain ⟨σ', H', I, q⟩ := h; exact ⟨σ', H', I.unwish, q⟩
  | ret u => obtain ⟨v, σ', H', I, r, q⟩ := h; exact ⟨v, σ', H', I.unwish, r, q⟩
theorem PSs.nox {st : List Stmt} {t : TS} (h : PSs X.nox st t) : PSs X st t := fun pins s σ H D I hw =>
  wpAny_mono (h pins s σ H D (I.wish _) hw) (fun _ _ q => q.unwish) fun _ _ z => False.elim z
end

/-! ### blocks and small statements -/
section
variable {X : Cx} {st : Stmt} {rest : List Stmt} {t u : TS} {e : Expr} {te : TE} {pos : Pos}
noncomputable def tNext : TS := fun D σ H => D.nx σ H
noncomputable def tSeq (t u : TS) : TS := fun D σ H => t { D with nx := u D } σ H
theorem pss_nil : PSs X [] tNext := fun _ _ σ H _ I h => wpAny_execs_nil ⟨σ, H, I, h⟩
theorem pss_cons (h1 : PS X st t) (h2 : PSs X rest u) : PSs X (st :: rest) (tSeq t u) := by
  intro pins s σ H D I h
  refine wpAny_execs_cons (thn (h1 pins s σ H { D with nx := u D } I h) fun f s1 q => ?_)
  cases f with
  | next =>
    obtain ⟨σ', H', I', q⟩ := q
    exact h2 pins s1 σ' H' D I' q
  | ret v => exact q
  | brk => exact q
  | cont => exact q
theorem pss_one (h1 : PS X st t) : PSs X [st] t := by
  intro pins s σ H D I h
  refine wpAny_execs_cons (thn (h1 pins s σ H D I h) fun f s1 q => ?_)
  cases f with
  | next => exact wpAny_execs_nil q
  | ret v => exact q
  | brk => exact q
  | cont => exact q
/-- in a def's body nothing is shown -/
theorem Inv.quiet {pins : List (Addr × Obj)} {σ : St} {H : Hp} {s : Shared} (I : Inv X pins σ H s) : interactive X.env = false := by simp [interactive, I.ok.kind]
/-- an expression whose value is dropped -/
noncomputable def tDrop (te : TE) : TS := fun D σ H => te σ H fun _ H1 => D.nx σ H1
theorem ps_expr (he : PE X e te) (hs : swapsWith e none pos.line X.env = pure false := by rfl) : PS X (.Expr e pos) (tDrop te) := by
  intro pins s σ H D I h
  exact wpAny_Expr_any (thn (he pins s σ H _ I h) fun v s1 ⟨x, H1, I1, r1, q1⟩ => ⟨σ, H1, I1, q1⟩) I.quiet hs
noncomputable def tRet (te : TE) : TS := fun D σ H => te σ H D.rt
theorem ps_ret (he : PE X e te) : PS X (.Return (some e) pos) (tRet te) := by
  intro pins s σ H D I h
  exact wpAny_Return_some (thn (he pins s σ H _ I h) fun v s1 ⟨x, H1, I1, r1, q1⟩ => ⟨x, σ, H1, I1, r1, q1⟩)
noncomputable def tIfS (c : TT) (t u : TS) : TS := fun D σ H => c σ H fun b H1 => if b = true then t D σ H1 else u D σ H1
theorem ps_if {c : Expr} {a b : List Stmt} {tc : TT} (hc : PT X c tc) (ha : PSs X a t) (hb : PSs X b u) : PS X (.If c a b pos) (tIfS tc t u) := by
  intro pins s σ H D I h
  refine wpAny_If (thn (hc pins s σ H _ I h) fun d s1 hh9 => ?_)
  obtain ⟨H1, I1, q1⟩ := hh9
  cases d with
  | true => exact ha pins s1 σ H1 D I1 q1
  | false => exact hb pins s1 σ H1 D I1 q1
/-- code that the proof never comes to -/
noncomputable def tNever : TS := fun _ _ _ => False
theorem ps_never : PS X st tNever := fun _ _ _ _ _ _ h => h.elim
end

/-! ### targets -/
noncomputable abbrev TG := V → St → Hp → (St → Hp → Prop) → Prop
noncomputable abbrev TGs := List V → St → Hp → (St → Hp → Prop) → Prop
noncomputable def PG (X : Cx) (target : Expr) (t : TG) : Prop :=
  ∀ (pins : List (Addr × Obj)) (s : Shared) (σ : St) (H : Hp) (v : V) (u : Value) (Q : St → Hp → Prop), Inv X pins σ H s → RelV v u → t v σ H Q →
    wpAny (model X.prog X.w) X.A (assign target X.env u) (fun _ s' => ∃ σ' H', Inv X pins σ' H' s' ∧ Q σ' H') X.xe s
/-- several targets, one after another -/
noncomputable def PGs (X : Cx) (ts : List Expr) (t : TGs) : Prop :=
  ∀ (pins : List (Addr × Obj)) (s : Shared) (σ : St) (H : Hp) (vs : List V) (us : List Value) (Q : St → Hp → Prop), Inv X pins σ H s → Vals vs us → t vs σ H Q →
    wpAny (model X.prog X.w) X.A (assignInOrder ((assignEach ts X.env).map (·.2)) us) (fun _ s' => ∃ σ' H', Inv X pins σ' H' s' ∧ Q σ' H') X.xe s
/-- o[i] = v, by values -/
noncomputable abbrev TSet := V → V → V → Hp → (Hp → Prop) → Prop
noncomputable def PSet (X : Cx) (t : TSet) : Prop :=
  ∀ (pins : List (Addr × Obj)) (s : Shared) (σ : St) (H : Hp) (o i v : V) (ov iv u : Value) (Q : Hp → Prop), Inv X pins σ H s → RelV o ov → RelV i iv → RelV v u → t o i v H Q →
    wpAny (model X.prog X.w) X.A (setItem ov iv u) (fun _ s' => ∃ H', Inv X pins σ H' s' ∧ Q H') X.xe s
/-- a op= b, by values -/
noncomputable abbrev TIp := V → V → Hp → VK → Prop
noncomputable def PIp (X : Cx) (op : Operator) (t : TIp) : Prop :=
  ∀ (pins : List (Addr × Obj)) (s : Shared) (σ : St) (H : Hp) (x y : V) (v u : Value) (Q : VK), Inv X pins σ H s → RelV x v → RelV y u → t x y H Q →
    wpAny (model X.prog X.w) X.A (inplaceOp op v u) (EP X pins σ Q) X.xe s
section
variable {X : Cx} {pos : Pos}
noncomputable def gName (i : Nat) : TG := fun v σ H Q => Q (σ.set i (some v)) H
theorem pg_name {i : Nat} {x : Str} (hN : X.N.Nodup) (hi : X.N[i]? = some x) (hx : Loc X.env.scope x) (hf : X.fn x = true ∨ X.env.scope.names.lookup x = some .local := by first | exact .inl rfl | exact .inr rfl | assumption) : PG X (.Name x pos) (gName i) := by
  intro pins s σ H v u Q I r h
  exact wpAny_assign_Name (store_ok I hN hi hx r (fun s' I' => ⟨_, H, I', h⟩) hf)
noncomputable def gNil : TGs := fun vs σ H Q => vs = [] ∧ Q σ H
noncomputable def gCons (t : TG) (u : TGs) : TGs := fun vs σ H Q => ∃ v r, vs = v :: r ∧ t v σ H fun σ' H' => u r σ' H' Q
theorem pgs_nil : PGs X [] gNil := by
  intro pins s σ H vs us Q I r h
  obtain ⟨e, h⟩ := h
  subst e
  cases r
  exact assignInOrder_nil ⟨σ, H, I, h⟩
theorem pgs_cons {e : Expr} {es : List Expr} {t : TG} {u : TGs} (h1 : PG X e t) (h2 : PGs X es u)
    (hs : (assignEach (e :: es) X.env).map (·.2) = assign e X.env :: (assignEach es X.env).map (·.2) := by rfl) : PGs X (e :: es) (gCons t u) := by
  intro pins s σ H vs us Q I r h
  obtain ⟨v, vr, e1, h⟩ := h
  subst e1
  cases r with
  | cons r rr =>
    rw [hs]
    refine assignInOrder_cons (thn (h1 pins s σ H _ _ _ I r h) fun _ s1 hh9 => ?_)
    obtain ⟨σ1, H1, I1, q1⟩ := hh9
    exact h2 pins s1 σ1 H1 _ _ Q I1 rr q1
/-- (a, b, ..) = a tuple of that length -/
noncomputable def gTup (K : PySem.W.Frag) (n : Nat) (t : TGs) : TG := fun v σ H Q => ∃ a xs, v = .ref a ∧ SqT K H a xs ∧ xs.length = n ∧ t xs σ H Q
theorem pg_tup {es : List Expr} {k : Nat} {t : TGs} {n : Nat} (hc : X.calm = true) (h : PGs X es t)
    (hn : (assignEach es X.env).length = n := by rfl) (hst : (assignEach es X.env).findIdx? (·.1) = none := by rfl) : PG X (.Tuple es k pos) (gTup X.K n t) := by
  intro pins s σ H v u Q I r hw
  obtain ⟨a, xs, e1, hq, hl, hw⟩ := hw
  subst e1
  cases r
  obtain ⟨its, rv, ht, hz⟩ := I.tuple hq
  refine assign_Tuple_tuple (I.ok.hd hc) ht (by simp [hn, ← hl, rv.length]) hst fun h' hx => ?_
  have I1 : Inv X pins σ H { s with heap := h' } := I.kept (t' := s.toks) fun b o e => hx b o (Nat.ne_of_lt (Heap.lt_size e)) e
  exact h pins _ σ H xs _ Q I1 (by simpa using rv) hw
/-- o[i] = .. -/
noncomputable def gSub (to ti : TE) (t : TSet) : TG := fun v σ H Q => to σ H fun o H1 => ti σ H1 fun i H2 => t o i v H2 fun H3 => Q σ H3
theorem pg_sub {o i : Expr} {to ti : TE} {t : TSet} (ho : PE X o to) (hi : PE X i ti) (hs : PSet X t)
    (ha : ∀ v, assign (.Subscript o i pos) X.env v = (do
      let ov ← holding [v] (eval o X.env)
      let iv ← holding [v, ov] (eval i X.env)
      standAt pos
      holding [v, ov, iv] (setItem ov iv v)
      release [v, ov, iv] []) := by intro _; rfl) : PG X (.Subscript o i pos) (gSub to ti t) := by
  intro pins s σ H v u Q I r h
  rw [ha]
  refine wpAny_bind (wpAny_holding (thn (ho pins s σ H _ I h) fun ov s1 hh9 => ?_))
  obtain ⟨x, H1, I1, r1, q1⟩ := hh9
  refine wpAny_bind (wpAny_holding (thn (hi pins s1 σ H1 _ I1 q1) fun iv s2 hh9 => ?_))
  obtain ⟨y, H2, I2, r2, q2⟩ := hh9
  refine wpAny_bind (wpAny_standAt (wpAny_bind (wpAny_holding (thn (hs pins s2 σ H2 x y v ov iv u _ I2 r1 r2 r q2) fun _ s3 hh9 => ?_))))
  obtain ⟨H3, I3, q3⟩ := hh9
  exact wpAny_release ⟨σ, H3, I3, q3⟩
/-- target = value -/
noncomputable def tAsg (te : TE) (g : TG) : TS := fun D σ H => te σ H fun x H1 => g x σ H1 D.nx
theorem ps_asg {tg e : Expr} {te : TE} {g : TG} (he : PE X e te) (hg : PG X tg g) (hs : swapsWithSole [tg] e pos.line X.env = pure false := by rfl) (hw : swappedStores [tg] e X.env = pure none := by rfl)
    (h1 : (assignEach [tg] X.env).map (·.2) = [assign tg X.env] := by rfl) : PS X (.Assign [tg] e pos) (tAsg te g) := by
  intro pins s σ H D I h
  refine wpAny_Assign_stores (thn (he pins s σ H _ I h) fun v s1 hh9 => ?_) hs hw
  obtain ⟨x, H1, I1, r1, q1⟩ := hh9
  rw [h1]
  exact thn (hg pins s1 σ H1 x v _ I1 r1 q1) fun _ s2 q => q
/-- name = value -/
theorem ps_set {i : Nat} {x : Str} {e : Expr} {te : TE} {pos' : Pos} (hN : X.N.Nodup) (hi : X.N[i]? = some x) (hx : Loc X.env.scope x) (he : PE X e te) (hs : swapsWith e (some (.Name x pos')) pos.line X.env = pure false := by rfl) (hf : X.fn x = true ∨ X.env.scope.names.lookup x = some .local := by first | exact .inl rfl | exact .inr rfl | assumption) :
    PS X (.Assign [.Name x pos'] e pos) (tAsg te (gName i)) := by
  intro pins s σ H D I h
  refine wpAny_Assign_Name (thn (he pins s σ H _ I h) fun v s1 hh9 => ?_) hs
  obtain ⟨y, H1, I1, r1, q1⟩ := hh9
  exact store_ok I1 hN hi hx r1 (fun s2 I2 => ⟨_, H1, I2, q1⟩) hf
/-- name op= e -/
noncomputable def tAug (i : Nat) (te : TE) (ti : TIp) : TS := fun D σ H => ∃ x, σ[i]? = some (some x) ∧ te σ H fun y H1 => ti x y H1 fun z H2 => D.nx (σ.set i (some z)) H2
theorem ps_aug {i : Nat} {x : Str} {e : Expr} {te : TE} {op : Operator} {ti : TIp} {pos' : Pos} (hN : X.N.Nodup) (hi : X.N[i]? = some x) (hx : Loc X.env.scope x) (he : PE X e te) (ho : PIp X op ti) (hf : X.fn x = true ∨ X.env.scope.names.lookup x = some .local := by first | exact .inl rfl | exact .inr rfl | assumption) :
    PS X (.AugAssign (.Name x pos') op e pos) (tAug i te ti) := by
  intro pins s σ H D I h
  obtain ⟨v, e1, h⟩ := h
  obtain ⟨m, hn, hl⟩ := I.loc
  have vis : Vis X.env.scope x := by rcases hx with k | k; exact .inl k; exact .inr (.inl k)
  obtain ⟨u, r, l⟩ := hl i x v hi e1 vis
  refine wpAny_AugAssign_Name ?_
  have go : wpAny (model X.prog X.w) X.A (eval e X.env) (fun w s₂ => wpAny (model X.prog X.w) X.A (inplaceOp op u w) (fun r s₃ => wpAny (model X.prog X.w) X.A (storeName X.env x r) (fun _ => SP X pins D .next) X.xe s₃) X.xe s₂) X.xe s := by
    refine thn (he pins s σ H _ I h) fun w s1 hh9 => ?_
    obtain ⟨y, H1, I1, r1, q1⟩ := hh9
    refine thn (ho pins s1 σ H1 v y u w _ I1 r r1 q1) fun z s2 hh9 => ?_
    obtain ⟨zv, H2, I2, r2, q2⟩ := hh9
    exact store_ok I2 hN hi hx r2 (fun s3 I3 => ⟨_, H2, I3, q2⟩) hf
  rcases l with ⟨hk, hm⟩ | ⟨hk, c, hc, hcell⟩
  · exact wpAny_loadName_local I.ok.kind hk hn hm go
  · rcases hk with hk | hk
    · exact wpAny_loadName_cell I.ok.kind hk hc hcell go
    · rcases hx with k | k
      · have : X.env.scope.names.lookup x = some .free := hk
        rw [k] at this; cases this
      · have : X.env.scope.names.lookup x = some .free := hk
        rw [k] at this; cases this
end

/-! ### while -/
section
variable {X : Cx} {pos : Pos}
/-- the invariant W with its measure -/
noncomputable def tWhile (c : TT) (tb : TS) : TS := fun D σ H => ∃ W : Nat → St → Hp → Prop, (∃ m, W m σ H) ∧ ∀ m σ H, W m σ H →
  c σ H fun b H1 => if b = true then ∃ N : St → Hp → Prop, (∀ σ' H', N σ' H' → ∃ m', m' < m ∧ W m' σ' H') ∧ tb { D with nx := N, ct := N, bk := D.nx } σ H1 else D.nx σ H1
theorem ps_while {c : Expr} {body : List Stmt} {tc : TT} {tb : TS} (hp : PassesOwn (model X.prog X.w) X.A X.env X.xe) (hc : PT X c tc) (hb : PSs X body tb) : PS X (.While c body [] pos) (tWhile tc tb) := by
  intro pins s σ H D I h
  obtain ⟨W, ⟨m0, w0⟩, turn⟩ := h
  refine wpAny_While (codeAny_whileLoop (fun n s' => ∃ σ' H', Inv X pins σ' H' s' ∧ W n σ' H') ?_ m0 ⟨σ, H, I, w0⟩)
  rintro n s1 ⟨σ1, H1, I1, w1⟩
  refine wpAny_passesOwn hp (thn (hc pins s1 σ1 H1 _ I1 (turn n σ1 H1 w1)) fun b s2 hh9 => ?_)
  obtain ⟨H2, I2, q2⟩ := hh9
  cases b with
  | true =>
    obtain ⟨N, hN, q2⟩ := q2
    rw [if_pos rfl]
    refine wpAny_passesOwn hp (thn (hb pins s2 σ1 H2 _ I2 q2) fun f s3 q3 => ?_)
    cases f with
    | next =>
      obtain ⟨σ3, H3, I3, n3⟩ := q3
      obtain ⟨m', hm, w3⟩ := hN σ3 H3 n3
      exact ⟨m', hm, σ3, H3, I3, w3⟩
    | cont =>
      obtain ⟨σ3, H3, I3, n3⟩ := q3
      obtain ⟨m', hm, w3⟩ := hN σ3 H3 n3
      exact ⟨m', hm, σ3, H3, I3, w3⟩
    | brk => exact q3
    | ret v => exact q3
  | false =>
    rw [if_neg Bool.false_ne_true]
    exact wpAny_execs_nil ⟨σ1, H2, I2, q2⟩
end

/-! ### what a loop or a comprehension walks -/
/-- at turn i: it yields x (the heap may grow), or it stops -/
structure It where
  go : Nat → Hp → Prop
  yld : Nat → Hp → V → Hp → Prop
  stop : Nat → Hp → Prop
/-- the iterator's own objects may turn: they are not the frame's, not pinned, younger than the entry (or a comprehension's own) -/
noncomputable def FpOk (X : Cx) (pins : List (Addr × Obj)) (H : Hp) (b : Addr) : Prop :=
  H b = none ∧ b ≠ X.env.locals ∧ b ∉ X.fs ∧ (b ∈ X.ex ∨ X.s₀.heap.objs.size ≤ b) ∧ (∀ x c, X.env.cells.lookup x = some c → c ≠ b) ∧ ∀ p ∈ X.pn ++ pins, p.1 ≠ b
theorem Inv.fpOk {X : Cx} {pins : List (Addr × Obj)} {σ : St} {H H' : Hp} {s : Shared} {b : Addr} (I : Inv X pins σ H s) (hb : s.heap.objs.size ≤ b) (hn : H' b = none) : FpOk X pins H' b := by
  refine ⟨hn, Nat.ne_of_gt (Nat.lt_of_lt_of_le I.lt hb), I.nofs hb, .inr (Nat.le_trans I.sz hb), fun x c e z => ?_, fun p hp z => ?_⟩
  · obtain ⟨v, q⟩ := I.cell x c e
    exact absurd (Nat.lt_of_lt_of_le q.lt (by rw [z]; exact hb)) (Nat.lt_irrefl _)
  · exact absurd (Nat.lt_of_lt_of_le (Heap.lt_size (I.pin p hp).1) (by rw [z]; exact hb)) (Nat.lt_irrefl _)
structure Turn (P : Program) (w : World) (K : PySem.W.Frag) (tg : Expr) (J : It) (fp : List Addr) (it : Addr) (tn : Nat → Heap → Prop) : Prop where
  mem : it ∈ fp
  obj : ∀ i h, tn i h → ∀ b ∈ fp, ∃ o, h.get? b = some o ∧ ∀ v, o.data ≠ .cell v
  keep : ∀ i h h', tn i h → (∀ b ∈ fp, ∀ o, h.get? b = some o → h'.get? b = some o) → tn i h'
  item : ∀ (X : Cx), X.prog = P → X.w = w → X.K = K → X.calm = true → ∀ (i : Nat) (pins : List (Addr × Obj)) (s : Shared) (σ : St) (H : Hp) (E : Value → Shared → Prop), Inv X pins σ H s → (∀ b ∈ fp, FpOk X pins H b) → tn i s.heap → J.go i H →
    wpAny (model P w) X.A (pyNext (.ref it)) (fun r s1 => ∃ u, r = some u ∧
      wpAny (model P w) X.A (letOwnedTupleGo tg (.ref it) u) (fun _ s2 => ∃ x H', Inv X pins σ H' s2 ∧ RelV x u ∧ J.yld i H x H' ∧ tn (i + 1) s2.heap ∧ ∀ b ∈ fp, H' b = none) E s1) E s
  done : ∀ (X : Cx), X.prog = P → X.w = w → X.K = K → X.calm = true → ∀ (i : Nat) (pins : List (Addr × Obj)) (s : Shared) (σ : St) (H : Hp) (E : Value → Shared → Prop), Inv X pins σ H s → (∀ b ∈ fp, FpOk X pins H b) → tn i s.heap → J.stop i H →
    wpAny (model P w) X.A (pyNext (.ref it)) (fun r s1 => r = none ∧ Inv X pins σ H s1) E s
  self : ∀ (A : Around) (i : Nat) (s : Shared) (Q : Value → Shared → Prop) (E : Value → Shared → Prop), tn i s.heap → Q (.ref it) s → wpAny (model P w) A (pyIter (.ref it)) Q E s
noncomputable abbrev TI := St → Hp → (It → Hp → Prop) → Prop
/-- an iterator has come -/
noncomputable def PIE (X : Cx) (pins : List (Addr × Obj)) (σ : St) (tg : Expr) (R : It → Hp → Prop) (itv : Value) (s2 : Shared) : Prop :=
  ∃ (it : Addr) (fp : List Addr) (tn : Nat → Heap → Prop) (J : It) (H' : Hp), itv = .ref it ∧ Inv X pins σ H' s2 ∧ Turn X.prog X.w X.K tg J fp it tn ∧ tn 0 s2.heap ∧ (∀ b ∈ fp, FpOk X pins H' b) ∧ R J H'
noncomputable def PI (X : Cx) (tg iter : Expr) (wi : TI) : Prop :=
  ∀ (pins : List (Addr × Obj)) (s : Shared) (σ : St) (H : Hp) (R : It → Hp → Prop), Inv X pins σ H s → wi σ H R →
    wpAny (model X.prog X.w) X.A (eval iter X.env) (fun v s1 => wpAny (model X.prog X.w) X.A (pyIter v) (PIE X pins σ tg R) X.xe s1) X.xe s

/-- the step ahead of the store is nothing for an iterator that keeps no tuple -/
theorem go_of {M : Model} {A : Around} {E : Value → Shared → Prop} {s : Shared} {tg : Expr} {it : Addr} {u : Value} {o : Obj} {n : String} {vs : Array Value} {Q : Unit → Shared → Prop} (ho : s.heap.get? it = some o) (hc : o.cls = .type n) (hd : o.data = .fields vs)
    (hn : ["enumerate", "zip", "dict_itemiterator", "dict_reverseitemiterator", "odict_iterator", "itertools.zip_longest", "itertools.pairwise"].contains n = false) (hQ : Q () s) : wpAny M A (letOwnedTupleGo tg (.ref it) u) Q E s := by
  unfold letOwnedTupleGo
  cases tg <;> first
    | exact wpAny_pure hQ
    | (cases u <;> first
        | exact wpAny_pure hQ
        | (refine wpAny_bind (wpAny_load ho ?_)
           rw [hc, hd]
           show wpAny M A (if (["enumerate", "zip", "dict_itemiterator", "dict_reverseitemiterator", "odict_iterator", "itertools.zip_longest", "itertools.pairwise"].contains n && vs[0]? == some (rawInt _)) = true then _ else _) Q E s
           rw [if_neg (by intro h; rw [hn, Bool.false_and] at h; cases h)]
           exact wpAny_pure hQ))

/-- the list at a, as it stands at each turn (a loop may append to it) -/
noncomputable def Itl (K : PySem.W.Frag) (a : Addr) : It :=
  ⟨fun i H => ∃ xs x, SqL K H a xs ∧ xs[i]? = some x, fun i H x H' => H' = H ∧ ∀ xs, SqL K H a xs → xs[i]? = some x, fun i H => ∃ xs, SqL K H a xs ∧ xs.length ≤ i⟩
noncomputable def Itt (K : PySem.W.Frag) (a : Addr) : It :=
  ⟨fun i H => ∃ xs x, SqT K H a xs ∧ xs[i]? = some x, fun i H x H' => H' = H ∧ ∀ xs, SqT K H a xs → xs[i]? = some x, fun i H => ∃ xs, SqT K H a xs ∧ xs.length ≤ i⟩
/-- lo, lo + 1, .. (n of them) -/
noncomputable def Itr (lo : Int) (n : Nat) : It := ⟨fun i _ => i < n, fun i H x H' => H' = H ∧ x = .int (lo + i), fun i _ => n ≤ i⟩
theorem turn_list {P : Program} {w : World} {K : PySem.W.Frag} {tg : Expr} (a it : Addr) : Turn P w K tg (Itl K a) [it] it (fun i h => h.IsListIter it a i) where
  mem := by simp
  obj := fun i h st b hb => by
    have e : b = it := by simpa using hb
    subst e
    obtain ⟨o, e, c, d⟩ := st
    exact ⟨o, e, fun v z => by rw [d] at z; cases z⟩
  keep := fun i h h' st k => st.at fun o e => k it (by simp) o e
  item := by
    intro X hP hw hK hc i pins s σ H E I hf st hg
    subst hP hw hK
    obtain ⟨xs, x, hq, hx⟩ := hg
    obtain ⟨its, rv, p, hz⟩ := I.list hq
    obtain ⟨u, hu, ru⟩ := rv.get hx
    obtain ⟨f0, f1, f2, f3, f4, f5⟩ := hf it (by simp)
    refine wpAny_pyNext_list_item st p.isList (x := u) (by simpa using hu) fun h' st' sb => ?_
    have I1 : Inv X pins σ H { s with heap := h' } := I.turned (t' := s.toks) (fun b o hb e => (sb.2 b hb).trans e) f0 f1 f3 f4 f5
    obtain ⟨o, e, c, d⟩ := id st'
    exact ⟨u, rfl, go_of (s := { s with heap := h' }) e c d (by decide) ⟨x, H, I1, ru, ⟨rfl, fun ys hy => by rw [I.list_inj hy hq]; exact hx⟩, st', fun b hb => (hf b hb).1⟩⟩
  done := by
    intro X hP hw hK hc i pins s σ H E I hf st hg
    subst hP hw hK
    obtain ⟨xs, hq, hx⟩ := hg
    obtain ⟨its, rv, p, hz⟩ := I.list hq
    obtain ⟨f0, f1, f2, f3, f4, f5⟩ := hf it (by simp)
    have hl := rv.length
    exact wpAny_pyNext_list_end (I.ok.hd hc) st p.isList (by simp; omega) fun h' eb => ⟨rfl, I.turned (t' := s.toks) (fun b o hb e => eb b o hb e) f0 f1 f3 f4 f5⟩
  self := fun _ _ _ _ _ st h => wpAny_pyIter_listiter st h
theorem turn_tuple {P : Program} {w : World} {K : PySem.W.Frag} {tg : Expr} (a it : Addr) : Turn P w K tg (Itt K a) [it] it (fun i h => h.IsTupleIter it a i) where
  mem := by simp
  obj := fun i h st b hb => by
    have e : b = it := by simpa using hb
    subst e
    obtain ⟨o, e, c, d⟩ := st
    exact ⟨o, e, fun v z => by rw [d] at z; cases z⟩
  keep := fun i h h' st k => st.at fun o e => k it (by simp) o e
  item := by
    intro X hP hw hK hc i pins s σ H E I hf st hg
    subst hP hw hK
    obtain ⟨xs, x, hq, hx⟩ := hg
    obtain ⟨its, rv, p, hz⟩ := I.tuple hq
    obtain ⟨u, hu, ru⟩ := rv.get hx
    obtain ⟨f0, f1, f2, f3, f4, f5⟩ := hf it (by simp)
    refine wpAny_pyNext_tuple_item st (show s.heap.IsTuple a its.toArray from p) (x := u) (by simpa using hu) fun h' st' sb => ?_
    have I1 : Inv X pins σ H { s with heap := h' } := I.turned (t' := s.toks) (fun b o hb e => (sb.2 b hb).trans e) f0 f1 f3 f4 f5
    obtain ⟨o, e, c, d⟩ := id st'
    exact ⟨u, rfl, go_of (s := { s with heap := h' }) e c d (by decide) ⟨x, H, I1, ru, ⟨rfl, fun ys hy => by rw [I.tuple_inj hy hq]; exact hx⟩, st', fun b hb => (hf b hb).1⟩⟩
  done := by
    intro X hP hw hK hc i pins s σ H E I hf st hg
    subst hP hw hK
    obtain ⟨xs, hq, hx⟩ := hg
    obtain ⟨its, rv, p, hz⟩ := I.tuple hq
    obtain ⟨f0, f1, f2, f3, f4, f5⟩ := hf it (by simp)
    have hl := rv.length
    exact wpAny_pyNext_tuple_end (I.ok.hd hc) st (show s.heap.IsTuple a its.toArray from p) (by simp; omega) fun h' eb => ⟨rfl, I.turned (t' := s.toks) (fun b o hb e => eb b o hb e) f0 f1 f3 f4 f5⟩
  self := fun _ _ _ _ _ st h => wpAny_pyIter_tupleiter st h
theorem turn_range {P : Program} {w : World} {K : PySem.W.Frag} {tg : Expr} (it : Addr) (lo : Int) (n : Nat) : Turn P w K tg (Itr lo n) [it] it (fun i h => IsRangeIter h it (lo + (i : Nat) * 1) ((n : Int) - (i : Nat)) 1) where
  mem := by simp
  obj := fun i h st b hb => by
    have e : b = it := by simpa using hb
    subst e
    exact ⟨_, st, fun v z => by
      have z' : Data.fields _ = Data.cell v := z
      cases z'⟩
  keep := fun i h h' st k => k it (by simp) _ st
  item := by
    intro X hP hw hK hc i pins s σ H E I hf st hg
    subst hP hw hK
    obtain ⟨f0, f1, f2, f3, f4, f5⟩ := hf it (by simp)
    have W := Walks.range (prog := X.prog) (w := X.w) (I.ok.hd hc) it lo 1 n
    refine W.item i s _ _ hg st fun v h' tk hv st' kk => ?_
    obtain ⟨t, rfl⟩ := hv
    have I1 : Inv X pins σ H { s with heap := h', toks := tk } := I.turned (fun b o hb e => kk b o (by simpa using hb) e) f0 f1 f3 f4 f5
    refine ⟨_, rfl, go_of (s := { s with heap := h', toks := tk }) (n := "range_iterator") st' rfl rfl (by decide) ⟨.int (lo + i), H, I1, ⟨t, ?_⟩, ⟨rfl, rfl⟩, st', fun b hb => (hf b hb).1⟩⟩
    rw [Int.mul_one]
  done := by
    intro X hP hw hK hc i pins s σ H E I hf st hg
    subst hP hw hK
    obtain ⟨f0, f1, f2, f3, f4, f5⟩ := hf it (by simp)
    exact wpAny_pyNext_range_end (I.ok.hd hc) st (by have : n ≤ i := hg; omega) fun h' eb => ⟨rfl, I.turned (t' := s.toks) (fun b o hb e => eb b o hb e) f0 f1 f3 f4 f5⟩
  self := fun _ _ _ _ _ st h => wpAny_pyIter_rangeiter st h
end L2

namespace L2
open PySem PySem.Spec PyProof.Rows
section
variable {X : Cx} {tg : Expr}
noncomputable def iList (K : PySem.W.Frag) (tl : TE) : TI := fun σ H R => tl σ H fun x H1 => ∃ a, x = .ref a ∧ (∃ xs, SqL K H1 a xs) ∧ R (Itl K a) H1
noncomputable def iTup (K : PySem.W.Frag) (tl : TE) : TI := fun σ H R => tl σ H fun x H1 => ∃ a, x = .ref a ∧ (∃ xs, SqT K H1 a xs) ∧ R (Itt K a) H1
theorem pi_list {l : Expr} {tl : TE} (hl : PE X l tl) : PI X tg l (iList X.K tl) := by
  intro pins s σ H R I h
  refine thn (hl pins s σ H _ I h) fun v s1 hh9 => ?_
  obtain ⟨x, H1, I1, r1, q1⟩ := hh9
  obtain ⟨a, e, ⟨xs, hq⟩, q⟩ := q1
  subst e
  cases r1
  obtain ⟨its, rv, p, hz⟩ := I1.list hq
  refine wpAny_pyIter_list p.isList ?_
  refine ⟨s1.heap.objs.size, [s1.heap.objs.size], _, _, H1, rfl, I1.kept (t' := s1.toks) fun b o e => Heap.get?_push_of_some _ e, turn_list a _, ⟨_, Heap.get?_push_size _ rfl, rfl, rfl⟩, fun b hb => ?_, q⟩
  have e : b = s1.heap.objs.size := by simpa using hb
  subst e
  exact I1.fpOk (Nat.le_refl _) (I1.hok.fresh (Nat.le_refl _))
theorem pi_tup {l : Expr} {tl : TE} (hl : PE X l tl) : PI X tg l (iTup X.K tl) := by
  intro pins s σ H R I h
  refine thn (hl pins s σ H _ I h) fun v s1 hh9 => ?_
  obtain ⟨x, H1, I1, r1, q1⟩ := hh9
  obtain ⟨a, e, ⟨xs, hq⟩, q⟩ := q1
  subst e
  cases r1
  obtain ⟨its, rv, p, hz⟩ := I1.tuple hq
  refine wpAny_pyIter_tuple (show s1.heap.IsTuple a its.toArray from p) ?_
  refine ⟨s1.heap.objs.size, [s1.heap.objs.size], _, _, H1, rfl, I1.kept (t' := s1.toks) fun b o e => Heap.get?_push_of_some _ e, turn_tuple a _, ⟨_, Heap.get?_push_size _ rfl, rfl, rfl⟩, fun b hb => ?_, q⟩
  have e : b = s1.heap.objs.size := by simpa using hb
  subst e
  exact I1.fpOk (Nat.le_refl _) (I1.hok.fresh (Nat.le_refl _))
/-- a range object just made, walked -/
theorem range_it {pins : List (Addr × Obj)} {σ : St} {H : Hp} {s : Shared} {R : It → Hp → Prop} {E : Value → Shared → Prop} {lo hi : Int} {t u v : Tok} {tk : Nat} (I : Inv X pins σ H s) (h1 : -(2 ^ 62) ≤ lo) (h2 : lo < 2 ^ 62) (h3 : -(2 ^ 62) ≤ hi) (h4 : hi < 2 ^ 62)
    (q : R (Itr lo (hi - lo).toNat) H) : wpAny (model X.prog X.w) X.A (pyIter (.ref s.heap.objs.size)) (PIE X pins σ tg R) E { s with heap := s.heap.push { cls := .type "range", data := .fields #[.int lo t, .int hi u, .int 1 v] }, toks := tk } := by
  refine wpAny_pyIter_range (IsRange.new ..) (small_one h1 h2 h3 h4) ?_
  have I1 : Inv X pins σ H { s with heap := s.heap.push { cls := .type "range", data := .fields #[.int lo t, .int hi u, .int 1 v] }, toks := tk } := I.kept fun b o e => Heap.get?_push_of_some _ e
  refine ⟨(s.heap.push { cls := .type "range", data := .fields #[.int lo t, .int hi u, .int 1 v] }).objs.size, [(s.heap.push { cls := .type "range", data := .fields #[.int lo t, .int hi u, .int 1 v] }).objs.size], _, _, H, rfl,
    I1.kept (t' := tk) fun b o e => Heap.get?_push_of_some _ e, turn_range _ lo (hi - lo).toNat, ?_, fun b hb => ?_, q⟩
  · have e1 : lo + ((0 : Nat) : Int) * 1 = lo := by simp
    have e2 : (((hi - lo).toNat : Nat) : Int) - ((0 : Nat) : Int) = Builtin.Range.rangeSize lo hi 1 := by rw [rangeSize_one]; split <;> omega
    show IsRangeIter _ _ (lo + ((0 : Nat) : Int) * 1) ((((hi - lo).toNat : Nat) : Int) - ((0 : Nat) : Int)) 1
    rw [e1, e2]
    exact Heap.get?_push_size _ rfl
  · have e : b = (s.heap.push { cls := .type "range", data := .fields #[.int lo t, .int hi u, .int 1 v] }).objs.size := by simpa using hb
    subst e
    exact I1.fpOk (Nat.le_refl _) (I1.hok.fresh (Nat.le_refl _))
noncomputable def iRng1 (ta : TA) : TI := fun σ H R => ta σ H fun vs H1 => ∃ j : Int, vs = [.int j] ∧ -(2 ^ 62) ≤ j ∧ j < 2 ^ 62 ∧ R (Itr 0 j.toNat) H1
theorem pi_range1 {a : Expr} {ta : TA} {p pos : Pos} (hg : Gl X "range") (hm : X.mg "range" = none) (ha : PA X [a] ta) (hs : starEach [a] X.env = [(false, eval a X.env)] := by rfl) : PI X tg (.Call (.Name "range" p) [a] [] pos) (iRng1 ta) := by
  intro pins s σ H R I h
  refine Call_ (ld_blt I hg hm boot_range (PyProof.Rows.callWith_type1 (thn (ha pos pins s σ H _ I h) fun us s1 hh9 => ?_) hs rfl))
  obtain ⟨vs, H1, I1, r1, q1⟩ := hh9
  obtain ⟨j, e, q1, q2, q⟩ := q1
  subst e
  cases r1 with
  | cons r rr =>
    cases rr
    obtain ⟨t, rfl⟩ := r
    exact call_range_1 (range_it I1 (by omega) (by omega) q1 q2 (by simpa using q))
/-! ### for -/
/-- W: the invariant by the turn and a measure; N: what the body is to reach -/
noncomputable def tFor (wi : TI) (g : TG) (tb : TS) : TS := fun D σ H => wi σ H fun J H1 => ∃ W : Nat → Nat → St → Hp → Prop, (∃ m, W 0 m σ H1) ∧ ∀ i m σ H, W i m σ H →
  (J.stop i H ∧ D.nx σ H) ∨ (J.go i H ∧ ∃ N : St → Hp → Prop, (∀ σ' H', N σ' H' → ∃ m', m' < m ∧ W (i + 1) m' σ' H') ∧ ∀ x H', J.yld i H x H' → g x σ H' fun σ2 H2 => tb { D with nx := N, ct := N, bk := D.nx } σ2 H2)
/-- the records at fp as they stand -/
noncomputable def pinsAt (fp : List Addr) (h : Heap) : List (Addr × Obj) := fp.filterMap fun b => (h.get? b).map fun o => (b, o)
theorem mem_pinsAt {fp : List Addr} {h : Heap} {b : Addr} {o : Obj} (hb : b ∈ fp) (e : h.get? b = some o) : (b, o) ∈ pinsAt fp h := List.mem_filterMap.mpr ⟨b, hb, by rw [e]; rfl⟩
theorem of_pinsAt {fp : List Addr} {h : Heap} {p : Addr × Obj} (hp : p ∈ pinsAt fp h) : p.1 ∈ fp ∧ h.get? p.1 = some p.2 := by
  obtain ⟨b, hb, e⟩ := List.mem_filterMap.mp hp
  cases q : h.get? b with
  | none => rw [q] at e; cases e
  | some o =>
    rw [q] at e
    have e' : (b, o) = p := Option.some.inj e
    subst e'
    exact ⟨hb, q⟩
theorem Inv.pinned {pins : List (Addr × Obj)} {σ : St} {H : Hp} {s : Shared} {fp : List Addr} (I : Inv X pins σ H s) (hf : ∀ b ∈ fp, FpOk X pins H b) (ho : ∀ b ∈ fp, ∃ o, s.heap.get? b = some o ∧ ∀ v, o.data ≠ .cell v) : Inv X (pins ++ pinsAt fp s.heap) σ H s :=
  I.pins_of fun p hp => (List.mem_append.mp hp).elim (fun z => I.pin p (List.mem_append_right _ z)) fun z => by
    obtain ⟨hb, e⟩ := of_pinsAt z
    obtain ⟨f0, f1, f2, _⟩ := hf p.1 hb
    obtain ⟨o, e', d⟩ := ho p.1 hb
    rw [e] at e'; cases e'
    exact ⟨e, f0, f1, f2, d⟩
theorem Inv.unpinned {pins pl : List (Addr × Obj)} {σ : St} {H : Hp} {s : Shared} (I : Inv X (pins ++ pl) σ H s) : Inv X pins σ H s := I.pins_of fun p hp => I.pin p (List.mem_append_right _ (List.mem_append_left _ hp))
theorem ps_for {iter : Expr} {body : List Stmt} {wi : TI} {g : TG} {tb : TS} {pos : Pos} (hp : PassesOwn (model X.prog X.w) X.A X.env X.xe) (hc : X.calm = true) (hi : PI X tg iter wi) (hg : PG X tg g) (hb : PSs X body tb)
    (hs : ∀ x, foldedSetIterable iter X.env x = pure x := by intro _; rfl) : PS X (.For tg iter body [] pos) (tFor wi g tb) := by
  intro pins s σ H D I h
  refine wpAny_For (thn (hi pins s σ H _ I h) fun v s1 h1 => thn h1 fun itv s2 h2 => ?_) hs
  obtain ⟨it, fp, tn, J, H2, e, I2, T, st2, f2, W, ⟨m0, w0⟩, turn⟩ := h2
  subst e
  -- what stays true of the iterator's objects through the loop
  have stat : ∀ {H' : Hp}, (∀ b ∈ fp, H' b = none) → ∀ b ∈ fp, FpOk X pins H' b := fun hn b hb => ⟨hn b hb, (f2 b hb).2⟩
  refine codeAny_forLoop_any (fun n s' => ∃ i σ' H', Inv X pins σ' H' s' ∧ tn i s'.heap ∧ (∀ b ∈ fp, H' b = none) ∧ W i n σ' H') ?_ m0 ⟨0, σ, H2, I2, st2, fun b hb => (f2 b hb).1, w0⟩
  rintro n s3 ⟨i, σ3, H3, I3, st3, fr3, w3⟩
  rcases turn i n σ3 H3 w3 with ⟨stop, qn⟩ | ⟨go, N, hN, step⟩
  · refine wpAny_passesOwn hp (thn (T.done X rfl rfl rfl hc i pins s3 σ3 H3 X.xe I3 (stat fr3) st3 stop) fun r s4 hh9 => ?_)
    obtain ⟨hr, I4⟩ := hh9
    subst hr
    exact wpAny_execs_nil ⟨σ3, H3, I4, qn⟩
  · refine wpAny_passesOwn hp (thn (T.item X rfl rfl rfl hc i pins s3 σ3 H3 X.xe I3 (stat fr3) st3 go) fun r s4 hh9 => ?_)
    obtain ⟨u, hr, h4⟩ := hh9
    subst hr
    refine wpAny_passesOwn hp (thn h4 fun _ s5 hh9 => ?_)
    obtain ⟨x, H5, I5, r5, y5, st5, fr5⟩ := hh9
    have I5' := I5.pinned (stat fr5) (T.obj _ _ st5)
    refine wpAny_passesOwn hp (thn (hg _ s5 σ3 H5 x u _ I5' r5 (step x H5 y5)) fun _ s6 hh9 => ?_)
    obtain ⟨σ6, H6, I6, q6⟩ := hh9
    refine wpAny_passesOwn hp (thn (hb _ s6 σ6 H6 _ I6 q6) fun f s7 q7 => ?_)
    have again : ∀ {σ7 : St} {H7 : Hp}, Inv X (pins ++ pinsAt fp s5.heap) σ7 H7 s7 → N σ7 H7 → ∃ m, m < n ∧ ∃ i σ' H', Inv X pins σ' H' s7 ∧ tn i s7.heap ∧ (∀ b ∈ fp, H' b = none) ∧ W i m σ' H' := fun {σ7 H7} I7 n7 => by
      obtain ⟨m', hm, w7⟩ := hN σ7 H7 n7
      refine ⟨m', hm, i + 1, σ7, H7, I7.unpinned, T.keep _ _ _ st5 fun b hb o e => (I7.pin (b, o) (List.mem_append_right _ (List.mem_append_right _ (mem_pinsAt hb e)))).1, fun b hb => ?_, w7⟩
      obtain ⟨o, e, d⟩ := T.obj _ _ st5 b hb
      exact (I7.pin (b, o) (List.mem_append_right _ (List.mem_append_right _ (mem_pinsAt hb e)))).2.1
    cases f with
    | next => obtain ⟨σ7, H7, I7, n7⟩ := q7; exact again I7 n7
    | cont => obtain ⟨σ7, H7, I7, n7⟩ := q7; exact again I7 n7
    | brk => obtain ⟨σ7, H7, I7, q7⟩ := q7; exact ⟨σ7, H7, I7.unpinned, q7⟩
    | ret v => obtain ⟨x7, σ7, H7, I7, r7, q7⟩ := q7; exact ⟨x7, σ7, H7, I7.unpinned, r7, q7⟩
end

/-! ### the forms one uses -/
/-- over a list that the body leaves as it is -/
theorem for_list {K : PySem.W.Frag} {a : Addr} {xs : List V} {g : TG} {tb : TS} {D : Ends} {σ : St} {H : Hp} (Pv : Nat → St → Hp → Prop) (h0 : Pv 0 σ H) (hl : ∀ i σ H, i ≤ xs.length → Pv i σ H → SqL K H a xs)
    (hs : ∀ i x σ H, xs[i]? = some x → Pv i σ H → g x σ H fun σ2 H2 => tb { D with nx := Pv (i + 1), ct := Pv (i + 1), bk := D.nx } σ2 H2) (hd : ∀ σ H, Pv xs.length σ H → D.nx σ H) :
    ∃ W : Nat → Nat → St → Hp → Prop, (∃ m, W 0 m σ H) ∧ ∀ i m σ H, W i m σ H →
      ((Itl K a).stop i H ∧ D.nx σ H) ∨ ((Itl K a).go i H ∧ ∃ N : St → Hp → Prop, (∀ σ' H', N σ' H' → ∃ m', m' < m ∧ W (i + 1) m' σ' H') ∧ ∀ x H', (Itl K a).yld i H x H' → g x σ H' fun σ2 H2 => tb { D with nx := N, ct := N, bk := D.nx } σ2 H2) := by
  refine ⟨fun i m σ H => m = xs.length - i ∧ i ≤ xs.length ∧ Pv i σ H, ⟨xs.length, by simp, Nat.zero_le _, h0⟩, ?_⟩
  rintro i m σ H ⟨rfl, hi, p⟩
  have q := hl i σ H hi p
  by_cases hlt : i < xs.length
  · refine .inr ⟨⟨xs, xs[i], q, by simp [hlt]⟩, Pv (i + 1), fun σ' H' p' => ⟨xs.length - (i + 1), by omega, rfl, hlt, p'⟩, fun x H' y => ?_⟩
    obtain ⟨e, y⟩ := y
    subst e
    exact hs i x σ _ (y xs q) p
  · have e : i = xs.length := by omega
    subst e
    exact .inl ⟨⟨xs, q, Nat.le_refl _⟩, hd σ H p⟩
theorem for_tup {K : PySem.W.Frag} {a : Addr} {xs : List V} {g : TG} {tb : TS} {D : Ends} {σ : St} {H : Hp} (Pv : Nat → St → Hp → Prop) (h0 : Pv 0 σ H) (hl : ∀ i σ H, i ≤ xs.length → Pv i σ H → SqT K H a xs)
    (hs : ∀ i x σ H, xs[i]? = some x → Pv i σ H → g x σ H fun σ2 H2 => tb { D with nx := Pv (i + 1), ct := Pv (i + 1), bk := D.nx } σ2 H2) (hd : ∀ σ H, Pv xs.length σ H → D.nx σ H) :
    ∃ W : Nat → Nat → St → Hp → Prop, (∃ m, W 0 m σ H) ∧ ∀ i m σ H, W i m σ H →
      ((Itt K a).stop i H ∧ D.nx σ H) ∨ ((Itt K a).go i H ∧ ∃ N : St → Hp → Prop, (∀ σ' H', N σ' H' → ∃ m', m' < m ∧ W (i + 1) m' σ' H') ∧ ∀ x H', (Itt K a).yld i H x H' → g x σ H' fun σ2 H2 => tb { D with nx := N, ct := N, bk := D.nx } σ2 H2) := by
  refine ⟨fun i m σ H => m = xs.length - i ∧ i ≤ xs.length ∧ Pv i σ H, ⟨xs.length, by simp, Nat.zero_le _, h0⟩, ?_⟩
  rintro i m σ H ⟨rfl, hi, p⟩
  have q := hl i σ H hi p
  by_cases hlt : i < xs.length
  · refine .inr ⟨⟨xs, xs[i], q, by simp [hlt]⟩, Pv (i + 1), fun σ' H' p' => ⟨xs.length - (i + 1), by omega, rfl, hlt, p'⟩, fun x H' y => ?_⟩
    obtain ⟨e, y⟩ := y
    subst e
    exact hs i x σ _ (y xs q) p
  · have e : i = xs.length := by omega
    subst e
    exact .inl ⟨⟨xs, q, Nat.le_refl _⟩, hd σ H p⟩
theorem for_range {lo : Int} {n : Nat} {g : TG} {tb : TS} {D : Ends} {σ : St} {H : Hp} (Pv : Nat → St → Hp → Prop) (h0 : Pv 0 σ H)
    (hs : ∀ i σ H, i < n → Pv i σ H → g (.int (lo + i)) σ H fun σ2 H2 => tb { D with nx := Pv (i + 1), ct := Pv (i + 1), bk := D.nx } σ2 H2) (hd : ∀ σ H, Pv n σ H → D.nx σ H) :
    ∃ W : Nat → Nat → St → Hp → Prop, (∃ m, W 0 m σ H) ∧ ∀ i m σ H, W i m σ H →
      ((Itr lo n).stop i H ∧ D.nx σ H) ∨ ((Itr lo n).go i H ∧ ∃ N : St → Hp → Prop, (∀ σ' H', N σ' H' → ∃ m', m' < m ∧ W (i + 1) m' σ' H') ∧ ∀ x H', (Itr lo n).yld i H x H' → g x σ H' fun σ2 H2 => tb { D with nx := N, ct := N, bk := D.nx } σ2 H2) := by
  refine ⟨fun i m σ H => m = n - i ∧ i ≤ n ∧ Pv i σ H, ⟨n, by simp, Nat.zero_le _, h0⟩, ?_⟩
  rintro i m σ H ⟨rfl, hi, p⟩
  by_cases hlt : i < n
  · refine .inr ⟨hlt, Pv (i + 1), fun σ' H' p' => ⟨n - (i + 1), by omega, rfl, hlt, p'⟩, fun x H' y => ?_⟩
    obtain ⟨e, y⟩ := y
    subst e y
    exact hs i σ _ hlt p
  · have e : i = n := by omega
    subst e
    exact .inl ⟨Nat.le_refl _, hd σ H p⟩
end L2

namespace L2
open PySem PySem.Spec PyProof.Rows

noncomputable abbrev R2 := V → V → Hp → VK → Prop
/-- a two-place operation on values: f is binaryOp op, inplaceOp op or compareOp op -/
noncomputable def OpR (X : Cx) (f : Value → Value → Sem Value) (r : R2) : Prop :=
  ∀ (pins : List (Addr × Obj)) (s : Shared) (σ : St) (H : Hp) (x y : V) (v u : Value) (Q : VK), Inv X pins σ H s → RelV x v → RelV y u → r x y H Q →
    wpAny (model X.prog X.w) X.A (f v u) (EP X pins σ Q) X.xe s
/-- a call of a value that is known (a builtin, a type) with values -/
noncomputable def CallR (X : Cx) (f : Value) (r : List V → Hp → VK → Prop) : Prop :=
  ∀ (pins : List (Addr × Obj)) (s : Shared) (σ : St) (H : Hp) (xs : List V) (us : List Value) (Q : VK), Inv X pins σ H s → Vals xs us → r xs H Q →
    wpAny (model X.prog X.w) X.A (call f us) (EP X pins σ Q) X.xe s
noncomputable def tOp (r : R2) (ta tb : TE) : TE := fun σ H Q => ta σ H fun x H1 => tb σ H1 fun y H2 => r x y H2 Q
/-- ints in, under C, and a value out -/
noncomputable def rI (C : Int → Int → Prop) (g : Int → Int → V) : R2 := fun x y H Q => ∃ i j, x = .int i ∧ y = .int j ∧ C i j ∧ Q (g i j) H
noncomputable def rI0 (g : Int → Int → V) : R2 := fun x y H Q => ∃ i j, x = .int i ∧ y = .int j ∧ Q (g i j) H
section
variable {X : Cx} {a b c : Expr} {ta tb tc : TE} {pos : Pos}

theorem binT (ha : PE X a ta) (hb : PE X b tb) {pins : List (Addr × Obj)} {s : Shared} {σ : St} {H : Hp} {R : V → V → Hp → Prop} (I : Inv X pins σ H s)
    (h : ta σ H fun x H1 => tb σ H1 fun y H2 => R x y H2) {Q : Value → Shared → Prop} {f : Value → Value → Sem Value}
    (hf : ∀ v u s2 x y H2, Inv X pins σ H2 s2 → RelV x v → RelV y u → R x y H2 → wpAny (model X.prog X.w) X.A (f v u) Q X.xe s2) :
    wpAny (model X.prog X.w) X.A (eval a X.env) (fun v s₁ => wpAny (model X.prog X.w) X.A (eval b X.env) (fun u s₂ => wpAny (model X.prog X.w) X.A (f v u) Q X.xe s₂) X.xe s₁) X.xe s := by
  refine thn (ha pins s σ H _ I h) fun v s1 hh9 => ?_
  obtain ⟨x, H1, I1, r1, q1⟩ := hh9
  refine thn (hb pins s1 σ H1 _ I1 q1) fun u s2 hh9 => ?_
  obtain ⟨y, H2, I2, r2, q2⟩ := hh9
  exact hf v u s2 x y H2 I2 r1 r2 q2

theorem pe_op {op : Operator} {r : R2} (ho : OpR X (binaryOp op) r) (ha : PE X a ta) (hb : PE X b tb) : PE X (.BinOp a op b pos) (tOp r ta tb) := by
  intro pins s σ H Q I h
  exact wpAny_BinOp (binT ha hb I h fun v u s2 x y H2 I2 rx ry q => ho pins s2 σ H2 x y v u Q I2 rx ry q)
/-! ### ints -/
theorem opI {f : Value → Value → Sem Value} {C : Int → Int → Prop} {g : Int → Int → Int}
    (rule : ∀ (i j : Int) (t u : Tok) (s : Shared) (Q : Value → Shared → Prop) (E : Value → Shared → Prop), C i j → Q (.int (g i j) s.toks) { s with toks := s.toks + 1 } → wpAny (model X.prog X.w) X.A (f (.int i t) (.int j u)) Q E s) :
    OpR X f (rI C fun i j => .int (g i j)) := by
  intro pins s σ H x y v u Q I rx ry h
  obtain ⟨i, j, rfl, rfl, hc, q⟩ := h
  obtain ⟨t, rfl⟩ := rx
  obtain ⟨t', rfl⟩ := ry
  exact rule i j t t' s _ _ hc ⟨.int (g i j), H, I.tok _, ⟨_, rfl⟩, q⟩
theorem opI0 {f : Value → Value → Sem Value} {g : Int → Int → Int}
    (rule : ∀ (i j : Int) (t u : Tok) (s : Shared) (Q : Value → Shared → Prop) (E : Value → Shared → Prop), Q (.int (g i j) s.toks) { s with toks := s.toks + 1 } → wpAny (model X.prog X.w) X.A (f (.int i t) (.int j u)) Q E s) :
    OpR X f (rI0 fun i j => .int (g i j)) := by
  intro pins s σ H x y v u Q I rx ry h
  obtain ⟨i, j, rfl, rfl, q⟩ := h
  obtain ⟨t, rfl⟩ := rx
  obtain ⟨t', rfl⟩ := ry
  exact rule i j t t' s _ _ ⟨.int (g i j), H, I.tok _, ⟨_, rfl⟩, q⟩
theorem opB0 {f : Value → Value → Sem Value} {g : Int → Int → Bool}
    (rule : ∀ (i j : Int) (t u : Tok) (s : Shared) (Q : Value → Shared → Prop) (E : Value → Shared → Prop), Q (.bool (g i j)) s → wpAny (model X.prog X.w) X.A (f (.int i t) (.int j u)) Q E s) :
    OpR X f (rI0 fun i j => .bl (g i j)) := by
  intro pins s σ H x y v u Q I rx ry h
  obtain ⟨i, j, rfl, rfl, q⟩ := h
  obtain ⟨t, rfl⟩ := rx
  obtain ⟨t', rfl⟩ := ry
  exact rule i j t t' s _ _ ⟨.bl (g i j), H, I, rfl, q⟩

noncomputable def CDiv (i j : Int) : Prop := 0 < j ∧ j < 1073741824
noncomputable def CMul (i j : Int) : Prop := (-(2 ^ 64) < i ∧ i < 2 ^ 64) ∨ (-(2 ^ 64) < j ∧ j < 2 ^ 64)
theorem CMul.ok {i j : Int} (h : CMul i j) : IntMulOk i j := by
  rcases h with ⟨h1, h2⟩ | ⟨h1, h2⟩
  · exact .of_left (intBits_le_64 h1 h2)
  · exact .of_right (intBits_le_64 h1 h2)
theorem op_add : OpR X (binaryOp .Add) (rI0 fun i j => .int (i + j)) := opI0 fun _ _ _ _ _ _ _ q => add_int q
theorem op_sub : OpR X (binaryOp .Sub) (rI0 fun i j => .int (i - j)) := opI0 fun _ _ _ _ _ _ _ q => sub_int q
theorem op_mul : OpR X (binaryOp .Mult) (rI CMul fun i j => .int (i * j)) := opI fun _ _ _ _ _ _ _ hc q => mul_int q hc.ok
/-- // by a positive divisor -/
theorem op_fdiv : OpR X (binaryOp .FloorDiv) (rI CDiv fun i j => .int (i / j)) := opI fun i j _ _ _ _ _ hc q => by
  have h1 : (0 : Int) < j := hc.1
  have h2 : j < 1073741824 := hc.2
  exact floordiv_int (by omega) (by rw [Int.fdiv_eq_ediv_of_nonneg i (by omega)]; exact q) (.inl (PyProof.noPylong_small (by omega)))
/-- % by a positive divisor of any size -/
theorem op_mod : OpR X (binaryOp .Mod) (rI (fun _ j => 0 < j) fun i j => .int (i % j)) := opI fun i j _ _ _ _ _ hc q => by
  have h1 : (0 : Int) < j := hc
  exact mod_int' (by omega) (by rw [Int.fmod_eq_emod_of_nonneg i (by omega)]; exact q)
/-! ### bools among ints: n += (a < b) -/
end

/-! ### comparisons -/
/-- the scalars that == tells apart as data does -/
noncomputable def scal : V → V → Bool
  | .non, .non => true | .non, .int _ => true | .int _, .non => true | .non, .bl _ => true | .bl _, .non => true | .non, .str _ => true | .str _, .non => true
  | .int _, .int _ => true | .bl _, .bl _ => true | .str _, .str _ => true | .byt _, .byt _ => true
  | .int _, .str _ => true | .str _, .int _ => true | .bl _, .str _ => true | .str _, .bl _ => true
  | _, _ => false
noncomputable def rEq : R2 := fun x y H Q => scal x y = true ∧ Q (.bl (decide (x = y))) H
noncomputable def rNe : R2 := fun x y H Q => scal x y = true ∧ Q (.bl (!decide (x = y))) H

theorem dec_int {i j : Int} : decide (V.int i = V.int j) = (i == j) := by
  rw [Bool.eq_iff_iff]
  simp
theorem dec_bl {i j : Bool} : decide (V.bl i = V.bl j) = (i == j) := by
  rw [Bool.eq_iff_iff]
  simp
theorem dec_str {i j : Str} : decide (V.str i = V.str j) = (i == j) := by
  rw [Bool.eq_iff_iff]
  simp
theorem dec_byt {i j : Array UInt8} : decide (V.byt i = V.byt j) = (i.toList == j.toList) := by
  rw [Bool.eq_iff_iff]
  cases i
  cases j
  simp

section
variable {X : Cx} {a b c : Expr} {ta tb tc : TE} {pos : Pos}
theorem fin_bl {pins : List (Addr × Obj)} {σ : St} {H : Hp} {s : Shared} {Q : VK} {k k' : Bool} (I : Inv X pins σ H s) (q : Q (.bl k) H) (e : k = k') : EP X pins σ Q (.bool k') s := by
  subst e
  exact ⟨.bl k, H, I, rfl, q⟩
theorem op_eq : OpR X (compareOp .Eq) rEq := by
  intro pins s σ H x y v u Q I rx ry h
  obtain ⟨hs, q⟩ := h
  cases x with
  | non =>
    cases rx
    cases y with
    | non => cases ry; exact PySem.EqNone.eq_none_none (fin_bl I q (by simp))
    | bl j => cases ry; exact PySem.EqNone.eq_none_bool (fin_bl I q (by simp))
    | int j => obtain ⟨t', rfl⟩ := ry; exact PySem.EqNone.eq_none_int (fin_bl I q (by simp))
    | str j => obtain ⟨t', rfl⟩ := ry; exact PySem.EqNone.eq_none_str (fin_bl I q (by simp))
    | _ => exact absurd (show false = true from hs) Bool.false_ne_true
  | bl i =>
    cases rx
    cases y with
    | non => cases ry; exact PySem.EqNone.eq_bool_none (fin_bl I q (by simp))
    | bl j => cases ry; exact eq_bool (fin_bl I q dec_bl)
    | str j => obtain ⟨t', rfl⟩ := ry; exact PySem.EqMixed.eq_bool_str (fin_bl I q (by simp))
    | _ => exact absurd (show false = true from hs) Bool.false_ne_true
  | int i =>
    obtain ⟨t, rfl⟩ := rx
    cases y with
    | non => cases ry; exact PySem.EqNone.eq_int_none (fin_bl I q (by simp))
    | int j => obtain ⟨t', rfl⟩ := ry; exact eq_int (fin_bl I q dec_int)
    | str j => obtain ⟨t', rfl⟩ := ry; exact PySem.EqMixed.eq_int_str (fin_bl I q (by simp))
    | _ => exact absurd (show false = true from hs) Bool.false_ne_true
  | str i =>
    obtain ⟨t, rfl⟩ := rx
    cases y with
    | non => cases ry; exact PySem.EqNone.eq_str_none (fin_bl I q (by simp))
    | bl j => cases ry; exact PySem.EqMixed.eq_str_bool (fin_bl I q (by simp))
    | int j => obtain ⟨t', rfl⟩ := ry; exact PySem.EqMixed.eq_str_int (fin_bl I q (by simp))
    | str j => obtain ⟨t', rfl⟩ := ry; exact eq_str (fin_bl I q dec_str)
    | _ => exact absurd (show false = true from hs) Bool.false_ne_true
  | byt i =>
    obtain ⟨t, rfl⟩ := rx
    cases y with
    | byt j => obtain ⟨t', rfl⟩ := ry; exact PySem.W.eq_bytes (fin_bl I q dec_byt)
    | _ => exact absurd (show false = true from hs) Bool.false_ne_true
  | _ => cases y <;> exact absurd (show false = true from hs) Bool.false_ne_true
theorem op_ne : OpR X (compareOp .NotEq) rNe := by
  intro pins s σ H x y v u Q I rx ry h
  obtain ⟨hs, q⟩ := h
  cases x with
  | non =>
    cases rx
    cases y with
    | non => cases ry; exact PySem.EqNone.ne_none_none (fin_bl I q (by simp))
    | bl j => cases ry; exact PySem.EqNone.ne_none_bool (fin_bl I q (by simp))
    | int j => obtain ⟨t', rfl⟩ := ry; exact PySem.EqNone.ne_none_int (fin_bl I q (by simp))
    | str j => obtain ⟨t', rfl⟩ := ry; exact PySem.EqNone.ne_none_str (fin_bl I q (by simp))
    | _ => exact absurd (show false = true from hs) Bool.false_ne_true
  | bl i =>
    cases rx
    cases y with
    | non => cases ry; exact PySem.EqNone.ne_bool_none (fin_bl I q (by simp))
    | bl j => cases ry; exact ne_bool (fin_bl I q (congrArg not dec_bl))
    | str j => obtain ⟨t', rfl⟩ := ry; exact PySem.EqMixed.ne_bool_str (fin_bl I q (by simp))
    | _ => exact absurd (show false = true from hs) Bool.false_ne_true
  | int i =>
    obtain ⟨t, rfl⟩ := rx
    cases y with
    | non => cases ry; exact PySem.EqNone.ne_int_none (fin_bl I q (by simp))
    | int j => obtain ⟨t', rfl⟩ := ry; exact ne_int (fin_bl I q (congrArg not dec_int))
    | str j => obtain ⟨t', rfl⟩ := ry; exact PySem.EqMixed.ne_int_str (fin_bl I q (by simp))
    | _ => exact absurd (show false = true from hs) Bool.false_ne_true
  | str i =>
    obtain ⟨t, rfl⟩ := rx
    cases y with
    | non => cases ry; exact PySem.EqNone.ne_str_none (fin_bl I q (by simp))
    | bl j => cases ry; exact PySem.EqMixed.ne_str_bool (fin_bl I q (by simp))
    | int j => obtain ⟨t', rfl⟩ := ry; exact PySem.EqMixed.ne_str_int (fin_bl I q (by simp))
    | str j => obtain ⟨t', rfl⟩ := ry; exact ne_str (fin_bl I q (congrArg not dec_str))
    | _ => exact absurd (show false = true from hs) Bool.false_ne_true
  | byt i =>
    obtain ⟨t, rfl⟩ := rx
    cases y with
    | byt j => obtain ⟨t', rfl⟩ := ry; exact PySem.W.ne_bytes (fin_bl I q (congrArg not dec_byt))
    | _ => exact absurd (show false = true from hs) Bool.false_ne_true
  | _ => cases y <;> exact absurd (show false = true from hs) Bool.false_ne_true

theorem op_lt : OpR X (compareOp .Lt) (rI0 fun i j => .bl (decide (i < j))) := opB0 fun _ _ _ _ _ _ _ q => lt_int q
theorem op_le : OpR X (compareOp .LtE) (rI0 fun i j => .bl (decide (i ≤ j))) := opB0 fun _ _ _ _ _ _ _ q => le_int q
theorem op_gt : OpR X (compareOp .Gt) (rI0 fun i j => .bl (decide (j < i))) := opB0 fun _ _ _ _ _ _ _ q => gt_int q
/-- is None, is not None: the right side a value none -/
theorem op_isN : OpR X (compareOp .Is) (fun x y H Q => y = .non ∧ Q (.bl (decide (x = .non))) H) := by
  intro pins s σ H x y v u Q I rx ry h
  obtain ⟨rfl, q⟩ := h
  cases ry
  refine is_none_gen (fin_bl I q ?_)
  cases x <;> first
    | (cases rx; rfl)
    | (obtain ⟨t, rfl⟩ := rx; rfl)
theorem op_notN : OpR X (compareOp .IsNot) (fun x y H Q => y = .non ∧ Q (.bl (!decide (x = .non))) H) := by
  intro pins s σ H x y v u Q I rx ry h
  obtain ⟨rfl, q⟩ := h
  cases ry
  refine isnot_none_gen (fin_bl I q ?_)
  cases x <;> first
    | (cases rx; rfl)
    | (obtain ⟨t, rfl⟩ := rx; rfl)

theorem nomark (b : Expr) {op : CmpOp} (h : op ≠ .In := by decide) (h2 : op ≠ .NotIn := by decide) : behindInMarks op b = false := by
  have e1 : (op == CmpOp.In) = false := by cases op <;> first | rfl | exact absurd rfl h
  have e2 : (op == CmpOp.NotIn) = false := by cases op <;> first | rfl | exact absurd rfl h2
  cases b <;> simp [behindInMarks, e1, e2]
/-- a comparison as a value; hm: nomark b, or (for in, not in) by with_unfolding_all rfl -/
theorem pe_cmpR {op : CmpOp} {r : R2} (ho : OpR X (compareOp op) r) (ha : PE X a ta) (hb : PE X b tb) (hm : behindInMarks op b = false) : PE X (.Compare a [op] [b] pos) (tOp r ta tb) := by
  intro pins s σ H Q I h
  exact wpAny_Compare1 (binT ha hb I h fun v u s2 x y H2 I2 rx ry q => ho pins s2 σ H2 x y v u Q I2 rx ry q) hm
/-- a reading of a value as a test -/
noncomputable def tTest (t : TE) : TT := fun σ H Q => t σ H fun x H' => ∃ k, x = .bl k ∧ Q k H'
theorem pt_cmpR {op : CmpOp} {r : R2} (ho : OpR X (compareOp op) r) (ha : PE X a ta) (hb : PE X b tb) (hm : behindInMarks op b = false) : PT X (.Compare a [op] [b] pos) (tTest (tOp r ta tb)) := by
  intro pins s σ H Q I h
  refine wpAny_isTrue_Compare1 (thn (ha pins s σ H _ I h) fun v s1 ⟨x, H1, I1, r1, q1⟩ => thn (hb pins s1 σ H1 _ I1 q1) fun u s2 ⟨y, H2, I2, r2, q2⟩ =>
    thn (ho pins s2 σ H2 x y v u _ I2 r1 r2 q2) fun c s3 ⟨z, H3, I3, r3, k, e, q3⟩ => ?_) hm
  subst e
  cases r3
  exact wpAny_truthy_bool ⟨H3, I3, q3⟩
/-- a op1 b op2 c -/
noncomputable def tChain (r r' : R2) (ta tb tc : TE) : TE := fun σ H Q => ta σ H fun x H1 => tb σ H1 fun y H2 => r x y H2 fun z H3 => ∃ k, z = .bl k ∧
  (if k = true then tc σ H3 fun w' H4 => r' y w' H4 Q else Q (.bl false) H3)
theorem pe_chain {op op' : CmpOp} {r r' : R2} (ho : OpR X (compareOp op) r) (ho' : OpR X (compareOp op') r') (ha : PE X a ta) (hb : PE X b tb) (hc : PE X c tc)
    (hm : lastMarks [op, op'] [b, c] = false := by with_unfolding_all rfl) : PE X (.Compare a [op, op'] [b, c] pos) (tChain r r' ta tb tc) := by
  intro pins s σ H Q I h
  refine Compare_chain (thn (ha pins s σ H _ I h) fun v s1 ⟨x, H1, I1, r1, q1⟩ => chain_link (thn (hb pins s1 σ H1 _ I1 q1) fun u s2 ⟨y, H2, I2, r2, q2⟩ =>
    thn (ho pins s2 σ H2 x y v u _ I2 r1 r2 q2) fun d s3 ⟨z, H3, I3, r3, k, e, q3⟩ => ?_)) hm
  subst e
  cases r3
  refine wpAny_truthy_bool ?_
  cases k with
  | false => exact ite_ff ⟨.bl false, H3, I3, rfl, q3⟩
  | true => exact ite_tt (chain_last (thn (hc pins s3 σ H3 _ I3 q3) fun w' s4 ⟨z', H4, I4, r4, q4⟩ => ho' pins s4 σ H4 y z' u w' Q I4 r2 r4 q4))
theorem pt_chain {op op' : CmpOp} {r r' : R2} (ho : OpR X (compareOp op) r) (ho' : OpR X (compareOp op') r') (ha : PE X a ta) (hb : PE X b tb) (hc : PE X c tc)
    (hm : lastMarks [op, op'] [b, c] = false := by with_unfolding_all rfl) : PT X (.Compare a [op, op'] [b, c] pos) (tTest (tChain r r' ta tb tc)) := by
  intro pins s σ H Q I h
  refine isTrue_chain (thn (ha pins s σ H _ I h) fun v s1 ⟨x, H1, I1, r1, q1⟩ => test_link (thn (hb pins s1 σ H1 _ I1 q1) fun u s2 ⟨y, H2, I2, r2, q2⟩ =>
    thn (ho pins s2 σ H2 x y v u _ I2 r1 r2 q2) fun d s3 ⟨z, H3, I3, r3, k, e, q3⟩ => ?_)) hm
  subst e
  cases r3
  refine wpAny_truthy_bool ?_
  cases k with
  | false =>
    obtain ⟨k', e', q'⟩ := q3
    cases e'
    exact ite_ff ⟨H3, I3, q'⟩
  | true =>
    refine ite_tt (test_last (thn (hc pins s3 σ H3 _ I3 q3) fun w' s4 ⟨z', H4, I4, r4, q4⟩ => thn (ho' pins s4 σ H4 y z' u w' _ I4 r2 r4 q4) fun d' s5 hh9 => ?_))
    obtain ⟨z2, H5, I5, r5, k2, e2, q5⟩ := hh9
    subst e2
    cases r5
    exact wpAny_truthy_bool ⟨H5, I5, q5⟩

/-! ### truth -/
theorem line63 : (sizeLine : Nat) < 2 ^ 63 := by rw [sizeLine_eq]; decide
/-! ### strs and bytes -/
theorem op_add_str : OpR X (binaryOp .Add) (fun x y H Q => ∃ i j, x = .str i ∧ y = .str j ∧ i.length + j.length ≤ sizeLine ∧ Q (.str (i ++ j)) H) := by
  intro pins s σ H x y v u Q I rx ry h
  obtain ⟨i, j, rfl, rfl, hz, q⟩ := h
  obtain ⟨t, rfl⟩ := rx
  obtain ⟨t', rfl⟩ := ry
  exact add_str (fun t' tk => ⟨.str (i ++ j), H, I.tok _, ⟨_, rfl⟩, q⟩) hz
/-! ### scalar builtins, by CallR -/
theorem vals1 {x : V} {us : List Value} (r : Vals [x] us) : ∃ u, us = [u] ∧ RelV x u := by
  cases r with
  | cons r1 r2 => cases r2; exact ⟨_, rfl, r1⟩
theorem call_str_int : CallR X (.type "str") (fun xs H Q => ∃ i, xs = [.int i] ∧ i.natAbs.log2 < 1920 ∧ Q (.str (toString i)) H) := by
  intro pins s σ H xs us Q I r h
  obtain ⟨i, rfl, hz, q⟩ := h
  obtain ⟨u, rfl, t, rfl⟩ := vals1 r
  exact PySem.P.str_of_int hz ⟨.str _, H, I.tok _, ⟨_, rfl⟩, q⟩
/-- len of a str, a bytes, a list, a tuple -/
noncomputable def LenV (K : PySem.W.Frag) (x : V) (H : Hp) (n : Nat) : Prop :=
  match x with
  | .str y => y.length ≤ sizeLine ∧ n = y.length
  | .byt y => y.size ≤ sizeLine ∧ n = y.size
  | .ref p => (∃ xs, SqL K H p xs ∧ n = xs.length) ∨ ∃ xs, SqT K H p xs ∧ n = xs.length
  | _ => False
theorem call_len : CallR X (.builtin "len") (fun xs H Q => ∃ x n, xs = [x] ∧ LenV X.K x H n ∧ Q (.int n) H) := by
  intro pins s σ H xs us Q I r h
  obtain ⟨x, n, rfl, e, q⟩ := h
  obtain ⟨u, rfl, rx⟩ := vals1 r
  have hl := line63
  have hs : sizeLine = 16777216 := sizeLine_eq
  cases x with
  | str y =>
    obtain ⟨t, rfl⟩ := rx
    obtain ⟨hy, e'⟩ : y.length ≤ sizeLine ∧ n = y.length := e
    subst e'
    exact len_str (by omega) ⟨.int _, H, I.tok _, ⟨_, rfl⟩, q⟩
  | byt y =>
    obtain ⟨t, rfl⟩ := rx
    obtain ⟨hy, e'⟩ : y.size ≤ sizeLine ∧ n = y.size := e
    subst e'
    exact PySem.W.len_bytes (by omega) ⟨.int _, H, I.tok _, ⟨_, rfl⟩, q⟩
  | ref p =>
    cases rx
    have e' : (∃ xs, SqL X.K H p xs ∧ n = xs.length) ∨ ∃ xs, SqT X.K H p xs ∧ n = xs.length := e
    rcases e' with ⟨xs, hx, e'⟩ | ⟨xs, hx, e'⟩
    · subst e'
      obtain ⟨its, r', pl, hz⟩ := I.list hx
      have hlen := r'.length
      exact Calls.call_len_list pl.isList (by simp only [List.size_toArray]; omega) ⟨.int xs.length, H, I.tok _, ⟨_, by simp only [List.size_toArray]; rw [hlen]⟩, q⟩
    · subst e'
      obtain ⟨its, r', pl, hz⟩ := I.tuple hx
      have hlen := r'.length
      exact len_tuple pl (by simp only [List.size_toArray]; omega) ⟨.int xs.length, H, I.tok _, ⟨_, by simp only [List.size_toArray]; rw [hlen]⟩, q⟩
  | _ => exact (show False from e).elim
end
end L2

namespace L2
open PySem PySem.Spec PyProof.Rows

/-! ### an instance, its attributes a map -/
structure ObjM (h : Heap) (x dx C : Addr) (mA : Str → Option Value) : Prop where
  obj : h.get? x = some (PySem.W.instObj C dx)
  ns : h.Ns1 dx mA
  ne : dx ≠ x

theorem lookIn_ns {h : Heap} {dx : Addr} {mA : Str → Option Value} (n : h.Ns1 dx mA) : ∃ od, h.get? dx = some od ∧ ∀ name, PySem.W.lookIn name od = some (mA name) := by
  obtain ⟨o, es, ep, ho, hd, hk, _, hm⟩ := n
  refine ⟨o, ho, fun name => ?_⟩
  have e := hm name
  unfold nsFind findBy at e
  rw [← Array.find?_toList] at e
  unfold PySem.W.lookIn
  rw [hd]
  dsimp only
  split
  · rename_i y q
    rw [q] at e
    exact congrArg some e
  · rename_i q
    rw [q] at e
    have a : es.toList.any (·.refKey) = false := by
      rw [List.any_eq_false]
      intro y hy
      obtain ⟨z, t, hkey⟩ := hk y (Array.mem_toList_iff.mp hy)
      simp [DictEntry.refKey, hkey]
    have a' : ¬ es.toList.any (·.refKey) = true := by rw [a]; exact Bool.false_ne_true
    rw [if_neg a']
    exact congrArg some e

theorem ObjM.look {h : Heap} {x dx C : Addr} {mA : Str → Option Value} (I : ObjM h x dx C mA) : ∃ od, PySem.W.InstAt h x (PySem.W.instObj C dx) C (some od) ∧ ∀ name, PySem.W.lookIn name od = some (mA name) :=
  let ⟨od, ho, hl⟩ := lookIn_ns I.ns
  ⟨od, ⟨I.obj, rfl, rfl, ho⟩, hl⟩

section
variable {prog : Program} {w : World} {A : Around} {E : Value → Shared → Prop} {s : Shared} {K : PySem.W.Frag} {x dx C f : Addr} {mA : Str → Option Value} {name : Str} {v : Value}

theorem get_map {expr : Bool} {Q : Value → Shared → Prop} (X : K.In s.heap) (I : ObjM s.heap x dx C mA) (hg : PySem.W.plainGet K C name = true) (hh : PySem.W.hasDictIn K C = true)
    (ha : PySem.W.findIn K (.ref C) name = some none) (hv : mA name = some v) (hv' : PySem.W.handedIn v = true) (h : Q v { s with toks := s.toks + 1 }) :
    wpAny (model prog w) A (getAttr (.ref x) name expr) Q E s := by
  obtain ⟨od, J, hl⟩ := I.look
  exact PySem.W.get_value X J (PySem.W.plainGet_of hg).1 (PySem.W.findObj_own hh ha rfl (by rw [hl, hv])) hv' h

theorem get_meth {pl : Sem Bool} {Q : Value × List Value → Shared → Prop} (X : K.In s.heap) (I : ObjM s.heap x dx C mA) (hg : PySem.W.plainGet K C name = true)
    (hf : PySem.W.findIn K (.ref C) name = some (some (.ref f))) (ht : PySem.W.isFn K (.ref f) = true) (hv : mA name = none) (h : Q (.ref f, [.ref x]) s) :
    wpAny (model prog w) A (getMethod (.ref x) name pl) Q E s := by
  obtain ⟨od, J, hl⟩ := I.look
  exact PySem.W.method_fn X J (PySem.W.plainGet_of hg).1 (PySem.W.plainGet_of hg).2 hf (beq_iff_eq.mp ht) (by show (PySem.W.lookIn name od).map (·.isSome) = some false; rw [hl, hv]; rfl) h

theorem set_map {ns : List Str} {Q : Unit → Shared → Prop} (X : K.In s.heap) (I : ObjM s.heap x dx C mA)
    (hs : PySem.W.findIn K (.ref C) "__setattr__" = some (some (.builtin "object.__setattr__"))) (hp : PySem.W.plainOver K C = true) (ht : PySem.W.takerIn K C name = some none) (hh : PySem.W.hasDictIn K C = true)
    (hw : PySem.Within mA ns) (hsz : ns.length ≤ sizeLine)
    (h : ∀ h', ObjM h' x dx C (fun y => if y = name then some v else mA y) → Heap.SameBut dx s.heap h' → Q () { s with heap := h', toks := s.toks + 2 }) :
    wpAny (model prog w) A (setAttr (.ref x) name v) Q E s := by
  obtain ⟨od, J, hl⟩ := I.look
  refine PySem.W.set_plain X J hs (PySem.W.osa_open (s := { s with toks := s.toks + 1 }) (r := none) X J hp ht fun b => ?_)
  obtain ⟨cd, hc, hd'⟩ := PySem.W.any_some hh
  have hx : s.heap.get? x = some ⟨.ref C, some dx, .plain, #[]⟩ := I.obj
  refine wpAny_bind (wpAny_pure (wpAny_bind (wpAny_bind (wpAny_loadPart hx (wpAny_bind (PySem.W.Looks.here (s := { s with toks := s.toks + 1 }) (PySem.W.looks_clsIn X hc) ?_))))))
  rw [hd']
  refine wpAny_pure (a := some dx) (wpAny_bind (wpAny_pure (wpAny_bind ?_)))
  refine wpAny_nsSet1 (s := { s with toks := s.toks + 1 }) I.ns fun h' hn2 hs2 => ?_
  obtain ⟨oD, esD, epD, hoD, hdD, hcD⟩ := hn2.count (PySem.Within.cons name v hw)
  refine wpAny_bind (wpAny_lookBehind hoD (by rw [hdD]; exact pastItsLine_dict (Nat.le_trans hcD (by rw [List.length_cons]; omega))) ?_)
  exact wpAny_pure (h _ ⟨(hs2.2 _ (Ne.symm I.ne)).trans I.obj, hn2, I.ne⟩ hs2)

/-- C(..): the dict at the heap's end, the instance behind it; then its __init__ -/
theorem make_map {R : Result → Shared → Prop} {vs : List Value} {kw : List (Str × Value)} (X : K.In s.heap) (hm : PySem.W.makesIn K C = true)
    (hi : PySem.W.findIn K (.ref C) "__init__" = some (some (.ref f))) (hf : PySem.W.typeIn K (.ref f) = some (.type "function"))
    (h : codeAny (model prog w) (A.under (.builtin "type.__call__" ⟨.ref C :: vs, kw⟩)) (.call (.ref f) ⟨.ref (s.heap.objs.size + 1) :: vs, kw⟩) (PySem.W.InitBack (s.heap.objs.size + 1) R)
      { s with heap := (s.heap.push PySem.W.emptyDict).push (PySem.W.instObj C s.heap.objs.size) }) :
    codeAny (model prog w) A (.call (.ref C) ⟨vs, kw⟩) R s := by
  obtain ⟨hh, g, d, t, os⟩ := s
  exact PySem.W.make_core (PySem.W.makes_of X hm) (PySem.W.looks_findIn X hi) (fun self => PySem.W.bind_fn X self hf) (.inl rfl) h
end

/-! ### the attributes as a list of pairs -/
noncomputable def putF (f : Str) (v : V) : List (Str × V) → List (Str × V)
  | [] => [(f, v)]
  | (g, x) :: r => if g = f then (g, v) :: r else (g, x) :: putF f v r
theorem lookup_putF (f g : Str) (v : V) : ∀ fs : List (Str × V), (putF f v fs).lookup g = if g = f then some v else fs.lookup g
  | [] => by
    show List.lookup g [(f, v)] = _
    by_cases h : g = f
    · have hb : (g == f) = true := beq_iff_eq.mpr h
      simp only [List.lookup, hb, if_pos h]
    · have hb : (g == f) = false := beq_eq_false_iff_ne.mpr h
      simp only [List.lookup, hb, if_neg h]
  | (k, x) :: r => by
    have ih := lookup_putF f g v r
    rw [show putF f v ((k, x) :: r) = (if k = f then (k, v) :: r else (k, x) :: putF f v r) from rfl]
    by_cases hk : k = f
    · rw [if_pos hk]
      by_cases h : g = k
      · have hb : (g == k) = true := beq_iff_eq.mpr h
        simp only [List.lookup, hb, if_pos (h.trans hk)]
      · have hb : (g == k) = false := beq_eq_false_iff_ne.mpr h
        simp only [List.lookup, hb, if_neg (fun e : g = f => h (e.trans hk.symm))]
    · rw [if_neg hk]
      by_cases h : g = k
      · have hb : (g == k) = true := beq_iff_eq.mpr h
        simp only [List.lookup, hb, if_neg (fun e : g = f => hk (h.symm.trans e))]
      · have hb : (g == k) = false := beq_eq_false_iff_ne.mpr h
        simp only [List.lookup, hb]
        exact ih
theorem keys_putF (f : Str) (v : V) : ∀ fs : List (Str × V), f ∈ (putF f v fs).map (·.1) ∧ ∀ g, g ∈ fs.map (·.1) → g ∈ (putF f v fs).map (·.1)
  | [] => ⟨by simp [putF], fun g h => by simp at h⟩
  | (k, x) :: r => by
    obtain ⟨i1, i2⟩ := keys_putF f v r
    rw [show putF f v ((k, x) :: r) = (if k = f then (k, v) :: r else (k, x) :: putF f v r) from rfl]
    by_cases hk : k = f
    · rw [if_pos hk]
      subst hk
      exact ⟨by simp, fun g h => by simpa using h⟩
    · rw [if_neg hk]
      refine ⟨?_, fun g h => ?_⟩
      · rw [List.map_cons]
        exact List.mem_cons_of_mem _ i1
      · rw [List.map_cons] at h ⊢
        rcases List.mem_cons.mp h with e | e
        · exact List.mem_cons.mpr (.inl e)
        · exact List.mem_cons_of_mem _ (i2 g e)
theorem length_putF (f : Str) (v : V) : ∀ fs : List (Str × V), (putF f v fs).length ≤ fs.length + 1
  | [] => by simp [putF]
  | (k, x) :: r => by
    have ih := length_putF f v r
    rw [show putF f v ((k, x) :: r) = (if k = f then (k, v) :: r else (k, x) :: putF f v r) from rfl]
    by_cases hk : k = f
    · rw [if_pos hk, List.length_cons, List.length_cons]; omega
    · rw [if_neg hk, List.length_cons, List.length_cons]; omega

theorem RelO.some_of {v : V} {o : Option Value} (r : RelO (some v) o) : ∃ u, o = some u ∧ RelV v u := by
  cases o with
  | none => exact (show False from r).elim
  | some u => exact ⟨u, rfl, r⟩
theorem RelO.none_of {o : Option Value} (r : RelO none o) : o = none := by
  cases o with
  | none => rfl
  | some u => exact (show False from r).elim
theorem handed_of {v : V} {u : Value} (r : RelV v u) : PySem.W.handedIn u = true := by
  cases v with
  | non => cases (show u = Value.none from r); rfl
  | bl b => cases (show u = Value.bool b from r); rfl
  | int i => obtain ⟨t, e⟩ := (show ∃ t, u = Value.int i t from r); cases e; rfl
  | str x => obtain ⟨t, e⟩ := (show ∃ t, u = Value.str x t from r); cases e; rfl
  | byt b => obtain ⟨t, e⟩ := (show ∃ t, u = Value.bytes b t from r); cases e; rfl
  | flt b => obtain ⟨t, e⟩ := (show ∃ t, u = Value.float b t from r); cases e; rfl
  | ref a => cases (show u = Value.ref a from r); rfl
  | ty n => cases (show u = Value.type n from r); rfl

section
variable {P : Program} {w : World} {H H' : Hp} {h h' : Heap} {a C dx : Addr} {fs fs' : List (Str × V)}
theorem ins_get (hok : HOk P w H h) (e : H a = some (.ins C dx fs)) : ∃ mA, ObjM h a dx C mA ∧ (∀ f, RelO (fs.lookup f) (mA f)) ∧ PySem.Within mA (fs.map (·.1)) ∧ fs.length ≤ 1000 ∧ H dx = some (.own a) := by
  obtain ⟨d, z, ne, ob, mA, n, r, q⟩ := (show ObjOk P w H h a (.ins C dx fs) from hok a _ e)
  exact ⟨mA, ⟨ob, n, ne⟩, r, q, z, d⟩
end

/-! ### what of the text a class must have -/
structure Cls (K : PySem.W.Frag) (C : Addr) : Prop where
  pg : PySem.W.plainGet K C Str.empty = true
  hd : PySem.W.hasDictIn K C = true
  po : PySem.W.plainOver K C = true
  sa : PySem.W.findIn K (.ref C) "__setattr__" = some (some (.builtin "object.__setattr__"))
theorem Cls.get {K : PySem.W.Frag} {C : Addr} (c : Cls K C) (f : Str) : PySem.W.plainGet K C f = true := c.pg
/-- no class of it has the name -/
noncomputable def NoAttr (K : PySem.W.Frag) (C : Addr) (f : Str) : Prop := PySem.W.findIn K (.ref C) f = some none
theorem NoAttr.taker {K : PySem.W.Frag} {C : Addr} {f : Str} (n : NoAttr K C f) : PySem.W.takerIn K C f = some none := by
  unfold PySem.W.takerIn
  rw [show PySem.W.findIn K (.ref C) f = some none from n]
  rfl
/-- a method: a plain def of the class or of one above it -/
structure Meth (K : PySem.W.Frag) (C : Addr) (m : Str) (f : Addr) : Prop where
  at_ : PySem.W.findIn K (.ref C) m = some (some (.ref f))
  fn : PySem.W.isFn K (.ref f) = true
  kp : PySem.W.keepIn K (.ref f) = true

section
variable {X : Cx} {pins : List (Addr × Obj)} {σ : St} {H : Hp} {s : Shared} {a C dx : Addr} {fs : List (Str × V)} {f : Str} {v : V} {A : Around} {E : Value → Shared → Prop}

theorem getattr_ok {b : Bool} {Q : Value → Shared → Prop} (I : Inv X pins σ H s) (e : H a = some (.ins C dx fs)) (c : Cls X.K C) (n : NoAttr X.K C f) (l : fs.lookup f = some v)
    (h : ∀ u s', Inv X pins σ H s' → RelV v u → Q u s') : wpAny (model X.prog X.w) A (getAttr (.ref a) f b) Q E s := by
  obtain ⟨mA, O, r, _, _, _⟩ := ins_get I.hok e
  obtain ⟨u, hu, ru⟩ := RelO.some_of (v := v) (o := mA f) (by rw [← l]; exact r f)
  exact get_map I.kIn O (c.get f) c.hd n hu (handed_of ru) (h u _ (I.tok _) ru)

theorem getmeth_ok {m : Str} {g : Addr} {pl : Sem Bool} {Q : Value × List Value → Shared → Prop} (I : Inv X pins σ H s) (e : H a = some (.ins C dx fs)) (c : Cls X.K C) (k : Meth X.K C m g) (l : fs.lookup m = none)
    (h : Q (.ref g, [.ref a]) s) : wpAny (model X.prog X.w) A (getMethod (.ref a) m pl) Q E s := by
  obtain ⟨mA, O, r, _, _, _⟩ := ins_get I.hok e
  have hn : mA m = none := RelO.none_of (by rw [← l]; exact r m)
  exact get_meth I.kIn O (c.get m) k.at_ k.fn hn h

theorem setattr_ok {y : V} {u : Value} {Q : Unit → Shared → Prop} (I : Inv X pins σ H s) (e : H a = some (.ins C dx fs)) (c : Cls X.K C) (n : NoAttr X.K C f) (hl : fs.length < 1000) (ry : RelV y u)
    (h : ∀ s', Inv X pins σ (upd H a (.ins C dx (putF f y fs))) s' → Q () s') : wpAny (model X.prog X.w) A (setAttr (.ref a) f u) Q E s := by
  obtain ⟨mA, O, r, wi, _, ho⟩ := ins_get I.hok e
  have hz : (fs.map (·.1)).length ≤ sizeLine := by rw [List.length_map, sizeLine_eq]; omega
  refine set_map I.kIn O c.sa c.po n.taker c.hd wi hz fun h' O' sb => h _ ?_
  have hd : ∃ o, h'.get? dx = some o := let ⟨o, _, _, e', _⟩ := O'.ns; ⟨o, e'⟩
  refine I.write (x := a) (e := dx) (by rw [e]; exact True.intro) (.inr ho) (fun b q hb z => (sb.2 b hb).trans z) hd ?_
  refine ⟨by rw [upd_ne O.ne]; exact ho, ?_, O.ne, O'.obj, _, O'.ns, fun g => ?_, fun g hg => ?_⟩
  · have := length_putF f y fs; omega
  · show RelO ((putF f y fs).lookup g) (if g = f then some u else mA g)
    rw [lookup_putF]
    by_cases q : g = f
    · rw [if_pos q, if_pos q]; exact ry
    · rw [if_neg q, if_neg q]; exact r g
  · by_cases q : g = f
    · rw [q]; exact (keys_putF f y fs).1
    · refine (keys_putF f y fs).2 g (wi g fun z => hg ?_)
      show (if g = f then some u else mA g) = none
      rw [if_neg q]; exact z

/-- a new instance, tracked, without attributes -/
theorem Inv.made (I : Inv X pins σ H s) : Inv X pins σ (upd (upd H s.heap.objs.size (.own (s.heap.objs.size + 1))) (s.heap.objs.size + 1) (.ins C s.heap.objs.size []))
    { s with heap := (s.heap.push PySem.W.emptyDict).push (PySem.W.instObj C s.heap.objs.size) } := by
  have e1 : (s.heap.push PySem.W.emptyDict).get? s.heap.objs.size = some PySem.W.emptyDict := Heap.get?_push_size s.heap rfl
  have e2 : ((s.heap.push PySem.W.emptyDict).push (PySem.W.instObj C s.heap.objs.size)).get? (s.heap.objs.size + 1) = some (PySem.W.instObj C s.heap.objs.size) := by
    have := Heap.get?_push_size (s.heap.push PySem.W.emptyDict) (o := PySem.W.instObj C s.heap.objs.size) rfl
    rwa [Heap.size_push] at this
  have e3 : (s.heap.push PySem.W.emptyDict).Ns s.heap.objs.size (fun _ => none) := ⟨PySem.W.emptyDict, #[], _, e1, rfl, (fun e he => absurd he (by simp)), fun _ => rfl⟩
  have I1 := I.laid (a := s.heap.objs.size) (o := .own (s.heap.objs.size + 1)) (h' := s.heap.push PySem.W.emptyDict) (t' := s.toks) (fun b u q => Heap.get?_push_of_some _ q) (Nat.le_refl _) ⟨_, e1⟩
  refine I1.laid (a := s.heap.objs.size + 1) (o := .ins C s.heap.objs.size []) (t' := s.toks) (fun b u q => Heap.get?_push_of_some _ q) (Nat.le_of_eq (Heap.size_push _ _)) ?_
  have ne : s.heap.objs.size ≠ s.heap.objs.size + 1 := Nat.ne_of_lt (Nat.lt_succ_self _)
  refine ⟨by rw [upd_ne ne, upd_same], Nat.zero_le _, ne, e2, fun _ => none, (Heap.Ns1.of_empty e3).at fun o q => Heap.get?_push_of_some _ q, fun _ => True.intro, fun y hy => absurd rfl hy⟩

/-- e.f where nothing but the object is asked: through attributeBase (super) and the last hold -/
theorem attr_of {prog : Program} {w : World} {env : Env} {e : Expr} {f : Str} {pos : Pos} {s : Shared} {Q : Value → Shared → Prop} (hb : attributeBase e f env (eval e env) = eval e env)
    (h : wpAny (model prog w) A (eval e env) (fun o s₁ => wpAny (model prog w) A (getAttr o f true) Q E s₁) E s) : wpAny (model prog w) A (eval (.Attribute e f pos) env) Q E s :=
  Attribute_any_ h (by rw [arm_eval_Attribute, hb])
end

/-! ### readings and rules -/
/-- e.f, an attribute of the instance -/
noncomputable def tFld (K : PySem.W.Frag) (ta : TE) (f : Str) : TE := fun σ H Q => ta σ H fun x H1 => ∃ a C dx fs v, x = .ref a ∧ H1 a = some (.ins C dx fs) ∧ Cls K C ∧ NoAttr K C f ∧ fs.lookup f = some v ∧ Q v H1
/-- e.f = value -/
noncomputable def sFld (K : PySem.W.Frag) (ta tv : TE) (f : Str) : TS := fun D σ H => tv σ H fun y H1 => ta σ H1 fun x H2 => ∃ a C dx fs, x = .ref a ∧ H2 a = some (.ins C dx fs) ∧ Cls K C ∧ NoAttr K C f ∧ fs.length < 1000 ∧
  D.nx σ (upd H2 a (.ins C dx (putF f y fs)))
section
variable {X : Cx} {o e value : Expr} {f : Str} {pos pos' tpos : Pos} {ta tv : TE}
theorem pe_fld (he : PE X e ta) (hb : attributeBase e f X.env (eval e X.env) = eval e X.env) : PE X (.Attribute e f pos) (tFld X.K ta f) := by
  intro pins s σ H Q I h
  refine attr_of hb (thn (he pins s σ H _ I h) fun u s1 hh9 => ?_)
  obtain ⟨x, H1, I1, rx, a, C, dx, fs, v, ex, ea, c, n, l, q⟩ := hh9
  subst ex
  obtain rfl : u = Value.ref a := rx
  exact getattr_ok I1 ea c n l fun u' s2 I2 ru => ⟨v, H1, I2, ru, q⟩
theorem ps_fld (ha : PE X o ta) (hv : PE X value tv) (hs : swapsWith value (some (.Attribute o f pos')) pos.line X.env = pure false) : PS X (.Assign [.Attribute o f pos'] value pos) (sFld X.K ta tv f) := by
  intro pins s σ H D I h
  refine plainObj_wpAny_Assign_Attribute (thn (hv pins s σ H _ I h) fun u s1 ⟨y, H1, I1, ry, q⟩ => thn (ha pins s1 σ H1 _ I1 q) fun ov s2 hh9 => ?_) hs
  obtain ⟨x, H2, I2, rx, a, C, dx, fs, ex, ea, c, n, l, q2⟩ := hh9
  subst ex
  obtain rfl : ov = Value.ref a := rx
  exact setattr_ok I2 ea c n l ry fun s3 I3 => ⟨σ, _, I3, q2⟩
end

/-! ### isinstance -/
section
variable {X : Cx} {pins : List (Addr × Obj)} {σ : St} {H : Hp} {s : Shared} {A : Around} {E : Value → Shared → Prop} {Q : Value → Shared → Prop} {c : Value} {b : Bool}
/-- the type of a value, as the fragment's deciders take it; for an instance its class -/
inductive TyOf (K : PySem.W.Frag) (H : Hp) : V → Value → Prop where
  | non : TyOf K H .non (.type "NoneType")
  | bl (x : Bool) : TyOf K H (.bl x) (.type "bool")
  | int (i : Int) : TyOf K H (.int i) (.type "int")
  | str (x : Str) : TyOf K H (.str x) (.type "str")
  | flt (x : UInt64) : TyOf K H (.flt x) (.type "float")
  | lst {a : Addr} {xs : List V} (e : H a = some (.lst xs)) : TyOf K H (.ref a) (.type "list")
  | frz {a : Addr} {o : Obj} {xs : List V} (e : H a = some (.frz o (.lst xs))) : TyOf K H (.ref a) (.type "list")
  | tup {a : Addr} {xs : List V} (e : H a = some (.tup xs)) : TyOf K H (.ref a) (.type "tuple")
  | dK {a : Addr} {kvs : List (Key × V)} (e : H a = some (.dK kvs)) : TyOf K H (.ref a) (.type "dict")
  | dT {a : Addr} {kvs : List (List Key × V)} (e : H a = some (.dT kvs)) : TyOf K H (.ref a) (.type "dict")
  | ins {a C dx : Addr} {fs : List (Str × V)} (e : H a = some (.ins C dx fs)) (cl : Cls K C) (ha : PySem.W.findIn K (.ref C) "__class__" = some (some (.builtin "object.__class__")))
      (hn : PySem.W.specialIn K (.builtin "object.__class__") "__get__" = some (some (.builtin "getset_descriptor.__get__"))) (htk : PySem.W.takesIn K (.builtin "object.__class__") = some true)
      (hm : PySem.W.mroIn K C (.type "object") = some true) : TyOf K H (.ref a) (.ref C)
/-- isinstance(x, c) for one class c, a built-in or an own one: kitOne's answer -/
theorem isinst_ok {x : V} {u t : Value} (I : Inv X pins σ H s) (rx : RelV x u) (ty : TyOf X.K H x t) (e : PySem.W.kitOne X.K t c = some b) (h : ∀ tk, Q (.bool b) { s with toks := tk }) :
    wpAny (model X.prog X.w) A (call (.builtin "isinstance") [u, c]) Q E s := by
  cases ty with
  | non => cases (show u = Value.none from rx); exact PySem.W.kia_one PySem.W.kitx_none I.kIn True.intro e (fun z => nomatch z) h
  | bl y => cases (show u = Value.bool y from rx); exact PySem.W.kia_one PySem.W.kitx_bool I.kIn True.intro e (fun z => nomatch z) h
  | int i => obtain ⟨t, q⟩ := (show ∃ t, u = Value.int i t from rx); cases q; exact PySem.W.kia_one PySem.W.kitx_int I.kIn True.intro e (fun z => nomatch z) h
  | str y => obtain ⟨t, q⟩ := (show ∃ t, u = Value.str y t from rx); cases q; exact PySem.W.kia_one PySem.W.kitx_str I.kIn True.intro e (fun z => nomatch z) h
  | flt y => obtain ⟨t, q⟩ := (show ∃ t, u = Value.float y t from rx); cases q; exact PySem.W.kia_one PySem.W.kitx_float I.kIn True.intro e (fun z => nomatch z) h
  | @lst a xs ea =>
    cases (show u = Value.ref a from rx)
    obtain ⟨_, _, n, _, h1⟩ := (show ObjOk X.prog X.w H s.heap a (.lst xs) from I.hok a _ ea)
    exact PySem.W.kia_one PySem.W.kitx_list I.kIn ⟨_, h1, rfl⟩ e (fun z => nomatch z) h
  | @frz a ob xs ea =>
    cases (show u = Value.ref a from rx)
    obtain ⟨_, _, _, n, _, h1⟩ := (show ObjOk X.prog X.w H s.heap a (.frz ob (.lst xs)) from I.hok a _ ea)
    exact PySem.W.kia_one PySem.W.kitx_list I.kIn ⟨_, h1, rfl⟩ e (fun z => nomatch z) h
  | @tup a xs ea =>
    cases (show u = Value.ref a from rx)
    obtain ⟨_, _, _, p⟩ := (show ObjOk X.prog X.w H s.heap a (.tup xs) from I.hok a _ ea)
    obtain ⟨o, h1, h2, _⟩ := p
    exact PySem.W.kia_one PySem.W.kitx_tuple I.kIn ⟨o, h1, h2⟩ e (fun z => nomatch z) h
  | @dK a kvs ea =>
    cases (show u = Value.ref a from rx)
    obtain ⟨_, _, vs, _, p⟩ := (show ObjOk X.prog X.w H s.heap a (.dK kvs) from I.hok a _ ea)
    obtain ⟨o, es, ep, h1, h2, _⟩ := p
    exact PySem.W.kia_one PySem.W.kitx_dict I.kIn ⟨o, h1, h2.1⟩ e (fun z => nomatch z) h
  | @dT a kvs ea =>
    cases (show u = Value.ref a from rx)
    obtain ⟨_, _, xs, _, o, es, ep, h1, h2, _⟩ := (show ObjOk X.prog X.w H s.heap a (.dT kvs) from I.hok a _ ea)
    exact PySem.W.kia_one PySem.W.kitx_dict I.kIn ⟨o, h1, h2.1⟩ e (fun z => nomatch z) h
  | @ins a C dx fs ea cl ha hn htk hm =>
    cases (show u = Value.ref a from rx)
    obtain ⟨mA, O, _⟩ := ins_get I.hok ea
    obtain ⟨od, J, _⟩ := O.look
    exact PySem.W.kia_one (PySem.W.kitx_own (cl.get _) cl.hd ha hn htk hm) I.kIn J e (fun z => nomatch z) h
end
end L2

namespace L2
open PySem PySem.Spec PyProof.Rows

/-! ### room -/
structure Room (k : Nat) (A : Around) : Prop where
  hd : A.handled = none
  dp : A.depth + 3 * k + 5 < recursionLimit
  un : A.units + 16 * k + 200 < cLine
theorem Room.mono {j k : Nat} {A : Around} (r : Room k A) (h : j ≤ k) : Room j A := ⟨r.hd, by have := r.dp; omega, by have := r.un; omega⟩
theorem Room.deeper {k : Nat} {A : Around} (r : Room (k + 1) A) (env : Env) : Room k (A.deeper env) :=
  ⟨r.hd, by have := r.dp; show A.depth + 1 + 3 * k + 5 < _; omega, by have := r.un; show A.units + 3 + 16 * k + 200 < _; omega⟩
theorem make_depth {A : Around} {C : Addr} {us : List Value} {kw : List (Str × Value)} : (A.under (.builtin "type.__call__" ⟨.ref C :: us, kw⟩)).depth = A.depth + 1 := by
  first | rfl | simp [Around.under, Code.weight, Code.isCreation, Code.isGuard, Code.isCaller, Code.frames, Code.isFrame, guardIds]
theorem make_units {A : Around} {C : Addr} {us : List Value} {kw : List (Str × Value)} : (A.under (.builtin "type.__call__" ⟨.ref C :: us, kw⟩)).units = A.units + 1 := by
  first | rfl | simp [Around.under, Code.cUnits, Code.frames, Code.isFrame]
theorem Room.make {k : Nat} {A : Around} (r : Room (k + 1) A) (C : Addr) (us : List Value) (kw : List (Str × Value)) : Room k (A.under (.builtin "type.__call__" ⟨.ref C :: us, kw⟩)) :=
  ⟨r.hd, by have := r.dp; rw [make_depth]; omega, by have := r.un; rw [make_units]; omega⟩
theorem Room.depth {k : Nat} {A : Around} (r : Room k A) : A.depth < recursionLimit := by have := r.dp; omega
theorem Room.units {k : Nat} {A : Around} (r : Room k A) : A.units + 64 < cLine := by have := r.un; omega
theorem Room.units0 {k : Nat} {A : Around} (r : Room k A) : A.units < cLine := by have := r.un; omega

/-! ### argument lists and displays -/
noncomputable def tNil : TA := fun _ H Q => Q [] H
noncomputable def tCons (ta : TE) (tr : TA) : TA := fun σ H Q => ta σ H fun x H1 => tr σ H1 fun xs H2 => Q (x :: xs) H2
section
variable {X : Cx} {e : Expr} {es : List Expr} {te : TE} {t : TA} {pos : Pos}
theorem pa_nil : PA X [] tNil := fun _ _ _ _ H Q I h => Calls.spliced_nil ⟨[], H, I, .nil, h⟩
theorem pa_cons (ha : PE X e te) (hr : PA X es t) (hs : starEach (e :: es) X.env = (false, eval e X.env) :: starEach es X.env := by rfl) : PA X (e :: es) (tCons te t) := by
  intro pos pins s σ H Q I h
  rw [hs]
  show wpAny _ _ (spliced ((false, eval e X.env) :: backTo pos (starEach es X.env))) _ _ s
  refine Calls.spliced_cons (thn (ha pins s σ H _ I h) fun u s1 hh9 => ?_)
  obtain ⟨x, H1, I1, r1, q1⟩ := hh9
  exact thn (hr pos pins s1 σ H1 _ I1 q1) fun us s2 ⟨xs, H2, I2, r2, q2⟩ => ⟨x :: xs, H2, I2, .cons r1 r2, q2⟩

/-- a tuple, a list of written items -/
noncomputable def tTup (t : TA) : TE := fun σ H Q => t σ H fun xs H1 => xs.length ≤ sizeLine ∧ ∀ p, H1 p = none → Q (.ref p) (upd H1 p (.tup xs))
noncomputable def tLst (t : TA) : TE := fun σ H Q => t σ H fun xs H1 => xs.length ≤ sizeLine ∧ ∀ p, H1 p = none → Q (.ref p) (upd H1 p (.lst xs))
theorem pe_tup {x1} (h : PA X es t) : PE X (.Tuple es x1 pos) (tTup t) := by
  intro pins s σ H Q I hq
  refine wpAny_Tuple_spliced (thn (h pos pins s σ H _ I hq) fun us s1 ⟨xs, H1, I1, r, z, q⟩ => ⟨by rw [← r.length]; exact z, ?_⟩)
  have hf : H1 s1.heap.objs.size = none := I1.hok.fresh (Nat.le_refl _)
  refine ⟨.ref s1.heap.objs.size, upd H1 s1.heap.objs.size (.tup xs), I1.laid (t' := s1.toks) (fun b u e => Heap.get?_push_of_some _ e) (Nat.le_refl _) ?_, rfl, q _ hf⟩
  exact ⟨z, us, r, ⟨_, Heap.get?_push_size _ rfl, rfl, _, rfl⟩⟩
theorem pe_lst (h : PA X es t) : PE X (.List es pos) (tLst t) := by
  intro pins s σ H Q I hq
  refine wpAny_List_spliced (thn (h pos pins s σ H _ I hq) fun us s1 ⟨xs, H1, I1, r, z, q⟩ => ⟨by rw [← r.length]; exact z, ?_⟩)
  have hf : H1 s1.heap.objs.size = none := I1.hok.fresh (Nat.le_refl _)
  refine ⟨.ref s1.heap.objs.size, upd H1 s1.heap.objs.size (.lst xs), I1.laid (t' := s1.toks) (fun b u e => Heap.get?_push_of_some _ e) (Nat.le_refl _) ?_, rfl, q _ hf⟩
  exact ⟨z, us, 0, r, Heap.get?_push_size _ rfl⟩
end

/-! ### what a def promises -/
/-- a def's promise: the bound arguments in the parameters' order, the heap, the wanted end, the wanted exception -/
noncomputable abbrev Sp := List V → Hp → VK → XK → Prop
/-- how an exception lies behind a call (file 08 gives it): the callers' frames, abstract heap and state ahead of the call, the wish, the exception, the state -/
noncomputable abbrev CXT := List Env → Hp → Shared → XK → Value → Shared → Prop

/-- the state at a call -/
structure Env0 (P : Program) (w : World) (K : PySem.W.Frag) (mg : Str → Option Value) (base : Heap) (A : Around) (outer : List Env) (s : Shared) (H : Hp) : Prop where
  frames : A.frames = some outer
  mod : Mod K mg base
  bs : ∀ b o, base.get? b = some o → s.heap.get? b = some o ∧ H b = none
  bsz : base.objs.size ≤ s.heap.objs.size
  funs : s.heap.FunFrames base outer
  frf : ∀ b ∈ frs outer, H b = none
  hok : HOk P w H s.heap
  bare : AllBare s.gens
/-- a call's end -/
noncomputable def CE (outer : List Env) (P : Program) (w : World) (H : Hp) (s : Shared) (Q : VK) (u : Value) (s' : Shared) : Prop :=
  ∃ v H', s'.os = s.os ∧ AllBare s'.gens ∧ Un (frs outer) [] H H' s.heap s'.heap ∧ HOk P w H' s'.heap ∧ RelV v u ∧ Q v H'
noncomputable def CR (CX : CXT) (outer : List Env) (P : Program) (w : World) (H : Hp) (s : Shared) (Q : VK) (E : XK) (r : Result) (s' : Shared) : Prop :=
  match r with
  | .ok (.ret u) => CE outer P w H s Q u s'
  | .ok _ => False
  | .error e => CX outer H s E e s'
structure FnOk (P : Program) (w : World) (K : PySem.W.Frag) (mg : Str → Option Value) (base : Heap) (CX : CXT) (k : Nat) (f : Addr) (fd : FuncData) (ps : List Str) (sp : Sp) : Prop where
  len : ∀ vs H Q E, sp vs H Q E → vs.length = ps.length
  run : ∀ (A : Around) (outer : List Env) (s : Shared) (H : Hp) (args : Args) (us : List Value) (vs : List V) (Q : VK) (E : XK), Room k A → Env0 P w K mg base A outer s H → BindsTo s fd args (ps.zip us) → Vals vs us → sp vs H Q E →
    codeAny (model P w) A (.call (.ref f) args) (CR CX outer P w H s Q E) s
theorem Env0.make {P : Program} {w : World} {K : PySem.W.Frag} {mg : Str → Option Value} {base : Heap} {A : Around} {outer : List Env} {s : Shared} {H : Hp} (e : Env0 P w K mg base A outer s H) (C : Addr) (us : List Value) (kw : List (Str × Value)) :
    Env0 P w K mg base (A.under (.builtin "type.__call__" ⟨.ref C :: us, kw⟩)) outer s H := ⟨by first | exact e.frames | (simpa [Around.under, Code.envs, Code.isFrame, pushEnvs] using e.frames), e.mod, e.bs, e.bsz, e.funs, e.frf, e.hok, e.bare⟩
section
variable {X : Cx} {pins : List (Addr × Obj)} {σ : St} {H : Hp} {s s' : Shared}
/-- from a body: what a callee wants -/
theorem Inv.env0 (I : Inv X pins σ H s) : Env0 X.prog X.w X.K X.mg X.base X.A X.stack s H :=
  ⟨I.ok.frames, I.ok.mod, I.bs, Nat.le_trans I.ok.bsz I.sz, I.stack, I.stkFree, I.hok, I.bare⟩
/-- behind a call -/
theorem Inv.after {Q : VK} {u : Value} (I : Inv X pins σ H s) (h : CE X.stack X.prog X.w H s Q u s') : EP X pins σ Q u s' := by
  obtain ⟨v, H', os, bare, un, hok, r, q⟩ := h
  obtain ⟨hh, g, d, t, os'⟩ := s'
  obtain rfl : os' = s.os := os
  exact ⟨v, H', I.call (h' := hh) (g' := g) (d' := d) (t' := t) (ch := []) un hok bare (fun b z => absurd z (by simp)), r, q⟩
end

/-! ### calls -/
/-- f(..): the written arguments, then the defaults dvs; E: what is wanted of an exception -/
noncomputable def tCall (sp : Sp) (dvs : List V) (E : XK) (t : TA) : TE := fun σ H Q => t σ H fun vs H1 => sp (vs ++ dvs) H1 Q E
/-- o.m(..) of an instance of the class at C -/
noncomputable def tMeth (C : Addr) (m : Str) (sp : Sp) (dvs : List V) (E : XK) (ta : TE) (t : TA) : TE := fun σ H Q => ta σ H fun x H1 => ∃ a dx fs, x = .ref a ∧ H1 a = some (.ins C dx fs) ∧ fs.lookup m = none ∧
  t σ H1 fun vs H2 => sp (x :: (vs ++ dvs)) H2 Q E
/-- C(..): a new instance and its dict, then __init__ -/
noncomputable def tMake (C : Addr) (sp : Sp) (dvs : List V) (E : XK) (t : TA) : TE := fun σ H Q => t σ H fun vs H1 => ∀ x dx, H1 x = none → H1 dx = none → dx ≠ x →
  sp (.ref x :: (vs ++ dvs)) (upd (upd H1 dx (.own x)) x (.ins C dx [])) (fun v H2 => v = .non ∧ Q (.ref x) H2) E

/-- how the parameters are bound: us the positional arguments, kw the keywords' values by name, ds the defaults that fill up -/
noncomputable def Binds (K : PySem.W.Frag) (fd : FuncData) (ps : List Str) (ds : List Value) : Prop :=
  ∀ (s : Shared) (us : List Value), K.In s.heap → (us ++ ds).length = ps.length → BindsTo s fd ⟨us, []⟩ (ps.zip (us ++ ds))
/-- every parameter is given -/
theorem Binds.all {K : PySem.W.Frag} {fd : FuncData} {ps : List Str} (h : ∀ us : List Value, us.length = ps.length → bindArgs fd ⟨us, []⟩ = pure (ps.zip us)) : Binds K fd ps [] := fun s us _ hl => by
  rw [List.append_nil] at hl ⊢
  exact .of_eq (h us hl)

/-- an exception of a callee reaches what this body wants of exceptions -/
noncomputable def Passes (CX : CXT) (X : Cx) (E : XK) : Prop := ∀ (pins : List (Addr × Obj)) (σ : St) (H : Hp) (s : Shared) (e : Value) (s' : Shared), Inv X pins σ H s → CX X.stack H s E e s' → X.xe e s'

section
variable {X : Cx} {CX : CXT} {k : Nat} {f C : Addr} {fd : FuncData} {ps : List Str} {sp : Sp} {dvs : List V} {ds : List Value} {E : XK} {x m : Str} {p pos apos : Pos} {e o : Expr} {es : List Expr} {ta : TE} {t : TA}

/-- the callee runs -/
theorem run_fn {pins : List (Addr × Obj)} {σ : St} {H : Hp} {s : Shared} {Q : VK} {us : List Value} {vs : List V} (F : FnOk X.prog X.w X.K X.mg X.base CX k f fd ps sp) (hr : Room k X.A) (hb : Binds X.K fd ps ds) (hd : Vals dvs ds) (hx : Passes CX X E)
    (I : Inv X pins σ H s) (r : Vals vs us) (h : sp (vs ++ dvs) H Q E) : wpAny (model X.prog X.w) X.A (call (.ref f) us) (EP X pins σ Q) X.xe s := by
  have r2 : Vals (vs ++ dvs) (us ++ ds) := r.append hd
  have hl : (us ++ ds).length = ps.length := by rw [← r2.length]; exact F.len _ _ _ _ h
  refine wpAny_call (codeAny_mono (F.run X.A X.stack s H ⟨us, []⟩ (us ++ ds) (vs ++ dvs) Q E hr I.env0 (hb s us I.kIn hl) r2 h) fun r s' hq => ?_)
  cases r with
  | error e => exact hx pins σ H s e s' I hq
  | ok fl =>
    cases fl with
    | ret u => exact I.after hq
    | next => exact False.elim hq
    | brk => exact False.elim hq
    | cont => exact False.elim hq

theorem pe_call (F : FnOk X.prog X.w X.K X.mg X.base CX k f fd ps sp) (hr : Room k X.A) (hg : Gl X x) (hm : X.mg x = some (.ref f)) (hk : PySem.W.keepIn X.K (.ref f) = true) (hb : Binds X.K fd ps ds) (hd : Vals dvs ds) (hx : Passes CX X E)
    (ha : PA X (e :: es) t) (hdb : (x == ("__debug__" : Str)) = false := by decide) (he : starEach (e :: es) X.env = (false, eval e X.env) :: starEach es X.env := by rfl) (hpl : (backTo pos (starEach es X.env)).any (·.1) = false := by rfl) :
    PE X (.Call (.Name x p) (e :: es) [] pos) (tCall sp dvs E t) := by
  intro pins s σ H Q I h
  refine wpAny_Call_Name_kw (ld_glob I hg hm ?_ hdb)
  refine PySem.W.callWith_K (h₀ := X.base) I.ok.mod.kin hk (thn (ha pos pins s σ H _ I h) fun us s1 ⟨vs, H1, I1, r, q⟩ => ⟨I1.kIn, ?_⟩) he hpl
  exact run_fn F hr hb hd hx I1 r q
/-- o.m() -/
theorem pe_meth0 {pl : Sem Bool} (he : PE X o ta) (c : Cls X.K C) (hm : Meth X.K C m f) (F : FnOk X.prog X.w X.K X.mg X.base CX k f fd ps sp) (hr : Room k X.A) (hb : Binds X.K fd ps ds) (hd : Vals dvs ds) (hx : Passes CX X E)
    (ht : eval (.Call (.Attribute o m apos) [] [] pos) X.env = (do
      let ov ← eval o X.env
      standAt apos.atName
      let (f, first) ← holding [ov] (getMethod ov m pl)
      callWith pos f first (backTo pos (starEach [] X.env)) (backToKw pos (keywordEach [] X.env))) := by rfl) :
    PE X (.Call (.Attribute o m apos) [] [] pos) (tMeth C m sp dvs E ta tNil) := by
  intro pins s σ H Q I h
  refine PySem.W.methodCall_KW (pl := pl) (thn (he pins s σ H _ I h) fun u s1 hh9 => ?_) ht
  obtain ⟨x, H1, I1, rx, a, dx, fs, ex, ea, l, q⟩ := hh9
  subst ex
  obtain rfl : u = Value.ref a := rx
  refine getmeth_ok I1 ea c hm l ?_
  exact PySem.W.callWith_K0 (first := [.ref a]) I1.kIn hm.kp (run_fn (us := [.ref a]) (vs := [.ref a]) F hr hb hd hx I1 (.cons rfl .nil) q)

/-- what a class must have to be made -/
structure Mk (K : PySem.W.Frag) (C f : Addr) : Prop where
  makes : PySem.W.makesIn K C = true
  init : PySem.W.findIn K (.ref C) "__init__" = some (some (.ref f))
  fn : PySem.W.isFn K (.ref f) = true
  kp : PySem.W.keepIn K (.ref C) = true

theorem run_make {pins : List (Addr × Obj)} {σ : St} {H : Hp} {s : Shared} {Q : VK} {us : List Value} {vs : List V} (M : Mk X.K C f) (F : FnOk X.prog X.w X.K X.mg X.base CX k f fd ps sp) (hr : Room (k + 1) X.A) (hb : Binds X.K fd ps ds) (hd : Vals dvs ds)
    (hx : Passes CX X E) (I : Inv X pins σ H s) (r : Vals vs us)
    (h : ∀ x dx, H x = none → H dx = none → dx ≠ x → sp (.ref x :: (vs ++ dvs)) (upd (upd H dx (.own x)) x (.ins C dx [])) (fun v H2 => v = .non ∧ Q (.ref x) H2) E) :
    wpAny (model X.prog X.w) X.A (call (.ref C) us) (EP X pins σ Q) X.xe s := by
  have hq := h (s.heap.objs.size + 1) s.heap.objs.size (I.hok.fresh (Nat.le_succ _)) (I.hok.fresh (Nat.le_refl _)) (Nat.ne_of_lt (Nat.lt_succ_self _))
  have I2 := Inv.made (C := C) I
  have r2 : Vals (V.ref (s.heap.objs.size + 1) :: (vs ++ dvs)) (Value.ref (s.heap.objs.size + 1) :: (us ++ ds)) := .cons rfl (r.append hd)
  have hl : (Value.ref (s.heap.objs.size + 1) :: us ++ ds).length = ps.length := by
    have e := r2.length
    rw [F.len _ _ _ _ hq] at e
    exact e.symm
  refine wpAny_call (make_map (f := f) I.kIn M.makes M.init (beq_iff_eq.mp M.fn) (codeAny_mono (F.run _ X.stack _ _ ⟨Value.ref (s.heap.objs.size + 1) :: us, []⟩ (Value.ref (s.heap.objs.size + 1) :: (us ++ ds)) _ _ E (hr.make C us [])
    (I2.env0.make C us []) (hb _ (Value.ref (s.heap.objs.size + 1) :: us) I2.kIn hl) r2 hq) fun r s' hq' => ?_))
  cases r with
  | error e => exact hx pins σ _ _ e s' I2 hq'
  | ok fl =>
    cases fl with
    | ret u =>
      obtain ⟨v, H', I3, rv, ev, q3⟩ := I2.after hq'
      subst ev
      exact ⟨rv, ⟨V.ref (s.heap.objs.size + 1), H', I3, rfl, q3⟩⟩
    | next => exact False.elim hq'
    | brk => exact False.elim hq'
    | cont => exact False.elim hq'
theorem pe_make (M : Mk X.K C f) (F : FnOk X.prog X.w X.K X.mg X.base CX k f fd ps sp) (hr : Room (k + 1) X.A) (hg : Gl X x) (hm : X.mg x = some (.ref C)) (hb : Binds X.K fd ps ds) (hd : Vals dvs ds) (hx : Passes CX X E)
    (ha : PA X (e :: es) t) (hdb : (x == ("__debug__" : Str)) = false := by decide) (he : starEach (e :: es) X.env = (false, eval e X.env) :: starEach es X.env := by rfl) (hpl : (backTo pos (starEach es X.env)).any (·.1) = false := by rfl) :
    PE X (.Call (.Name x p) (e :: es) [] pos) (tMake C sp dvs E t) := by
  intro pins s σ H Q I h
  refine wpAny_Call_Name_kw (ld_glob I hg hm ?_ hdb)
  refine PySem.W.callWith_K (h₀ := X.base) I.ok.mod.kin M.kp (thn (ha pos pins s σ H _ I h) fun us s1 ⟨vs, H1, I1, r, q⟩ => ⟨I1.kIn, ?_⟩) he hpl
  exact run_make M F hr hb hd hx I1 r q
end

/-! ### keywords -/
section
variable {X : Cx} {CX : CXT} {k : Nat} {f C : Addr} {fd : FuncData} {ps ks : List Str} {sp : Sp} {E : XK} {x m : Str} {p pos apos kpos : Pos} {e o : Expr} {es : List Expr} {kws : List Keyword} {te ta : TE} {t tk : TA} {nm : Option Str}
variable {g : List Value → List Value → List Value} {gV : List V → List V → List V}
end

/-! ### a def's body keeps its promise -/
/-- names: the parameters first -/
structure FnScope (N P : List Str) (sc : Scope) : Prop where
  kind : sc.kind = .function
  co : sc.isCoroutine = false
  gen : sc.isGenerator = false
  nd : N.Nodup
  pre : N.take P.length = P
  par : ∀ x ∈ P, sc.names.lookup x = some .local ∨ sc.names.lookup x = some .cell
  nofree : ∀ y ∈ sc.names, y.2 ≠ .free

theorem bindL_out {kindOf : Str → Option NameKind} {x : Str} : ∀ {binds : List (Str × Value)} {m : Str → Option Value}, (∀ v, (x, v) ∉ binds) → bindL kindOf binds m x = m x
  | [], _, _ => rfl
  | (n, v) :: r, m, h => by
    unfold bindL
    rw [bindL_out fun w hw => h w (List.mem_cons_of_mem _ hw)]
    split
    · have : x ≠ n := by rintro rfl; exact h v List.mem_cons_self
      simp [this]
    · rfl
theorem bindC_out {kindOf : Str → Option NameKind} {x : Str} : ∀ {binds : List (Str × Value)} {m : Str → Option Value}, (∀ v, (x, v) ∉ binds) → bindC kindOf binds m x = m x
  | [], _, _ => rfl
  | (n, v) :: r, m, h => by
    unfold bindC
    rw [bindC_out fun w hw => h w (List.mem_cons_of_mem _ hw)]
    split
    · rfl
    · have : x ≠ n := by rintro rfl; exact h v List.mem_cons_self
      simp [this]
theorem bindL_get {kindOf : Str → Option NameKind} {x : Str} {v : Value} : ∀ {P : List Str} {vs : List Value} {i : Nat} {m : Str → Option Value}, P.Nodup → P[i]? = some x → vs[i]? = some v → kindOf x = some .local →
    bindL kindOf (P.zip vs) m x = some v
  | [], _, _, _, _, h, _, _ => by simp at h
  | _ :: _, [], _, _, _, _, h, _ => by simp at h
  | p :: P, w :: vs, 0, m, nd, h1, h2, hk => by
    simp at h1 h2; subst h1; subst h2
    show bindL kindOf ((p, w) :: P.zip vs) m p = _
    unfold bindL
    rw [bindL_out fun v hv => (List.nodup_cons.mp nd).1 (List.of_mem_zip hv).1, if_pos hk]
    simp
  | p :: P, w :: vs, i + 1, m, nd, h1, h2, hk => by
    show bindL kindOf ((p, w) :: P.zip vs) m x = _
    unfold bindL
    exact bindL_get (i := i) (List.nodup_cons.mp nd).2 (by simpa using h1) (by simpa using h2) hk
theorem bindC_get {kindOf : Str → Option NameKind} {x : Str} {v : Value} : ∀ {P : List Str} {vs : List Value} {i : Nat} {m : Str → Option Value}, P.Nodup → P[i]? = some x → vs[i]? = some v → kindOf x ≠ some .local →
    bindC kindOf (P.zip vs) m x = some v
  | [], _, _, _, _, h, _, _ => by simp at h
  | _ :: _, [], _, _, _, _, h, _ => by simp at h
  | p :: P, w :: vs, 0, m, nd, h1, h2, hk => by
    simp at h1 h2; subst h1; subst h2
    show bindC kindOf ((p, w) :: P.zip vs) m p = _
    unfold bindC
    rw [bindC_out fun v hv => (List.nodup_cons.mp nd).1 (List.of_mem_zip hv).1, if_neg hk]
    simp
  | p :: P, w :: vs, i + 1, m, nd, h1, h2, hk => by
    show bindC kindOf ((p, w) :: P.zip vs) m x = _
    unfold bindC
    exact bindC_get (i := i) (List.nodup_cons.mp nd).2 (by simpa using h1) (by simpa using h2) hk

/-- the names' values at the entry -/
noncomputable def start (N : List Str) (vs : List V) : St := vs.map some ++ List.replicate (N.length - vs.length) none

/-- the context of a def's body, at its entry; an exception leaves the frame, then lies as CX says -/
noncomputable def cxOf (CX : CXT) (P : Program) (w : World) (K : PySem.W.Frag) (mg : Str → Option Value) (base : Heap) (N : List Str) (qual : Str) (scope : Scope) (f : Addr) (cd : Value) (A : Around) (outer : List Env) (s : Shared) (H : Hp) (E : XK) : Cx where
  prog := P
  w := w
  K := K
  mg := mg
  base := base
  A := A.deeper (envOfC qual scope s.heap.objs.size f cd)
  N := N
  s₀ := s
  H₀ := H
  env := envOfC qual scope s.heap.objs.size f cd
  outer := outer
  stack := envOfC qual scope s.heap.objs.size f cd :: outer
  ex := []
  calm := true
  fn := fun _ => true
  pn := []
  xe := fun e s' => wpAny (model P w) (A.deeper (envOfC qual scope s.heap.objs.size f cd)) (leaving (envOfC qual scope s.heap.objs.size f cd) e) (fun _ s'' => CX outer H s E e s'') (fun e' s'' => CX outer H s E e' s'') s'

theorem cell_has {sc : Scope} {n : Nat} {x : Str} (h : sc.names.lookup x = some .cell) : ∃ c, (cellsFrom n sc.names []).lookup x = some c := by
  have q := PySem.W.cellsFrom_some sc.names n [] (.inl h)
  exact Option.isSome_iff_exists.mp q

theorem inv_start {CX : CXT} {P : Program} {w : World} {K : PySem.W.Frag} {mg : Str → Option Value} {base : Heap} {N ps : List Str} {qual : Str} {scope : Scope} {f : Addr} {cd : Value} {A : Around} {outer : List Env} {s s1 : Shared} {H : Hp} {E : XK} {us : List Value} {vs : List V}
    (S : FnScope N ps scope) (hd : A.handled = none) (e0 : Env0 P w K mg base A outer s H) (hl : vs.length = ps.length) (r : Vals vs us)
    (x : InCallC s s.heap.objs.size (bindL (envOfC qual scope s.heap.objs.size f cd).kindOf (ps.zip us) fun _ => none) (cellsFrom (s.heap.objs.size + 1) scope.names []) (bindC (envOfC qual scope s.heap.objs.size f cd).kindOf (ps.zip us) fun _ => none) s1) :
    Inv (cxOf CX P w K mg base N qual scope f cd A outer s H E) [] (start N vs) H s1 := by
  have hpl : ps.length ≤ N.length := by have := congrArg List.length S.pre; rw [List.length_take] at this; omega
  obtain ⟨h1, tk, rfl, hk⟩ := x.done
  have noA : ∀ b : Addr, b ∉ (cxOf CX P w K mg base N qual scope f cd A outer s H E).ex := fun b z => absurd (show b ∈ ([] : List Addr) from z) (by simp)
  refine ⟨⟨e0.mod, S.kind, rfl, rfl, Nat.le_refl _, fun y z c h1 h2 => ?_, fun y hy => ?_, fun y c _ h => ?_, fun _ => hd, Around.frames_deeper e0.frames, .inr ⟨rfl, rfl⟩, fun b z => absurd z (noA b), e0.bs, e0.bsz, fun b _ _ => noA b, fun b z => absurd z (noA b), e0.funs, e0.frf⟩,
    rfl, e0.bare, Un.kept hk, ⟨_, x.toInCall.ns, fun i y v h1 h2 h3 => ?_⟩, fun y c h => ⟨_, x.cell y c h⟩, e0.hok.fresh (Nat.le_refl _), fun y c h => ?_, fun p hp => absurd (show p ∈ ([] : List (Addr × Obj)) from hp) (by simp), e0.hok.kept hk, ?_⟩
  · exact name_of_addr x.apart (PySem.mem_of_lookup h1) (PySem.mem_of_lookup h2)
  · have hy : scope.names.lookup y = some .cell ∨ scope.names.lookup y = some .free := hy
    rcases hy with hy | hy
    · exact cell_has hy
    · exact absurd rfl (S.nofree _ (PySem.mem_of_lookup hy))
  · exact Nat.le_of_lt (x.above y c (PySem.mem_of_lookup h))
  · have hi : i < vs.length := by
      unfold start at h2
      by_cases hi : i < vs.length
      · exact hi
      · rw [List.getElem?_append_right (by simpa using hi)] at h2
        rw [List.getElem?_replicate] at h2
        split at h2 <;> cases h2
    have ha : vs[i]? = some v := by
      unfold start at h2
      rw [List.getElem?_append_left (by simpa using hi), List.getElem?_map] at h2
      cases e : vs[i]? with
      | none => rw [e] at h2; cases h2
      | some a => rw [e] at h2; cases h2; rfl
    obtain ⟨u, hu, rv⟩ := r.get ha
    have hp : ps[i]? = some y := by
      rw [← S.pre, List.getElem?_take_of_lt (by omega)]; exact h1
    have ndP : ps.Nodup := by rw [← S.pre]; exact S.nd.sublist (List.take_sublist _ _)
    refine ⟨u, rv, ?_⟩
    rcases S.par y (List.mem_of_getElem? hp) with k | k
    · exact .inl ⟨k, bindL_get ndP hp hu k⟩
    · obtain ⟨c, e⟩ := cell_has (n := s.heap.objs.size + 1) k
      refine .inr ⟨.inl k, c, e, ?_⟩
      have q := x.cell y c e
      rw [bindC_get ndP hp hu (by show scope.names.lookup y ≠ _; rw [k]; decide)] at q
      exact q
  · exact e0.hok.fresh (Nat.le_of_lt (x.above y c (PySem.mem_of_lookup h)))
  · unfold start
    show _ = N.length
    rw [List.length_append, List.length_map, List.length_replicate]
    omega

/-- THE RULE: a def (or a method) of the text, by its body. The body's reading t is chosen for each entry; it is run at the parameters' values -/
theorem fn_of {CX : CXT} {P : Program} {w : World} {K : PySem.W.Frag} {mg : Str → Option Value} {base : Heap} {k : Nat} {f : Addr} {name qual : Str} {params : Arguments} {body : List Stmt} {scope : Scope} {dV kV doc pm cdv ct oc : Value} {an od : Option Addr}
    {osl : Array (Option Value)} {N ps : List Str} {sp : Sp} (lk : K.lookup f = some ⟨oc, od, .func (PySem.W.fnOf name qual params body scope dV kV doc pm an cdv ct), osl⟩) (hcd : PySem.W.codeIn K cdv qual = true) (S : FnScope N ps scope)
    (len : ∀ vs H Q E, sp vs H Q E → vs.length = ps.length)
    (hbody : ∀ (A : Around) (outer : List Env) (s : Shared) (H : Hp) (vs : List V) (Q : VK) (E : XK), Room k (A.deeper (envOfC qual scope s.heap.objs.size f cdv)) → sp vs H Q E →
      ∃ t, PSs (cxOf CX P w K mg base N qual scope f cdv A outer s H E) body t ∧ t { nx := fun _ H' => Q .non H', rt := Q } (start N vs) H) :
    FnOk P w K mg base CX (k + 1) f (PySem.W.fnOf name qual params body scope dV kV doc pm an cdv ct) ps sp := by
  refine ⟨len, fun A outer s H args us vs Q E hr e0 hb r hsp => ?_⟩
  have hl := len _ _ _ _ hsp
  have KX : K.In s.heap := e0.mod.kin.keeps fun b o e => (e0.bs b o e).1
  have lim : s.heap.NoLimit := e0.mod.nolimit.keeps fun b o e => (e0.bs b o e).1
  have hkind : ∀ y ∈ ps.zip us, scope.names.lookup y.1 = some .local ∨ (scope.names.lookup y.1 = some .cell ∧ ((cellsFrom (s.heap.objs.size + 1) scope.names []).lookup y.1).isSome = true) := fun ⟨n, v⟩ hy => by
    rcases S.par n (List.of_mem_zip hy).1 with q | q
    · exact .inl q
    · exact .inr ⟨q, PySem.W.cellsFrom_some _ _ _ (.inl q)⟩
  refine codeAny_call_function hr.depth (KX _ _ lk) rfl S.co S.gen rfl (PySem.W.codeRec_of KX hcd) (hb _ _ _ _ ?_)
  refine wpAny_newFunctionEnv_cells S.kind hkind fun env he s1 x => ?_
  subst he
  refine ⟨lim.keeps x.toInCall.keep, codeAny_func ?_⟩
  obtain ⟨t, ht, hq⟩ := hbody A outer s H vs Q E (hr.deeper _) hsp
  have I : Inv (cxOf CX P w K mg base N qual scope f cdv A outer s H E) [] (start N vs) H s1 := inv_start S hr.hd e0 hl r x
  refine wpAny_mono (ht [] s1 (start N vs) H _ I hq) (fun fl s' hs => ?_) fun e s' hs => hs
  have fin : ∀ {σ' : St} {H' : Hp} {v : V} {u : Value}, Inv (cxOf CX P w K mg base N qual scope f cdv A outer s H E) [] σ' H' s' → RelV v u → Q v H' → CE outer P w H s Q u s' :=
    fun {σ' H' v u} J rv q => ⟨v, H', J.os, J.bare, J.base, J.hok, rv, q⟩
  cases fl with
  | ret u =>
    obtain ⟨v, σ', H', J, rv, q⟩ := hs
    exact fin J rv q
  | next =>
    obtain ⟨σ', H', J, q⟩ := hs
    exact fin (v := V.non) (u := Value.none) J rfl q
  | brk =>
    obtain ⟨_, _, _, q⟩ := hs
    exact False.elim q
  | cont =>
    obtain ⟨_, _, _, q⟩ := hs
    exact False.elim q
end L2

namespace L2
open PySem PySem.Spec PyProof.Rows
section
variable {X : Cx} {x : Str} {p pos : Pos} {e : Expr} {es : List Expr} {t : TA} {id T : String} {r : List V → Hp → VK → Prop}

noncomputable def tCB (r : List V → Hp → VK → Prop) (t : TA) : TE := fun σ H Q => t σ H fun vs H1 => r vs H1 Q
/-- f(e, ..), f a built-in function -/
theorem pe_callB (hc : CallR X (.builtin id) r) (hg : Gl X x) (hm : X.mg x = none) (hv : bootBuiltins x = some (.builtin id)) (ha : PA X (e :: es) t) (hn : x ≠ "__name__" := by decide) (hdb : (x == ("__debug__" : Str)) = false := by decide)
    (he : starEach (e :: es) X.env = (false, eval e X.env) :: starEach es X.env := by rfl) (hpl : (backTo pos (starEach es X.env)).any (·.1) = false := by rfl) : PE X (.Call (.Name x p) (e :: es) [] pos) (tCB r t) := by
  intro pins s σ H Q I h
  refine wpAny_Call_Name_kw (ld_blt I hg hm hv ?_ hn hdb)
  exact PyProof.Rows.callWith_builtin1 (thn (ha pos pins s σ H _ I h) fun us s1 ⟨vs, H1, I1, r1, q1⟩ => hc pins s1 σ H1 vs us Q I1 r1 q1) he hpl
/-- T(e, ..), T a built-in type -/
theorem pe_callTy (hc : CallR X (.type T) r) (hg : Gl X x) (hm : X.mg x = none) (hv : bootBuiltins x = some (.type T)) (ha : PA X (e :: es) t) (hn : x ≠ "__name__" := by decide) (hdb : (x == ("__debug__" : Str)) = false := by decide)
    (he : starEach (e :: es) X.env = (false, eval e X.env) :: starEach es X.env := by rfl) (hpl : (backTo pos (starEach es X.env)).any (·.1) = false := by rfl) : PE X (.Call (.Name x p) (e :: es) [] pos) (tCB r t) := by
  intro pins s σ H Q I h
  refine wpAny_Call_Name_kw (ld_blt I hg hm hv ?_ hn hdb)
  exact PyProof.Rows.callWith_type1 (thn (ha pos pins s σ H _ I h) fun us s1 ⟨vs, H1, I1, r1, q1⟩ => hc pins s1 σ H1 vs us Q I1 r1 q1) he hpl
end
end L2

namespace HT
open PySem PyProof.Rows

section
open PySem.SeqAt
open PySem.AutoSeq1 (wpAny_loadPart')
open PySem.MeetsSeq PySem.MeetsSeq2 PySem.MeetsSeq3

end

section
variable {prog : Program} {w : World} {A : Around} {E : Value → Shared → Prop} {s : Shared}

/-! ### t[a:b], not the whole -/
/-- a slice's bound as a place among n (d where it is left out) -/
noncomputable def sIx (n d : Nat) : Option Int → Nat
  | none => d
  | some v => if v < 0 then (v + (n : Int)).toNat else min v.toNat n
end
end HT

namespace L2
open PySem PySem.Spec PyProof.Rows

/-! ### the parts of a slice -/
noncomputable abbrev TO := St → Hp → (Option Int → Hp → Prop) → Prop
/-- a slice's part (left out, or an int) -/
noncomputable def PO (X : Cx) (e : Option Expr) (t : TO) : Prop :=
  ∀ (pins : List (Addr × Obj)) (s : Shared) (σ : St) (H : Hp) (Q : Option Int → Hp → Prop), Inv X pins σ H s → t σ H Q →
    wpAny (model X.prog X.w) X.A (evalPart e X.env) (fun u s' => ∃ o H', Inv X pins σ H' s' ∧ IsPart u o ∧ Q o H') X.xe s
noncomputable def tNoPart : TO := fun _ H Q => Q none H
noncomputable def tPart (t : TE) : TO := fun σ H Q => t σ H fun x H1 => ∃ i, x = .int i ∧ Q (some i) H1

section
variable {X : Cx} {e : Expr} {te : TE} {lo hi : Option Expr} {tl th : TO} {pos p2 : Pos}

theorem po_none : PO X none tNoPart := by
  intro pins s σ H Q I h
  rw [evalPart_none]
  exact wpAny_pure ⟨none, H, I, .none, h⟩
theorem po_some (h : PE X e te) : PO X (some e) (tPart te) := by
  intro pins s σ H Q I hw
  rw [evalPart_some]
  refine thn (h pins s σ H _ I hw) fun u s1 hh9 => ?_
  obtain ⟨x, H1, I1, r1, q1⟩ := hh9
  obtain ⟨i, rfl, q⟩ := q1
  obtain ⟨t, rfl⟩ := r1
  exact ⟨some i, H1, I1, .int i t, q⟩

/-- what a slice of a value is, by values: the slice object stands at sl -/
noncomputable def SlR (X : Cx) (r : V → Option Int → Option Int → Hp → VK → Prop) : Prop :=
  ∀ (pins : List (Addr × Obj)) (s : Shared) (σ : St) (H : Hp) (x : V) (v vl vu : Value) (lo hi : Option Int) (sl : Addr) (Q : VK), Inv X pins σ H s → RelV x v → s.heap.IsSliceOf sl vl vu .none → IsPart vl lo → IsPart vu hi → r x lo hi H Q →
    ∃ T id, typeLookup (.type T) "__getitem__" = pure (some (.builtin id)) ∧ s.TypeIs v T ∧ wpAny (model X.prog X.w) X.A (getItem v (.ref sl)) (EP X pins σ Q) X.xe s
noncomputable def tSl (r : V → Option Int → Option Int → Hp → VK → Prop) (te : TE) (tl th : TO) : TE := fun σ H Q => te σ H fun x H1 => tl σ H1 fun l H2 => th σ H2 fun u H3 => r x l u H3 Q
/-- a[lo:hi], any a -/
theorem pe_slice {r : V → Option Int → Option Int → Hp → VK → Prop} (hr : SlR X r) (he : PE X e te) (hl : PO X lo tl) (hu : PO X hi th) : PE X (.Subscript e (.Slice lo hi none p2) pos) (tSl r te tl th) := by
  intro pins s σ H Q I h
  refine Subscript_ (thn (he pins s σ H _ I h) fun v s1 hh9 => ?_)
  obtain ⟨x, H1, I1, r1, q1⟩ := hh9
  refine wpAny_Slice (thn (hl pins s1 σ H1 _ I1 q1) fun vl s2 ⟨l, H2, I2, pl, q2⟩ => thn (hu pins s2 σ H2 _ I2 q2) fun vu s3 hh9 => ?_)
  obtain ⟨u, H3, I3, pu, q3⟩ := hh9
  rw [evalPart_none]
  refine wpAny_pure ?_
  have I4 : Inv X pins σ H3 { s3 with heap := s3.heap.push { cls := .type "slice", data := .fields #[vl, vu, .none] } } := I3.kept (t' := s3.toks) fun b ob q => Heap.get?_push_of_some _ q
  obtain ⟨T, id, hT, ht, hg⟩ := hr pins { s3 with heap := s3.heap.push { cls := .type "slice", data := .fields #[vl, vu, .none] } } σ H3 x v vl vu l u s3.heap.objs.size Q I4 r1 (Heap.IsSliceOf.new ..) pl pu q3
  show wpAny (model X.prog X.w) X.A (subscriptTail e (.Slice lo hi none p2) v (.ref s3.heap.objs.size)) (EP X pins σ Q) X.xe { s3 with heap := s3.heap.push { cls := .type "slice", data := .fields #[vl, vu, .none] } }
  exact tail_any (ops := [.ref s3.heap.objs.size, v]) ht hT hg (by with_unfolding_all rfl)

/-- the items of xs[lo:hi] -/
noncomputable def cutV (xs : List V) (lo hi : Option Int) : List V := (xs.drop (HT.sIx xs.length 0 lo)).take (HT.sIx xs.length xs.length hi - HT.sIx xs.length 0 lo)
theorem cutV_length (xs : List V) (lo hi : Option Int) : (cutV xs lo hi).length ≤ xs.length := by
  unfold cutV
  rw [List.length_take, List.length_drop]
  omega
/-! ### t < u, t + u -/
end
end L2

namespace L2
open PySem PySem.Spec PyProof.Rows

/-! ### places -/
/-- the place that an index of any sign means -/
noncomputable def ixN (n : Nat) (i : Int) : Option Nat := if 0 ≤ i then (if i < n then some i.toNat else none) else if -(n : Int) ≤ i then some (i + n).toNat else none
noncomputable def atI {α : Type} (xs : List α) (i : Int) : Option α := (ixN xs.length i).bind fun j => xs[j]?
theorem ixN_seq {n : Nat} {i : Int} {j : Nat} (h : ixN n i = some j) : seqIndex? i n = some j ∧ j < n ∧ -(n : Int) ≤ i ∧ i < n := by
  unfold ixN at h
  by_cases h0 : 0 ≤ i
  · rw [if_pos h0] at h
    by_cases h1 : i < n
    · rw [if_pos h1] at h
      have e : i.toNat = j := Option.some.inj h
      exact ⟨by rw [seqIndex_of h0 h1, e], by omega, by omega, h1⟩
    · rw [if_neg h1] at h; cases h
  · rw [if_neg h0] at h
    by_cases h1 : -(n : Int) ≤ i
    · rw [if_pos h1] at h
      have e : (i + n).toNat = j := Option.some.inj h
      exact ⟨by rw [seqIndex_neg (by omega) h1, e], by omega, h1, by omega⟩
    · rw [if_neg h1] at h; cases h
theorem atI_get {α : Type} {xs : List α} {i : Int} {v : α} (h : atI xs i = some v) : ∃ j, seqIndex? i xs.length = some j ∧ xs[j]? = some v ∧ j < xs.length ∧ -(xs.length : Int) ≤ i ∧ i < xs.length := by
  unfold atI at h
  cases e : ixN xs.length i with
  | none => rw [e] at h; cases h
  | some j =>
    rw [e] at h
    obtain ⟨h1, h2, h3, h4⟩ := ixN_seq e
    exact ⟨j, h1, h, h2, h3, h4⟩
theorem atI_nat {α : Type} {xs : List α} {j : Nat} {v : α} (h : xs[j]? = some v) : atI xs (j : Int) = some v := by
  have hj : j < xs.length := (List.getElem?_eq_some_iff.mp h).1
  have e : ixN xs.length (j : Int) = some j := by
    unfold ixN
    rw [if_pos (by omega), if_pos (by omega)]; simp
  unfold atI; rw [e]; exact h
/-! ### what may be subscripted -/
/-- what stands as an index of a plain subscript -/
noncomputable def PlainIx (b : Expr) : Prop := ∀ o i, subscripted b false o i = operate [o, i] (getItem o i)
/-- a subscript by values -/
noncomputable def IxR (X : Cx) (r : R2) : Prop :=
  ∀ (value slice : Expr) (pins : List (Addr × Obj)) (s : Shared) (σ : St) (H : Hp) (x y : V) (v u : Value) (Q : VK), Inv X pins σ H s → RelV x v → RelV y u → r x y H Q →
    subscripted slice false v u = operate [v, u] (getItem v u) → wpAny (model X.prog X.w) X.A (subscriptTail value slice v u) (EP X pins σ Q) X.xe s
/-- a call of a builtin's method by values: the receiver, the arguments -/
noncomputable def MtR (X : Cx) (id : String) (r : V → List V → Hp → VK → Prop) : Prop :=
  ∀ (pins : List (Addr × Obj)) (s : Shared) (σ : St) (H : Hp) (x : V) (xs : List V) (v : Value) (us : List Value) (Q : VK), Inv X pins σ H s → RelV x v → Vals xs us → r x xs H Q →
    wpAny (model X.prog X.w) X.A (call (.builtin id) (v :: us)) (EP X pins σ Q) X.xe s
section
variable {X : Cx} {a b : Expr} {ta tb : TE} {pos : Pos}
/-- a[b] -/
theorem pe_ix {r : R2} (hr : IxR X r) (ha : PE X a ta) (hb : PE X b tb) (hs : PlainIx b) : PE X (.Subscript a b pos) (tOp r ta tb) := by
  intro pins s σ H Q I h
  exact Subscript_ (binT ha hb I h fun v u s2 x y H2 I2 rx ry q => hr a b pins s2 σ H2 x y v u Q I2 rx ry q (hs _ _))

noncomputable def rIxL (K : PySem.W.Frag) : R2 := fun x y H Q => ∃ p xs i v, x = .ref p ∧ y = .int i ∧ SqL K H p xs ∧ atI xs i = some v ∧ Q v H
noncomputable def rIxT (K : PySem.W.Frag) : R2 := fun x y H Q => ∃ p xs i v, x = .ref p ∧ y = .int i ∧ SqT K H p xs ∧ atI xs i = some v ∧ Q v H
noncomputable def rIxS : R2 := fun x y H Q => ∃ z i c, x = .str z ∧ y = .int i ∧ z.length ≤ sizeLine ∧ atI z.cps.toList i = some c ∧ Q (.str ⟨#[c]⟩) H
theorem ix_list : IxR X (rIxL X.K) := by
  intro value slice pins s σ H x y v u Q I rx ry h hs
  obtain ⟨p, xs, i, z, rfl, rfl, hq, he, q⟩ := h
  cases rx
  obtain ⟨t, rfl⟩ := ry
  obtain ⟨its, r, pl, hz⟩ := I.list hq
  obtain ⟨j, h1, h2, h3, h4, h5⟩ := atI_get he
  obtain ⟨w, ew, rw'⟩ := r.get h2
  have hl := r.length
  have hn := line63
  have fin : EP X pins σ Q w s := ⟨z, H, I, rw', q⟩
  by_cases h0 : 0 ≤ i
  · have hj : i.toNat = j := by
      rw [seqIndex_of h0 h5] at h1
      exact Option.some.inj h1
    exact item_listR pl.isList h0 (by omega) (by rw [hj]; simpa using ew) fin hs
  · have hj : (i + (its.toArray.size : Int)).toNat = j := by
      rw [seqIndex_neg (by omega) h4] at h1
      rw [List.size_toArray, ← hl]
      exact Option.some.inj h1
    exact subscriptTail_builtinR (x := w) pl.isList.typeIs slot_list_getitem.lookup
      (wpAny_getItem_list_neg (Q := fun r s' => r = w ∧ EP X pins σ Q r s') pl.isList (by omega) (by rw [List.size_toArray] <;> omega) (by omega) (by rw [hj]; simpa using ew) ⟨rfl, fin⟩) hs
theorem ix_tup : IxR X (rIxT X.K) := by
  intro value slice pins s σ H x y v u Q I rx ry h hs
  obtain ⟨p, xs, i, z, rfl, rfl, hq, he, q⟩ := h
  cases rx
  obtain ⟨t, rfl⟩ := ry
  obtain ⟨its, r, pl, hz⟩ := I.tuple hq
  obtain ⟨j, h1, h2, h3, h4, h5⟩ := atI_get he
  obtain ⟨w, ew, rw'⟩ := r.get h2
  have hl := r.length
  have hn := line63
  have fin : EP X pins σ Q w s := ⟨z, H, I, rw', q⟩
  exact subscriptTail_builtinR (x := w) pl.typeIs slot_tuple_getitem.lookup
    (getItem_tuple (j := j) (Q := fun r s' => r = w ∧ EP X pins σ Q r s') pl (by omega) (by omega) (by rw [List.size_toArray, ← hl]; exact h1) (by simpa using ew) ⟨rfl, fin⟩) hs
theorem ix_str : IxR X rIxS := by
  intro value slice pins s σ H x y v u Q I rx ry h hs
  obtain ⟨z, i, c, rfl, rfl, hz, he, q⟩ := h
  obtain ⟨t, rfl⟩ := rx
  obtain ⟨t', rfl⟩ := ry
  obtain ⟨j, h1, h2, h3, h4, h5⟩ := atI_get he
  have hl : z.cps.toList.length = z.length := by simp [Str.length]
  rw [hl] at h1 h4 h5
  have hn := line63
  exact tail_any (typeIs_str s z t) slot_str_getitem.lookup (getItem_str (c := c) (by
    have e1 : decide (i < -(2 ^ 63 : Int)) = false := decide_eq_false (by omega)
    have e2 : decide (i ≥ 2 ^ 63) = false := decide_eq_false (by omega)
    rw [e1, e2, Bool.or_false]) (by rw [h1]; simpa using h2) ⟨.str ⟨#[c]⟩, H, I.tok _, ⟨_, rfl⟩, q⟩) hs
/-! ### xs[i] = v, any sign -/
/-- the list's object behind a store -/
theorem mapSeq_set (its : List Value) (n j : Nat) (u : Value) : Obj.mapSeq (·.setIfInBounds j u) { cls := .type "list", data := .seq its.toArray n } = { cls := .type "list", data := .seq (its.set j u).toArray n } := by
  simp [Obj.mapSeq]
theorem Inv.lst {pins : List (Addr × Obj)} {σ : St} {H : Hp} {s : Shared} {p : Addr} {xs : List V} (I : Inv X pins σ H s) (h : H p = some (.lst xs)) :
    ∃ (its : List Value) (n : Nat), Vals xs its ∧ s.heap.get? p = some { cls := .type "list", data := .seq its.toArray n } ∧ xs.length ≤ sizeLine := by
  obtain ⟨z, its, n, r, e⟩ := I.hok p _ h
  exact ⟨its, n, r, e, z⟩
/-- the list at p is written by an update of its object -/
theorem Inv.lstUpd {pins : List (Addr × Obj)} {σ : St} {H : Hp} {s : Shared} {p : Addr} {xs ys : List V} {its its' : List Value} {n n' : Nat} {f : Obj → Obj} (I : Inv X pins σ H s) (h : H p = some (.lst xs))
    (ho : s.heap.get? p = some { cls := .type "list", data := .seq its.toArray n }) (hf : f { cls := .type "list", data := .seq its.toArray n } = { cls := .type "list", data := .seq its'.toArray n' }) (r : Vals ys its') (hz : ys.length ≤ sizeLine) (t : Nat) :
    Inv X pins σ (upd H p (.lst ys)) { s with heap := s.heap.update p f, toks := t } := by
  have e : (s.heap.update p f).get? p = some { cls := .type "list", data := .seq its'.toArray n' } := by
    rw [Heap.get?_update_self f ho (by rw [hf] <;> rfl), hf]
  refine I.write (x := p) (e := p) (by rw [h]; trivial) (.inl rfl) (fun b u hb q => (Heap.get?_update_other _ _ (Ne.symm hb)).trans q) ⟨_, e⟩ ?_
  exact ⟨hz, its', n', r, e⟩
noncomputable def rSetL : V → V → V → Hp → (Hp → Prop) → Prop := fun o i v H Q => ∃ p xs k j, o = .ref p ∧ i = .int k ∧ H p = some (.lst xs) ∧ ixN xs.length k = some j ∧ Q (upd H p (.lst (xs.set j v)))
theorem set_list : PSet X rSetL := by
  intro pins s σ H o i v ov iv u Q I ro ri rv h
  obtain ⟨p, xs, k, j, rfl, rfl, hp, hj, q⟩ := h
  cases ro
  obtain ⟨t, rfl⟩ := ri
  obtain ⟨its, n, r, ho, hz⟩ := I.lst hp
  obtain ⟨h1, h2, h3, h4⟩ := ixN_seq hj
  have hl := r.length
  have hn := line63
  have I' : Inv X pins σ (upd H p (.lst (xs.set j v))) { s with heap := s.heap.update p (Obj.mapSeq (·.setIfInBounds j u)) } :=
    I.lstUpd hp ho (mapSeq_set its n j u) (r.set rv j) (by rw [List.length_set]; exact hz) s.toks
  by_cases h0 : 0 ≤ k
  · have hk : k.toNat = j := by
      rw [seqIndex_of h0 h4] at h1
      exact Option.some.inj h1
    exact PySem.W.ki_setAt ho h0 (by omega) (by rw [List.size_toArray, ← hl]; exact h4) (by rw [hk]; exact ⟨_, I', q⟩)
  · have hk : (k + (its.toArray.size : Int)).toNat = j := by
      rw [seqIndex_neg (by omega) h3] at h1
      rw [List.size_toArray, ← hl]
      exact Option.some.inj h1
    exact PySem.W.ki_setBack ho (by omega) (by rw [List.size_toArray, ← hl]; exact h3) (by omega) (by rw [hk]; exact ⟨_, I', q⟩)

/-! ### slices -/
theorem slice_bounds (lo hi : Option Int) (n : Nat) : (sliceBounds lo hi none n).1 = ((HT.sIx n 0 lo : Nat) : Int) ∧ (sliceBounds lo hi none n).2.1 = ((HT.sIx n n hi : Nat) : Int) ∧ (sliceBounds lo hi none n).2.2 = 1 := by
  refine ⟨?_, ?_, rfl⟩
  · cases lo with
    | none => simp [sliceBounds, HT.sIx]
    | some i =>
      simp only [sliceBounds, HT.sIx, Option.getD_none, show (1 : Int) > 0 by decide, if_true]
      by_cases h : i < 0
      · simp only [h, if_true] <;> omega
      · simp only [h, if_false] <;> omega
  · cases hi with
    | none => simp [sliceBounds, HT.sIx]
    | some i =>
      simp only [sliceBounds, HT.sIx, Option.getD_none, show (1 : Int) > 0 by decide, if_true]
      by_cases h : i < 0
      · simp only [h, if_true] <;> omega
      · simp only [h, if_false] <;> omega
theorem slicePick_cut (its : List Value) (lo hi : Option Int) : slicePick its.toArray lo hi none = ((its.drop (HT.sIx its.length 0 lo)).take (HT.sIx its.length its.length hi - HT.sIx its.length 0 lo)).toArray := by
  obtain ⟨h1, h2, h3⟩ := slice_bounds lo hi its.toArray.size
  unfold slicePick
  rw [h1, h2, h3]
  simp only [sliceRange_one, pick_run, List.size_toArray] <;> rfl
/-- xs[lo:hi] of a list: a new list -/
noncomputable def rSlL (K : PySem.W.Frag) : V → Option Int → Option Int → Hp → VK → Prop := fun x lo hi H Q => ∃ a xs, x = .ref a ∧ SqL K H a xs ∧ ∀ p, H p = none → Q (.ref p) (upd H p (.lst (cutV xs lo hi)))
theorem sl_list : SlR X (rSlL X.K) := by
  intro pins s σ H x v vl vu lo hi sl Q I rx hs pl pu h
  obtain ⟨a, xs, rfl, hx, q⟩ := h
  cases rx
  obtain ⟨its, r, ht, hz⟩ := I.list hx
  have hlen := r.length
  refine ⟨"list", _, slot_list_getitem.lookup, ht.isList.typeIs, ?_⟩
  refine wpAny_getItem_list_slice ht.isList hs pl pu .none (by simp) ?_ (by rw [List.size_toArray] <;> omega)
  rw [slicePick_cut, ← hlen]
  refine ⟨.ref s.heap.objs.size, _, I.laid (t' := s.toks) (o := .lst (cutV xs lo hi)) (fun b ob q => Heap.get?_push_of_some _ q) (Nat.le_refl _) ?_, rfl, q _ (I.hok.fresh (Nat.le_refl _))⟩
  exact ⟨Nat.le_trans (cutV_length xs lo hi) hz, _, 0, (r.drop (HT.sIx xs.length 0 lo)).take (HT.sIx xs.length xs.length hi - HT.sIx xs.length 0 lo), Heap.get?_push_size _ rfl⟩

/-! ### in, not in: flat items -/
noncomputable def flatV : V → Bool
  | .non => true
  | .bl _ => true
  | .int _ => true
  | .str _ => true
  | _ => false
/-- == of flat values -/
noncomputable def eqV : V → V → Bool
  | .non, .non => true
  | .bl a, .bl b => a == b
  | .bl a, .int b => (if a then 1 else 0) == b
  | .int a, .bl b => a == (if b then 1 else 0)
  | .int a, .int b => a == b
  | .str a, .str b => a == b
  | _, _ => false
theorem eqAt_V {A : Around} {s : Shared} {y x : V} {u v : Value} (ry : RelV y u) (rx : RelV x v) (fy : flatV y = true) (fx : flatV x = true) : SeqAt.EqAt A s u v (eqV y x) := by
  cases y with
  | non =>
    cases ry
    cases x with
    | non => cases rx; exact SeqAt.EqAt.same _
    | bl b => cases rx; exact SeqAt.EqAt.none_bool b
    | int b => obtain ⟨t, rfl⟩ := rx; exact SeqAt.EqAt.none_int b t
    | str b => obtain ⟨t, rfl⟩ := rx; exact SeqAt.EqAt.none_str b t
    | _ => exact absurd (show false = true from fx) Bool.false_ne_true
  | bl a =>
    cases ry
    cases x with
    | non => cases rx; exact SeqAt.EqAt.bool_none a
    | bl b => cases rx; exact SeqAt.EqAt.bool_bool a b
    | int b => obtain ⟨t, rfl⟩ := rx; exact SeqAt.EqAt.bool_int a b t
    | str b => obtain ⟨t, rfl⟩ := rx; exact SeqAt.EqAt.bool_str a b t
    | _ => exact absurd (show false = true from fx) Bool.false_ne_true
  | int a =>
    obtain ⟨t', rfl⟩ := ry
    cases x with
    | non => cases rx; exact SeqAt.EqAt.int_none a t'
    | bl b => cases rx; exact SeqAt.EqAt.int_bool a t' b
    | int b => obtain ⟨t, rfl⟩ := rx; exact SeqAt.EqAt.int_int a t' b t
    | str b => obtain ⟨t, rfl⟩ := rx; exact SeqAt.EqAt.int_str a t' b t
    | _ => exact absurd (show false = true from fx) Bool.false_ne_true
  | str a =>
    obtain ⟨t', rfl⟩ := ry
    cases x with
    | non => cases rx; exact SeqAt.EqAt.str_none a t'
    | bl b => cases rx; exact SeqAt.EqAt.str_bool a t' b
    | int b => obtain ⟨t, rfl⟩ := rx; exact SeqAt.EqAt.str_int a t' b t
    | str b => obtain ⟨t, rfl⟩ := rx; exact SeqAt.EqAt.str_str a t' b t
    | _ => exact absurd (show false = true from fx) Bool.false_ne_true
  | _ => exact absurd (show false = true from fy) Bool.false_ne_true
/-- the items' answers, read off the values (a value's own answer does not lean on its token) -/
noncomputable def eqU (x : V) (u : Value) : Bool := match u with
  | .none => eqV .non x
  | .bool b => eqV (.bl b) x
  | .int i _ => eqV (.int i) x
  | .str z _ => eqV (.str z) x
  | _ => false
theorem eqU_of {x y : V} {u : Value} (r : RelV y u) (f : flatV y = true) : eqU x u = eqV y x := by
  cases y with
  | non => cases r; rfl
  | bl b => cases r; rfl
  | int i => obtain ⟨t, rfl⟩ := r; rfl
  | str z => obtain ⟨t, rfl⟩ := r; rfl
  | _ => exact absurd (show false = true from f) Bool.false_ne_true
theorem any_eqU {x : V} : ∀ {xs : List V} {us : List Value}, Vals xs us → xs.all flatV = true → us.any (eqU x) = xs.any fun y => eqV y x
  | _, _, .nil, _ => rfl
  | y :: xs, u :: us, .cons r t, f => by
    rw [List.all_cons, Bool.and_eq_true] at f
    rw [List.any_cons, List.any_cons, eqU_of r f.1, any_eqU t f.2]
theorem mem_eqAt {A : Around} {s : Shared} {x : V} {v : Value} (rx : RelV x v) (fx : flatV x = true) : ∀ {xs : List V} {us : List Value}, Vals xs us → xs.all flatV = true → ∀ u ∈ us, SeqAt.EqAt A s u v (eqU x u)
  | _, _, .nil, _ => fun u hu => by cases hu
  | y :: xs, u :: us, .cons r t, f => fun u' hu => by
    rw [List.all_cons, Bool.and_eq_true] at f
    rcases List.mem_cons.mp hu with rfl | hu
    · rw [eqU_of r f.1]; exact eqAt_V r rx f.1 fx
    · exact mem_eqAt rx fx t f.2 u' hu
noncomputable def inV (x : V) (xs : List V) : Bool := xs.any fun y => eqV y x
/-- x in a list or tuple of flat items -/
noncomputable def rIn (K : PySem.W.Frag) (neg : Bool) : R2 := fun x y H Q => ∃ p xs, y = .ref p ∧ (SqL K H p xs ∨ SqT K H p xs) ∧ flatV x = true ∧ xs.all flatV = true ∧ Q (.bl (if neg then !inV x xs else inV x xs)) H
theorem op_in_seq : OpR X (compareOp .In) (rIn X.K false) := by
  intro pins s σ H x y v u Q I rx ry h
  obtain ⟨p, xs, rfl, hq, fx, fs, q⟩ := h
  cases ry
  rcases hq with hq | hq
  · obtain ⟨its, r, pl, hz⟩ := I.list hq
    refine SeqAt.in_listAt (eqU x) pl.isList (fun w hw => mem_eqAt rx fx r fs w (by simpa using hw)) ⟨.bl _, H, I, rfl, ?_⟩
    rw [show its.toArray.any (eqU x) = its.any (eqU x) by simp, any_eqU r fs]
    exact q
  · obtain ⟨its, r, pl, hz⟩ := I.tuple hq
    refine SeqAt.in_tupleAt (eqU x) pl (fun w hw => mem_eqAt rx fx r fs w (by simpa using hw)) ⟨.bl _, H, I, rfl, ?_⟩
    rw [show its.toArray.any (eqU x) = its.any (eqU x) by simp, any_eqU r fs]
    exact q
theorem op_notIn_seq : OpR X (compareOp .NotIn) (rIn X.K true) := by
  intro pins s σ H x y v u Q I rx ry h
  obtain ⟨p, xs, rfl, hq, fx, fs, q⟩ := h
  cases ry
  rcases hq with hq | hq
  · obtain ⟨its, r, pl, hz⟩ := I.list hq
    refine SeqAt.notIn_listAt (eqU x) pl.isList (fun w hw => mem_eqAt rx fx r fs w (by simpa using hw)) ⟨.bl _, H, I, rfl, ?_⟩
    rw [show its.toArray.any (eqU x) = its.any (eqU x) by simp, any_eqU r fs]
    exact q
  · obtain ⟨its, r, pl, hz⟩ := I.tuple hq
    refine SeqAt.notIn_tupleAt (eqU x) pl (fun w hw => mem_eqAt rx fx r fs w (by simpa using hw)) ⟨.bl _, H, I, rfl, ?_⟩
    rw [show its.toArray.any (eqU x) = its.any (eqU x) by simp, any_eqU r fs]
    exact q
/-! ### len, list(x), tuple(x) of any list or tuple that is read -/
theorem call_list_of : CallR X (.type "list") (fun xs H Q => ∃ p ys, xs = [.ref p] ∧ (SqL X.K H p ys ∨ SqT X.K H p ys) ∧ ∀ l, H l = none → Q (.ref l) (upd H l (.lst ys))) := by
  intro pins s σ H xs us Q I r h
  obtain ⟨p, ys, rfl, hq, q⟩ := h
  obtain ⟨u, rfl, rx⟩ := vals1 r
  cases rx
  have fin : ∀ (its : List Value), Vals ys its → ys.length ≤ sizeLine → ∀ (h' : Heap) (c' : Nat), (∀ b o', s.heap.get? b = some o' → h'.get? b = some o') →
      h'.get? s.heap.objs.size = some { cls := .type "list", dict := none, data := .seq its.toArray c', slots := #[] } → EP X pins σ Q (.ref s.heap.objs.size) { s with heap := h' } := fun its r' hz h' c' kp e =>
    ⟨.ref s.heap.objs.size, _, I.laid (t' := s.toks) kp (Nat.le_refl _) (show ObjOk X.prog X.w _ h' _ (.lst ys) from ⟨hz, its, c', r', e⟩), rfl, q _ (I.hok.fresh (Nat.le_refl _))⟩
  rcases hq with hq | hq
  · obtain ⟨its, r', pl, hz⟩ := I.list hq
    have hlen := r'.length
    obtain ⟨o, ho, hc, n, hd⟩ := pl.isList
    exact call_list_seq p (.inl rfl) ho hc hd (fun h' c' kp e => fin its r' hz h' c' kp e) (by simp only [List.size_toArray] <;> omega)
  · obtain ⟨its, r', pl, hz⟩ := I.tuple hq
    have hlen := r'.length
    obtain ⟨o, ho, hc, n, hd⟩ := pl
    exact call_list_seq p (.inr rfl) ho hc hd (fun h' c' kp e => fin its r' hz h' c' kp e) (by simp only [List.size_toArray] <;> omega)
/-! ### the call of a builtin's method: o.m(..) -/
/-- the value is of that builtin type -/
noncomputable def tyV (K : PySem.W.Frag) (T : String) (x : V) (H : Hp) : Prop := match x with
  | .str _ => T = "str"
  | .int _ => T = "int"
  | .ref p => (T = "list" ∧ ∃ xs, SqL K H p xs) ∨ (T = "tuple" ∧ ∃ o, K.lookup p = some o ∧ o.cls = .type "tuple" ∧ o.dict = none) ∨
      (T = "dict" ∧ ((∃ kvs, H p = some (.dK kvs)) ∨ ∃ kvs, H p = some (.dT kvs))) ∨ (T = "set" ∧ ∃ S n, H p = some (.set S n))
  | _ => False
theorem tyV_is {pins : List (Addr × Obj)} {σ : St} {H : Hp} {s : Shared} {T : String} {x : V} {v : Value} (I : Inv X pins σ H s) (r : RelV x v) (ty : tyV X.K T x H) :
    s.TypeIs v T ∧ ∀ a, v = .ref a → ∃ ob, s.heap.get? a = some ob ∧ ob.dict = none := by
  cases x with
  | str z =>
    obtain ⟨t, rfl⟩ := r
    cases (show T = "str" from ty)
    exact ⟨typeIs_str s z t, fun _ e => nomatch e⟩
  | int i =>
    obtain ⟨t, rfl⟩ := r
    cases (show T = "int" from ty)
    exact ⟨typeIs_int s i t, fun _ e => nomatch e⟩
  | ref p =>
    cases r
    rcases ty with ⟨rfl, xs, hq⟩ | ⟨rfl, o, hk, hc, hd⟩ | ⟨rfl, hk⟩ | ⟨rfl, S, n, hk⟩
    · obtain ⟨its, _, pl, _⟩ := I.list hq
      refine ⟨pl.isList.typeIs, fun a e => ?_⟩
      cases e
      obtain ⟨o, n, e, c, hd, _⟩ := pl
      exact ⟨o, e, hd⟩
    · refine ⟨⟨o, I.kIn p o hk, hc⟩, fun a e => ?_⟩
      cases e
      exact ⟨o, I.kIn _ o hk, hd⟩
    · have z : ∃ o, s.heap.get? p = some o ∧ o.ExactDict := by
        rcases hk with ⟨kvs, hk⟩ | ⟨kvs, hk⟩
        · obtain ⟨_, _, _, _, o, _, _, e, ex, _⟩ := I.hok p _ hk
          exact ⟨o, e, ex⟩
        · obtain ⟨_, _, _, _, o, _, _, e, ex, _⟩ := I.hok p _ hk
          exact ⟨o, e, ex⟩
      obtain ⟨o, e, ex⟩ := z
      refine ⟨⟨o, e, ex.1⟩, fun a e2 => ?_⟩
      cases e2
      exact ⟨o, e, ex.2.1⟩
    · obtain ⟨o, _, _, _, e, ex, _⟩ := I.hok p _ hk
      refine ⟨⟨o, e, ex.1⟩, fun a e2 => ?_⟩
      cases e2
      exact ⟨o, e, ex.2.1⟩
  | _ => exact False.elim ty
noncomputable def tBM (K : PySem.W.Frag) (T : String) (r : V → List V → Hp → VK → Prop) (to : TE) (t : TA) : TE := fun σ H Q => to σ H fun x H1 => tyV K T x H1 ∧ t σ H1 fun xs H2 => r x xs H2 Q
variable {o e : Expr} {es : List Expr} {to : TE} {t : TA} {name : Str} {apos cpos : Pos} {T id : String} {r : V → List V → Hp → VK → Prop}
theorem pe_bm (pa : PlainAttrs T) (slot : Slot T name id) (hty : typeOf (.builtin id) = pure (.type "method_descriptor")) (hm : MtR X id r) (ho : PE X o to) (ha : PA X (e :: es) t)
    (hbase : attributeBase o name X.env (eval o X.env) = eval o X.env := by rfl)
    (hfew : ((backTo cpos (starEach (e :: es) X.env)).all (fun x => !x.1) && (backToKw cpos (keywordEach [] X.env)).all (fun x => x.1.isSome)
      && decide ((e :: es).length + ([] : List Keyword).length + (if ([] : List Keyword).isEmpty then 0 else 1) < 30)) = true := by rfl)
    (hline : (apos.endLine == cpos.line) = true := by rfl) (hs : starEach (e :: es) X.env = (false, eval e X.env) :: starEach es X.env := by rfl) (hplain : (backTo cpos (starEach es X.env)).any (·.1) = false := by rfl) :
    PE X (.Call (.Attribute o name apos) (e :: es) [] cpos) (tBM X.K T r to t) := by
  intro pins s σ H Q I h
  refine wpAny_Call_method_late hbase hfew hline rfl (thn (ho pins s σ H _ I h) fun v s1 hh9 => ?_)
  obtain ⟨x, H1, I1, r1, ty, q1⟩ := hh9
  obtain ⟨h1, h2⟩ := tyV_is I1 r1 ty
  refine ⟨T, id, pa, slot, hty, h1, h2, ?_⟩
  have hA := ha cpos pins s1 σ H1 _ I1 q1
  rw [hs] at hA ⊢
  refine Calls.callWith_builtin (by show (false || (backTo cpos (starEach es X.env)).any (·.1)) = false; rw [hplain] <;> rfl) (Calls.evalArgs_plain ?_)
  exact thn hA fun us s2 ⟨vs, H2, I2, r2, q2⟩ => hm pins s2 σ H2 x vs v us Q I2 r1 r2 q2
/- xs.append(e), list.index on a module's tuple .. are MtR facts of 06m -/
end
end L2

namespace L2
open PySem PySem.Spec PyProof.Rows

noncomputable def MtM (X : Cx) (id : String) (r : V → List V → Hp → VK → Prop) : Prop :=
  ∀ (pins : List (Addr × Obj)) (s : Shared) (σ : St) (H : Hp) (x : V) (xs : List V) (v : Value) (us : List Value) (Q : VK), Inv X pins σ H s → RelV x v → Vals xs us → r x xs H Q →
    wpAny (model X.prog X.w) X.A (call (.builtin id) (v :: us)) (EP X pins σ Q) X.xe s

/-! ### lists of values -/
theorem Vals.one {x : V} {us : List Value} (h : Vals [x] us) : ∃ u, us = [u] ∧ RelV x u := by
  cases h with | cons r t => cases t; exact ⟨_, rfl, r⟩
theorem Vals.two {x y : V} {us : List Value} (h : Vals [x, y] us) : ∃ u v, us = [u, v] ∧ RelV x u ∧ RelV y v := by
  cases h with | cons r t => cases t with | cons q t => cases t; exact ⟨_, _, rfl, r, q⟩
section
variable {X : Cx} {pins : List (Addr × Obj)} {σ : St} {H : Hp} {s : Shared} {l b : Addr} {xs ys zs : List V}

/-! ### the two steps: a tracked list is rewritten, a new list is laid -/
theorem Inv.lset {its its' : List Value} {n : Nat} {f : Array Value → Array Value} {t' : Nat} (I : Inv X pins σ H s) (hH : H l = some (.lst xs))
    (e : s.heap.get? l = some { cls := .type "list", data := .seq its.toArray n }) (hf : f its.toArray = its'.toArray) (hv : Vals ys its') (hz : ys.length ≤ sizeLine) :
    Inv X pins σ (upd H l (.lst ys)) { s with heap := s.heap.update l (Obj.mapSeq f), toks := t' } := by
  have q := PySem.IsL.update e f
  rw [hf] at q
  refine I.write (x := l) (e := l) (by rw [hH]; exact trivial) (.inl rfl) (fun b' u hb hu => (Heap.get?_update_other s.heap (Obj.mapSeq f) (Ne.symm hb)).trans hu) ⟨_, q⟩ ?_
  exact ⟨hz, its', _, hv, q⟩
theorem Inv.lnew {its : List Value} {t' : Nat} (I : Inv X pins σ H s) (hv : Vals ys its) (hz : ys.length ≤ sizeLine) :
    Inv X pins σ (upd H s.heap.objs.size (.lst ys)) { s with heap := s.heap.push { cls := .type "list", data := .seq its.toArray }, toks := t' } :=
  I.laid (fun _ _ q => Heap.get?_push_of_some _ q) (Nat.le_refl _) ⟨hz, its, 0, hv, Heap.get?_push_size _ rfl⟩
theorem Inv.fresh (I : Inv X pins σ H s) : H s.heap.objs.size = none := I.hok.fresh (Nat.le_refl _)
theorem Inv.lstM (I : Inv X pins σ H s) (hH : H l = some (.lst xs)) : xs.length ≤ sizeLine ∧ ∃ (its : List Value) (n : Nat), Vals xs its ∧ xs.length = its.length ∧ s.heap.get? l = some { cls := .type "list", data := .seq its.toArray n } := by
  obtain ⟨z, its, n, r, e⟩ := I.hok l _ hH
  exact ⟨z, its, n, r, r.length, e⟩

theorem notLongL {n : Nat} (h : n ≤ sizeLine) : Builtin.List.listTooLong n = false := by
  unfold Builtin.List.listTooLong
  exact decide_eq_false (by omega)
end

section
variable {X : Cx}

/-! ### methods -/
noncomputable def rAppend : V → List V → Hp → VK → Prop := fun x vs H Q => ∃ l xs y, x = .ref l ∧ vs = [y] ∧ H l = some (.lst xs) ∧ xs.length < sizeLine ∧ Q .non (upd H l (.lst (xs ++ [y])))
theorem mt_append : MtM X "list.append" rAppend := by
  intro pins s σ H x vs v us Q I rx rv h
  obtain ⟨l, xs, y, rfl, rfl, hH, hz, q⟩ := h
  cases rx
  obtain ⟨u, rfl, ru⟩ := rv.one
  obtain ⟨z, its, n, r, hl, e⟩ := I.lstM hH
  refine call_meets F.slot_list_append ⟨_, e, rfl⟩ F.entry_list_append (F.args_list_append_2 _ _) (PySem.list_append l its.toArray n u (by rw [List.size_toArray]; omega)) ⟨e, ?_⟩
  refine ⟨.non, _, I.lset (its' := its ++ [u]) hH e (by simp) (r.append (.cons ru .nil)) ?_, rfl, q⟩
  rw [List.length_append, List.length_singleton]
  omega

/-! ### list + list, list += list, list * int -/
/-! ### del xs[i] -/
end

/-! ### xs[a:b] = ys -/
section
variable {prog : Program} {w : World} {A : Around} {E : Value → Shared → Prop} {s : Shared}
end

section
variable {X : Cx}
end
end L2

namespace Att
open PySem PySem.W PySem.Calls PyProof.Rows

/-! ### the script -/
theorem ints_of_wellAll {P : Params} {h : Heap} : ∀ (ns : List Int) (vs : List Value), WellAll P h vs (ns.map WData.int) → IntsAre vs ns := by
  intro ns
  induction ns with
  | nil =>
    intro vs w
    rw [List.map_nil] at w
    cases w
    exact .nil
  | cons n ns ih =>
    intro vs w
    rw [List.map_cons] at w
    cases w with
    | cons a b =>
      cases a
      exact .cons _ _ (ih _ b)

theorem script_of {l : OpenLaw} {n : Nat} (hn : l.most = some n) {P : Params} {h : Heap} {args : List WData} {vals : List Value}
    (hpre : l.row.toRowW.claim.pre args = true) (hwl : WellAll P h vals args) :
    ∃ a vs ns, vals = [Value.ref a] ∧ args = [WData.list (ns.map WData.int)] ∧ h.get? a = some { cls := .type "list", data := .seq vs.toArray } ∧ IntsAre vs ns ∧ ns.length ≤ n := by
  have hsh : WShape.hasAll [] args [.list .int] = true := (pre_splitW hpre).1
  have hc : l.pre.holds [] { args := args } = true := (pre_splitW hpre).2
  obtain ⟨d, r, rfl, h1, h2⟩ := hasAllW_cons hsh
  obtain rfl := hasAllW_nil h2
  obtain ⟨xs, rfl, h3⟩ := hasW_list h1
  obtain ⟨ns, rfl⟩ := items_int h3
  have hlen : ns.length ≤ n := by
    unfold OpenLaw.pre at hc
    have h4 : (WTm.not (.lt (.lit (.int (n : Int))) (.len (.arg 0)))).holds [] { args := [.list (ns.map .int)] } = true := by
      have h4 := (holds_andW hc).1
      rw [hn] at h4
      exact h4
    have h5 := condW_of h4 (w_not (w_lt w_lit (w_len_list (w_arg rfl))))
    rw [List.length_map] at h5
    refine Nat.le_of_not_lt fun q => ?_
    have q' : (n : Int) < ((ns.length : Nat) : Int) := by omega
    first
      | (rw [decide_eq_true q'] at h5; exact absurd h5 (by decide))
      | (simp at h5; omega)
  cases hwl with
  | cons w1 w2 =>
    cases w2
    cases w1 with
    | list ho hall => exact ⟨_, _, ns, rfl, rfl, ho, ints_of_wellAll ns _ hall, hlen⟩

theorem post_true (l : OpenLaw) (args : List WData) : l.row.toRowW.claim.post args (.bool true) args = true :=
  postW_of (r := l.row.toRowW) (X := (true == true))
    (show WShape.has [] (.bool true) .bool = true by first | rfl | decide | simp [WShape.has, WShape.arms, WShape.armsAll])
    (show (WTm.eq .res (.lit (.bool true))).value [] { args := args, res := some (.bool true), after := args } = some (.bool (true == true)) from w_eq_bool (w_res rfl) w_lit) rfl

/-! ### the attachment: holds_open's last premise (the goal 'hc' behind k_head) from a wpAny of the law's body -/
/-- the same from a codeAny of the CALL (for a layer whose function contracts speak of calls) -/
theorem attach_call {l : OpenLaw} {n : Nat} {q : Program} {loose : List Str} {XP : (Str → Option Value) → Heap → Prop} {YP : World → Heap → Prop} {d : DefRec}
    (hn : l.most = some n) (hdf : d.params.defaults = [])
    (call : ∀ (w : World) (s₀ s₁ : Shared) (mg mb : Str → Option Value) (fa : Addr) (o : Obj) (pm cd doc : Value) (a : Addr) (vs : List Value) (ns : List Int),
      Ground q loose [] XP w s₀ mg mb s₁.heap → YP w s₁.heap →
      s₁.heap.get? fa = some o → o.data = .func (docDef d.name d.params d.body d.scope pm cd doc) → s₁.heap.CodeRec cd d.name → mg d.name = some (.ref fa) →
      s₁.heap.get? a = some { cls := .type "list", data := .seq vs.toArray } → IntsAre vs ns → ns.length ≤ n → s₁.gens = #[] →
      codeAny (model l.prog w) callerA (.call (.ref fa) ⟨[.ref a], []⟩) (fun r s' => r = .ok (.ret (.bool true)) ∧ OldK s₁.heap s'.heap ∧ s'.os = s₁.os ∧ AllBare s'.gens) s₁) :
    WalkO q loose XP YP l.row.toRowW d [] (fun f vs => PySem.call f vs) := by
  intro w s₀ s₁ mg mb G Y fa o pm cd doc dV kV ho hd hcd hD hmg hg args vals as hpre hlay hrd hwl hlo
  obtain rfl : dV = .none := Dflts.none hD hdf
  obtain rfl : kV = .none := Dflts.noKw hD
  obtain ⟨a, vs, ns, rfl, rfl, hobj, hints, hlen⟩ := script_of hn hpre hwl
  refine enter_call (codeAny_mono (call w s₀ s₁ mg mb fa o pm cd doc a vs ns G Y ho (fd_plain hd) hcd hmg hobj hints hlen hg) fun r s' hq => ?_)
  obtain ⟨rfl, h2, h3, h4⟩ := hq
  exact ⟨.inl ⟨.bool true, .bool true, [], rfl, fun _ => rfl, .bool true, post_true l _, fun _ => ⟨List.Pairwise.nil, fun _ hm => (nomatch hm)⟩⟩, h2, h3, h4⟩

/-! ### rules over ANY heap (no ledger) from facts about the written part K: the library's own take a ledger (News) for what they write -/
section
variable {prog : Program} {w : World} {A : Around} {E : Value → Shared → Prop} {s : Shared} {K : Frag}

/-! the whole heap as the ledger: makes every rule that writes through a ledger a rule over any heap -/
noncomputable def ledger (h : Heap) (L d : Addr) : List (Addr × Obj) := (List.range h.objs.size).filterMap fun a => if a = L ∨ a = d then none else (h.get? a).map fun o => (a, o)
end
end Att

namespace L2
open PySem PySem.Spec PyProof.Rows

theorem vals_ints : ∀ {vs : List Value} {ns : List Int}, IntsAre vs ns → Vals (ns.map V.int) vs
  | _, _, .nil => .nil
  | _, _, .cons n t h => .cons ⟨t, rfl⟩ (vals_ints h)

/-- nothing is tracked but the script, known to the object (or it is an object of the module) -/
noncomputable def Only (H : Hp) : Prop := ∀ b, H b = none ∨ ∃ o xs, H b = some (.frz o (.lst xs))

/-- THE HEAD: the law's promise, at the heap behind the top. F, the promise of the law's def, may use that base is part of the heap (so K.In base, base.Ns mainGlobals mg stand in Mod) -/
theorem law_call {P : Program} {w : World} {K : PySem.W.Frag} {mg mb : Str → Option Value} {CX : CXT} {k : Nat} {fa a : Addr} {fd : FuncData} {x : Str} {sp : Sp} {s₁ : Shared} {vs : List Value} {ns : List Int}
    (KX : K.In s₁.heap) (hns : s₁.heap.Ns mainGlobals mg) (hb : s₁.heap.Ns builtinsNs mb) (hbb : ∀ x : Str, x ≠ "__name__" → mb x = bootBuiltins x) (hlim : s₁.heap.NoLimit) (hg : s₁.gens = #[])
    (ha : s₁.heap.get? a = some { cls := .type "list", data := .seq vs.toArray }) (hi : IntsAre vs ns) (hl : ns.length ≤ sizeLine) (hr : Room k callerA)
    (F : ∀ base : Heap, K.In base → base.Ns mainGlobals mg → FnOk P w K mg base CX k fa fd [x] sp) (hbind : ∀ (s : Shared) (u : Value), BindsTo s fd ⟨[u], []⟩ [(x, u)])
    (hsp : ∀ H : Hp, Only H → SqL K H a (ns.map V.int) → sp [.ref a] H (fun v _ => v = .bl true) fun _ _ _ => False)
    (hCX : ∀ H e s', CX [] H s₁ (fun _ _ _ => False) e s' → False) :
    codeAny (model P w) callerA (.call (.ref fa) ⟨[.ref a], []⟩) (fun r s' => r = .ok (.ret (.bool true)) ∧ OldK s₁.heap s'.heap ∧ s'.os = s₁.os ∧ AllBare s'.gens) s₁ := by
  have rv := vals_ints hi
  have lenV := hi.length
  -- from an abstract heap in which nothing but the script may be tracked
  have core : ∀ H : Hp, Only H → SqL K H a (ns.map V.int) → HOk P w H s₁.heap → (∀ b, H b ≠ none → b = a) → (H a ≠ none → K.lookup a = none) →
      codeAny (model P w) callerA (.call (.ref fa) ⟨[.ref a], []⟩) (fun r s' => r = .ok (.ret (.bool true)) ∧ OldK s₁.heap s'.heap ∧ s'.os = s₁.os ∧ AllBare s'.gens) s₁ := by
    intro H hO hS hok hA hK
    have base_of : ∀ {b : Addr} {o : Obj}, s₁.heap.get? b = some o → H b = none → (hidT s₁.heap H).get? b = some o := fun e n => hidT_get e n
    have noA : ∀ {b : Addr} {o : Obj} {es : Array DictEntry} {ep : Nat}, s₁.heap.get? b = some o → o.data = .dict es ep → H b = none := fun {b o es ep} e d => by
      cases q : H b with
      | none => rfl
      | some u =>
        have e' : b = a := hA b (by rw [q]; simp)
        subst e'
        rw [ha] at e; cases e
        have d' : Data.seq vs.toArray _ = Data.dict es ep := d
        cases d'
    have nsK : ∀ {b : Addr} {m : Str → Option Value}, s₁.heap.Ns b m → (hidT s₁.heap H).Ns b m := fun {b m} ⟨o, es, ep, e, d, r⟩ => ⟨o, es, ep, base_of e (noA e d), d, r⟩
    have hKb : K.In (hidT s₁.heap H) := fun b o e => base_of (KX b o e) (by
      cases q : H b with
      | none => rfl
      | some u =>
        have e' : b = a := hA b (by rw [q]; simp)
        subst e'
        rw [hK (by rw [q]; simp)] at e; cases e)
    have hM : Mod K mg (hidT s₁.heap H) := ⟨hKb, nsK hns, ⟨mb, nsK hb, hbb⟩, let ⟨mc, h1, h2⟩ := hlim; ⟨mc, nsK h1, h2⟩⟩
    have e0 : Env0 P w K mg (hidT s₁.heap H) callerA [] s₁ H := ⟨rfl, hM, fun b o e => of_hidT e, Nat.le_of_eq (hidT_size _ _), trivial, fun b hb => absurd (show b ∈ ([] : List Addr) from hb) (by simp), hok, .of_eq hg⟩
    refine codeAny_mono ((F _ hKb (nsK hns)).run callerA [] s₁ H ⟨[.ref a], []⟩ [.ref a] [.ref a] _ _ hr e0 (hbind s₁ (.ref a)) (.cons rfl .nil) (hsp H hO hS)) fun r s' h => ?_
    cases r with
    | error e => exact (hCX H e s' h).elim
    | ok fl =>
      cases fl with
      | next => exact False.elim h
      | brk => exact False.elim h
      | cont => exact False.elim h
      | ret u =>
        obtain ⟨v, H', os, bare, un, hok', r', q⟩ := h
        have q' : v = .bl true := q
        subst q'
        obtain rfl : u = Value.bool true := r'
        refine ⟨rfl, OldK.of_keep fun b o e => ?_, os, bare⟩
        cases q : H b with
        | none => exact un.keep b o e q (by intro z; exact absurd (show b ∈ ([] : List Addr) from z) (by simp)) (by simp)
        | some u =>
          rcases hO b with z | ⟨ob, xs, z⟩
          · rw [q] at z; cases z
          · have z2 := un.frzs b ob _ z
            obtain ⟨e1, _⟩ := hok b _ z
            obtain ⟨e2, _⟩ := hok' b _ z2
            rw [e] at e1; cases e1
            exact e2
  cases hk : K.lookup a with
  | some o =>
    -- the script is one of the module's own objects
    have e := KX a o hk
    rw [ha] at e
    cases e
    refine core (fun _ => none) (fun _ => .inl rfl) (.inr ⟨_, vs.toArray, _, hk, rfl, rfl, rfl, by rw [List.size_toArray, lenV]; exact hl, by simpa using rv⟩) (fun b u z => by have z' : (none : Option HO) = some u := z; cases z') (fun b z => absurd rfl z) fun z => absurd rfl z
  | none =>
    refine core (fun b => if b = a then some (.frz { cls := .type "list", data := .seq vs.toArray } (.lst (ns.map V.int))) else none) (fun b => ?_) (.inl (.inr ⟨{ cls := .type "list", data := .seq vs.toArray }, if_pos rfl⟩)) (fun b u z => ?_) (fun b z => ?_) fun _ => hk
    · by_cases hb : b = a
      · exact .inr ⟨_, _, if_pos hb⟩
      · exact .inl (if_neg hb)
    · by_cases hb : b = a
      · have z' := (if_pos hb).symm.trans z
        cases z'
        subst hb
        exact ⟨ha, by rw [List.length_map]; exact hl, vs, _, rv, ha⟩
      · have z' := (if_neg hb).symm.trans z
        cases z'
    · by_cases hb : b = a
      · exact hb
      · exact absurd (if_neg hb) z
end L2

namespace L2
open PySem PySem.Spec PyProof.Rows

noncomputable abbrev KOf {K : PySem.W.Frag} {h : Heap} (_ : K.In h) : PySem.W.Frag := K

/-- the goal that k_head leaves (case hc), from the law's promise. F gives the function object fd (K's own) once, then the promise over every base -/
theorem walk_of {l : PySem.W.OpenLaw} {n k : Nat} {q : Program} {loose : List Str} {XP : (Str → Option Value) → Heap → Prop} {YP : World → Heap → Prop} {d : DefRec} {K : Params → PySem.W.Frag} {CX : World → CXT} {sp : World → Sp} {x : Str}
    (hn : l.most = some n) (hn2 : n ≤ sizeLine) (hdf : d.params.defaults = []) (hr : Room k callerA)
    (hY : ∀ (w : World) (h : Heap), YP w h → (K w.params).In h)
    (F : ∀ (w : World) (mg : Str → Option Value) (fa : Addr) (h : Heap), (K w.params).In h → h.Ns mainGlobals mg → mg d.name = some (.ref fa) →
      ∃ fd : FuncData, (∀ (s : Shared) (u : Value), BindsTo s fd ⟨[u], []⟩ [(x, u)]) ∧
        ∀ base : Heap, (K w.params).In base → base.Ns mainGlobals mg → FnOk l.prog w (K w.params) mg base (CX w) k fa fd [x] (sp w))
    (hsp : ∀ (w : World) (H : Hp) (a : Addr) (ns : List Int), ns.length ≤ n → Only H → SqL (K w.params) H a (ns.map V.int) → sp w [.ref a] H (fun v _ => v = .bl true) fun _ _ _ => False)
    (hCX : ∀ (w : World) (H : Hp) (s : Shared) (e : Value) (s' : Shared), CX w [] H s (fun _ _ _ => False) e s' → False) :
    PySem.W.WalkO q loose XP YP l.row.toRowW d [] (fun f vs => PySem.call f vs) := by
  refine Att.attach_call hn hdf fun w s₀ s₁ mg mb fa o pm cd doc a vs ns G Y ho hd hcd hmg hobj hints hlen hg => ?_
  have KX := hY w _ Y
  obtain ⟨fd, hb, hF⟩ := F w mg fa _ KX G.T.g hmg
  exact law_call KX G.T.g G.T.b G.T.builtins G.T.nolimit hg hobj hints (Nat.le_trans hlen hn2) hr hF hb (fun H hO hS => hsp w H a ns hlen hO hS) fun H e s' => hCX w H s₁ e s'
end L2

/- THE LAST THEOREM (shape; LID, My.* are yours):
   My.Adr: a structure of the addresses that your layer names (classes, functions); My.Txt K t: a structure (Prop) of the equations over K;
   My.txt_mk : {K} {implicit addresses ..} (e1 : nsIn K mainGlobals "law" = some (some (.ref f))) (e2 : K.lookup f = some ⟨oc, od, .func (fnOf "law" "law" params body scope dV kV doc pm an cdv ct), sl⟩) (e3 : codeIn K cdv "law" = true) .. : ∃ t, My.Txt K t

set_option maxRecDepth 100000 in
set_option maxHeartbeats 0 in
theorem PySem.Challenge.cw_LID_holds : PySem.Challenge.rw_LID.Holds := by
  w_on; o_law; k_head; (case hw => w_witness2)
  k_fill
  refine L2.walk_of (l := PySem.Challenge.rw_LID) (n := 63) (k := 40) (x := "script") (CX := fun w => ..) (sp := fun _ => My.sp_law) rfl (by decide) rfl ⟨rfl, by decide, by decide⟩ (fun w h Y => PySem.W.kIn_of Y) ?F ?S ?C
  case F =>
    intro w mg fa h KX G hmg
    have T : ∃ t, My.Txt (L2.KOf KX) t := by
      dsimp only [L2.KOf]                          -- K must stand as «<heap const> w.params» for k_is
      refine' My.txt_mk ?e1 ?e2 ?e3 ..
      (case e1 => PySem.W.k_is)                    -- in the order: a name -> its address -> its object -> its parts
      (case e2 => PySem.W.k_is)
      ..
    obtain ⟨t, T⟩ := T
    have e0 := hmg.symm.trans (PySem.W.mg_of KX G T.law)
    cases e0                                       -- fa is the law's own address
    exact ⟨_, fun s u => .of_eq rfl, fun base kb nb => My.law_fn T kb nb⟩     -- if «.of_eq rfl» comes too early: refine' ⟨_, ?b, fun base kb nb => My.law_fn T kb nb⟩; exact fun s u => .of_eq rfl
  case S => exact fun w H a ns hl hO hS => ..
  case C => exact ..
(the tactic k_is has no namespace: write k_is) -/

/-! SHORT WORDS over the layer: a def of the text, its body, what a loop and a test want. -/
namespace L2
open PySem PySem.Spec PyProof.Rows

/-! ### the text by places -/
/-- the j-th statement of a class's body -/
noncomputable def inClass (s : Stmt) (j : Nat) : Stmt := match s with
  | .ClassDef _ _ _ body _ _ _ _ _ _ _ => body.getD j (.Pass ⟨0, 0, 0, 0⟩)
  | _ => .Pass ⟨0, 0, 0, 0⟩
noncomputable def defArgs (s : Stmt) : Arguments := match s with
  | .FunctionDef _ a _ _ _ _ _ _ _ _ => a
  | _ => { posonlyargs := [], args := [], vararg := none, kwonlyargs := [], kw_defaults := [], kwarg := none, defaults := [] }
noncomputable def defBody (s : Stmt) : List Stmt := match s with
  | .FunctionDef _ _ b _ _ _ _ _ _ _ => b
  | _ => []
noncomputable def defScope (s : Stmt) : Scope := match s with
  | .FunctionDef _ _ _ _ _ _ sc _ _ _ => sc
  | _ => { kind := .function, names := [], isGenerator := false, isCoroutine := false }

/-! ### no exception leaves a def -/
noncomputable abbrev CX0 : CXT := fun _ _ _ _ _ _ => False
noncomputable abbrev E0 : XK := fun _ _ _ => False
theorem pass0 {X : Cx} : Passes CX0 X E0 := fun _ _ _ _ _ _ _ h => h.elim

/-! ### a def (or method) of the text as it stands behind the top -/
structure Fun (K : PySem.W.Frag) (x qual : Str) (st : Stmt) (f : Addr) (fd : FuncData) : Prop where
  ex : ∃ (oc : Value) (od : Option Addr) (kV doc pm : Value) (an : Option Addr) (cdv ct : Value) (osl : Array (Option Value)),
    fd = PySem.W.fnOf x qual (defArgs st) (defBody st) (defScope st) .none kV doc pm an cdv ct ∧ K.lookup f = some ⟨oc, od, .func fd, osl⟩ ∧ PySem.W.codeIn K cdv qual = true
  kp : PySem.W.keepIn K (.ref f) = true
section
variable {P : Program} {w : World} {K : PySem.W.Frag} {mg : Str → Option Value} {base : Heap}
/-- THE RULE for a def: its body as a term of rules, and the reading of that term -/
theorem Fun.ok {x qual : Str} {st : Stmt} {f : Addr} {fd : FuncData} {N ps : List Str} {k : Nat} {sp : Sp} (F : Fun K x qual st f fd) (S : FnScope N ps (defScope st)) (len : ∀ vs H Q E, sp vs H Q E → vs.length = ps.length)
    (hbody : ∀ (cdv : Value) (A : Around) (outer : List Env) (s : Shared) (H : Hp) (vs : List V) (Q : VK) (E : XK), Room k (A.deeper (envOfC qual (defScope st) s.heap.objs.size f cdv)) → sp vs H Q E →
      ∃ t, PSs (cxOf CX0 P w K mg base N qual (defScope st) f cdv A outer s H E).nox (defBody st) t ∧ t { nx := fun _ H' => Q .non H', rt := Q } (start N vs) H) : FnOk P w K mg base CX0 (k + 1) f fd ps sp := by
  obtain ⟨oc, od, kV, doc, pm, an, cdv, ct, osl, rfl, lk, hcd⟩ := F.ex
  refine fn_of lk hcd S len fun A outer s H vs Q E hr hsp => ?_
  obtain ⟨t, h, q⟩ := hbody cdv A outer s H vs Q E hr hsp
  exact ⟨t, h.nox, q⟩
/-- how its arguments bind (no defaults): h is «fun _ _ _ _ _ _ us hl => match us, hl with | [_, _], _ => rfl», one _ a parameter -/
theorem Fun.binds {x qual : Str} {st : Stmt} {f : Addr} {fd : FuncData} {ps : List Str} (F : Fun K x qual st f fd)
    (h : ∀ (kV doc pm : Value) (an : Option Addr) (cdv ct : Value) (us : List Value), us.length = ps.length → bindArgs (PySem.W.fnOf x qual (defArgs st) (defBody st) (defScope st) .none kV doc pm an cdv ct) ⟨us, []⟩ = pure (ps.zip us)) : Binds K fd ps [] := by
  obtain ⟨oc, od, kV, doc, pm, an, cdv, ct, osl, rfl, lk, hcd⟩ := F.ex
  exact .all (h kV doc pm an cdv ct)
theorem fun_mk {x qual : Str} {st : Stmt} {f : Addr} {oc : Value} {od an : Option Addr} {osl : Array (Option Value)} {kV doc pm cdv ct : Value} (l : K.lookup f = some ⟨oc, od, .func (PySem.W.fnOf x qual (defArgs st) (defBody st) (defScope st) .none kV doc pm an cdv ct), osl⟩)
    (c : PySem.W.codeIn K cdv qual = true) (k : PySem.W.keepIn K (.ref f) = true) : Fun K x qual st f (PySem.W.fnOf x qual (defArgs st) (defBody st) (defScope st) .none kV doc pm an cdv ct) := ⟨⟨oc, od, kV, doc, pm, an, cdv, ct, osl, rfl, l, c⟩, k⟩
end
theorem hu_of {A : Around} {k : Nat} (hr : Room k A) : A.units + 1 < cLine := Nat.lt_of_le_of_lt (Nat.add_le_add_left (by decide : 1 ≤ 64) _) hr.units
theorem small1000 {n : Nat} (h : n ≤ 1000) : n < sizeLine := Nat.lt_of_le_of_lt h (by decide)

/-! ### expressions in short: the name that stands in the i-th slot -/
section
variable {X : Cx}
theorem pv (i : Nat) {x : Str} {pos : Pos} (hN : X.N[i]? = some x := by rfl) (hv : Vis X.env.scope x := by first | exact Or.inl rfl | exact Or.inr (Or.inl rfl) | exact Or.inr (Or.inr rfl)) (hd : (x == ("__debug__" : Str)) = false := by decide)
    (hcd : (x == ("__classdict__" : Str)) = false := by decide) : PE X (.Name x pos) (tVar i) := pe_var hN hv hd hcd
end

/-! ### tests -/
theorem iteF {A B : Prop} (h : B) : if false = true then A else B := by
  rw [if_neg Bool.false_ne_true]
  exact h
theorem iteT {A B : Prop} (h : A) : if true = true then A else B := by
  rw [if_pos rfl]
  exact h
theorem ite2 {c A B : Prop} [Decidable c] (h1 : c → A) (h2 : ¬ c → B) : if c then A else B := by
  by_cases h : c
  · rw [if_pos h]
    exact h1 h
  · rw [if_neg h]
    exact h2 h
/-! ### heaps -/
/-- all that was tracked is as it was -/
noncomputable def Same (H H' : Hp) : Prop := ∀ b o, H b = some o → H' b = some o
theorem Same.refl (H : Hp) : Same H H := fun _ _ h => h
theorem Same.trans {H H1 H2 : Hp} (a : Same H H1) (b : Same H1 H2) : Same H H2 := fun c o h => b c o (a c o h)
theorem Same.free {H H' : Hp} (e : Same H H') {l : Addr} (h : H' l = Option.none) : H l = Option.none := by
  cases q : H l with
  | none => rfl
  | some o =>
    rw [e l o q] at h
    cases h
theorem Same.seq {K : PySem.W.Frag} {H H' : Hp} {a : Addr} {xs : List V} (e : Same H H') (h : SqL K H a xs) : SqL K H' a xs := by
  rcases h with (h | ⟨o, h⟩) | h
  · exact .inl (.inl (e _ _ h))
  · exact .inl (.inr ⟨o, e _ _ h⟩)
  · exact .inr h

end L2

namespace L2
open PySem PySem.Spec PyProof.Rows

/-! ### lists of pairs as tables -/
section
variable {κ : Type} [DecidableEq κ]
noncomputable def valV (kvs : List (κ × V)) (k : κ) : Option V := (kvs.find? fun kv => decide (kv.1 = k)).map (·.2)
/-- in its place, or at the end -/
noncomputable def putK (kvs : List (κ × V)) (k : κ) (v : V) : List (κ × V) :=
  if (kvs.any fun kv => decide (kv.1 = k)) = true then kvs.map (fun kv => if kv.1 = k then (kv.1, v) else kv) else kvs ++ [(k, v)]
theorem valV_pos {p : κ × V} {r : List (κ × V)} {k : κ} (e : p.1 = k) : valV (p :: r) k = some p.2 := by simp [valV, List.find?_cons, e]
theorem valV_neg {p : κ × V} {r : List (κ × V)} {k : κ} (e : ¬ p.1 = k) : valV (p :: r) k = valV r k := by simp [valV, List.find?_cons, e]
theorem valV_any (k : κ) : ∀ kvs : List (κ × V), (kvs.any fun kv => decide (kv.1 = k)) = (valV kvs k).isSome
  | [] => rfl
  | p :: r => by
    rw [List.any_cons]
    by_cases e : p.1 = k
    · simp only [valV_pos e, decide_eq_true e, Bool.true_or, Option.isSome_some]
    · rw [valV_neg e, decide_eq_false e, Bool.false_or]; exact valV_any k r
theorem valV_map (k j : κ) (y : V) : ∀ kvs : List (κ × V), valV (kvs.map fun kv => if kv.1 = k then (kv.1, y) else kv) j = (valV kvs j).map fun x => if j = k then y else x
  | [] => rfl
  | p :: r => by
    have ih := valV_map k j y r
    rw [List.map_cons]
    by_cases h : p.1 = k
    · rw [if_pos h]
      by_cases e : p.1 = j
      · rw [valV_pos (p := (p.1, y)) e, valV_pos e, Option.map_some, if_pos (e.symm.trans h)]
      · rw [valV_neg (p := (p.1, y)) e, valV_neg e, ih]
    · rw [if_neg h]
      by_cases e : p.1 = j
      · rw [valV_pos (p := p) e, valV_pos e, Option.map_some, if_neg (fun z => h (e.trans z))]
      · rw [valV_neg (p := p) e, valV_neg e, ih]
theorem valV_snoc (k j : κ) (y : V) : ∀ kvs : List (κ × V), valV kvs k = none → valV (kvs ++ [(k, y)]) j = if j = k then some y else valV kvs j
  | [], _ => by
    by_cases e : k = j
    · rw [if_pos e.symm]; exact valV_pos (p := (k, y)) e
    · rw [if_neg (fun z => e z.symm)]; exact valV_neg (p := (k, y)) e
  | p :: r, hn => by
    rw [List.cons_append]
    have hk : ¬ p.1 = k := fun z => by rw [valV_pos z] at hn; cases hn
    rw [valV_neg hk] at hn
    have ih := valV_snoc k j y r hn
    by_cases e : p.1 = j
    · rw [valV_pos e, valV_pos e, if_neg (fun z => hk (e.trans z))]
    · rw [valV_neg e, valV_neg e, ih]
theorem valV_put (kvs : List (κ × V)) (k j : κ) (y : V) : valV (putK kvs k y) j = if j = k then some y else valV kvs j := by
  unfold putK
  by_cases a : (kvs.any fun kv => decide (kv.1 = k)) = true
  · rw [if_pos a, valV_map]
    rw [valV_any] at a
    by_cases e : j = k
    · obtain ⟨x, hx⟩ := Option.isSome_iff_exists.mp a
      rw [if_pos e, e, hx, Option.map_some, if_pos rfl]
    · rw [if_neg e]
      cases valV kvs j with
      | none => rfl
      | some x => rw [Option.map_some, if_neg e]
  · rw [if_neg a]
    refine valV_snoc k j y kvs ?_
    rw [valV_any] at a
    cases q : valV kvs k with
    | none => rfl
    | some x => rw [q] at a; exact (a rfl).elim
theorem length_putK (kvs : List (κ × V)) (k : κ) (v : V) : (putK kvs k v).length ≤ kvs.length + 1 := by
  unfold putK
  split
  · rw [List.length_map]; omega
  · rw [List.length_append, List.length_cons, List.length_nil]; omega
theorem putK_new {kvs : List (κ × V)} {k : κ} (v : V) (h : valV kvs k = none) : putK kvs k v = kvs ++ [(k, v)] := by
  unfold putK
  rw [valV_any, h]
  exact if_neg (by decide)

theorem RelO.isSome_eq {o : Option V} {u : Option Value} (r : RelO o u) : o.isSome = u.isSome := by
  cases o with
  | none => cases u with
    | none => rfl
    | some _ => exact (show False from r).elim
  | some _ => cases u with
    | none => exact (show False from r).elim
    | some _ => rfl
/-- raw tables of the same keys -/
theorem KV.val {kvs : List (κ × V)} {vs : List (κ × Value)} (r : KV kvs vs) (k : κ) : RelO (valV kvs k) (valueAt vs k) := by
  unfold KV at r
  induction r with
  | nil => exact True.intro
  | @cons p q ps qs h t ih =>
    obtain ⟨h1, h2⟩ := h
    by_cases e : p.1 = k
    · have e' : q.1 = k := h1.symm.trans e
      have b : valueAt (q :: qs) k = some q.2 := by simp [valueAt, List.find?_cons, e']
      rw [valV_pos e, b]; exact h2
    · have e' : ¬ q.1 = k := fun z => e (h1.trans z)
      have b : valueAt (q :: qs) k = valueAt qs k := by simp [valueAt, List.find?_cons, e']
      rw [valV_neg e, b]; exact ih
theorem KV.any {kvs : List (κ × V)} {vs : List (κ × Value)} (r : KV kvs vs) (k : κ) : (kvs.any fun kv => decide (kv.1 = k)) = vs.any fun kv => decide (kv.1 = k) := by
  unfold KV at r
  induction r with
  | nil => rfl
  | cons h t ih => rw [List.any_cons, List.any_cons, ih, h.1]
theorem KV.repl {kvs : List (κ × V)} {vs : List (κ × Value)} (r : KV kvs vs) (k : κ) {y : V} {u : Value} (ry : RelV y u) :
    KV (kvs.map fun kv => if kv.1 = k then (kv.1, y) else kv) (vs.map fun kv => if kv.1 = k then (kv.1, u) else kv) := by
  unfold KV at r ⊢
  induction r with
  | nil => exact .nil
  | @cons p q ps qs h t ih =>
    rw [List.map_cons, List.map_cons]
    refine .cons ?_ ih
    obtain ⟨h1, h2⟩ := h
    by_cases e : p.1 = k
    · rw [if_pos e, if_pos (h1.symm.trans e)]; exact ⟨h1, ry⟩
    · rw [if_neg e, if_neg (fun z => e (h1.trans z))]; exact ⟨h1, h2⟩
theorem KV.put {kvs : List (κ × V)} {vs : List (κ × Value)} (r : KV kvs vs) (k : κ) {y : V} {u : Value} (ry : RelV y u) : KV (putK kvs k y) (stored vs k u) := by
  unfold putK stored
  rw [r.any k]
  by_cases e : (vs.any fun kv => decide (kv.1 = k)) = true
  · rw [if_pos e, if_pos e]; exact r.repl k ry
  · rw [if_neg e, if_neg e]; exact Paired.snoc r ⟨rfl, ry⟩
theorem KV.length {kvs : List (κ × V)} {vs : List (κ × Value)} (r : KV kvs vs) : kvs.length = vs.length := Paired.length r
end


/-! ### a tracked dict, its keys ints and texts or tuples of these -/
theorem kV_is {P : Program} {w : World} {k : Key} {u : Value} (r : RelV (kV k) u) : (mixKind P w).is k u = true := by
  cases k with
  | inl i => obtain ⟨t, e⟩ := (show ∃ t, u = Value.int i t from r); subst e; exact mixKind_int P w i t
  | inr x => obtain ⟨t, e⟩ := (show ∃ t, u = Value.str x t from r); subst e; exact mixKind_str P w x t
theorem items_are {P : Program} {w : World} : ∀ {ks : List Key} {us : List Value}, Vals (ks.map kV) us → ItemsAre (mixKind P w) ks us
  | [], _, r => by rw [List.map_nil] at r; cases r; exact .nil
  | k :: ks, _, r => by
    rw [List.map_cons] at r
    cases r with
    | cons h t => exact .cons (kV_is h) (items_are t)

/-- raw entries of a dict with tuple keys -/
noncomputable abbrev KT (H : Hp) : List (List Key × V) → List (List Key × Addr × Value) → Prop := Paired fun p q => p.1 = q.1 ∧ H q.2.1 = some (.tup (p.1.map kV)) ∧ RelV p.2 q.2.2
theorem KT.val {H : Hp} {kvs : List (List Key × V)} {xs : List (List Key × Addr × Value)} (r : KT H kvs xs) (k : List Key) : RelO (valV kvs k) ((atKey xs k).map (·.2)) := by
  induction r with
  | nil => exact True.intro
  | @cons p q ps qs h t ih =>
    obtain ⟨h1, _, h2⟩ := h
    by_cases e : p.1 = k
    · have e' : q.1 = k := h1.symm.trans e
      have b : atKey (q :: qs) k = some q.2 := by simp [atKey, List.find?_cons, e']
      rw [valV_pos e, b]; exact h2
    · have e' : ¬ q.1 = k := fun z => e (h1.trans z)
      have b : atKey (q :: qs) k = atKey qs k := by simp [atKey, List.find?_cons, e']
      rw [valV_neg e, b]; exact ih
theorem KT.repl {H : Hp} {kvs : List (List Key × V)} {xs : List (List Key × Addr × Value)} (r : KT H kvs xs) (k : List Key) {y : V} {u : Value} (ry : RelV y u) :
    KT H (kvs.map fun kv => if kv.1 = k then (kv.1, y) else kv) (xs.map (putAt k u)) := by
  induction r with
  | nil => exact .nil
  | @cons p q ps qs h t ih =>
    rw [List.map_cons, List.map_cons]
    refine .cons ?_ ih
    obtain ⟨h1, h2, h3⟩ := h
    unfold putAt
    by_cases e : p.1 = k
    · rw [if_pos e, if_pos (h1.symm.trans e)]; exact ⟨h1, h2, ry⟩
    · rw [if_neg e, if_neg (fun z => e (h1.trans z))]; exact ⟨h1, h2, h3⟩
theorem KT.put {H : Hp} {kvs : List (List Key × V)} {xs : List (List Key × Addr × Value)} (r : KT H kvs xs) (k : List Key) {b : Addr} {y : V} {u : Value} (hb : H b = some (.tup (k.map kV))) (ry : RelV y u) :
    KT H (putK kvs k y) (storedH xs k b u) := by
  have e : (kvs.any fun kv => decide (kv.1 = k)) = (atKey xs k).isSome := by
    rw [valV_any, (r.val k).isSome_eq, Option.isSome_map]
  unfold putK storedH
  rw [e]
  by_cases q : (atKey xs k).isSome = true
  · rw [if_pos q, if_pos q]; exact r.repl k ry
  · rw [if_neg q, if_neg q]; exact Paired.snoc r ⟨rfl, hb, ry⟩
theorem KT.keeps {H H' : Hp} {kvs : List (List Key × V)} {xs : List (List Key × Addr × Value)} (r : KT H kvs xs) (ht : ∀ b ys, H b = some (.tup ys) → H' b = some (.tup ys)) : KT H' kvs xs :=
  Paired.mapP r fun _ _ z => ⟨z.1, ht _ _ z.2.1, z.2.2⟩

section
variable {P : Program} {w : World} {H : Hp} {h : Heap} {a : Addr}
theorem rd_of {u : HO} (ok : HOk P w H h) (e : Rd H a u) : ObjOk P w H h a u := e.ok ok
theorem dk_rd {kvs : List (Key × V)} (ok : HOk P w H h) (e : Rd H a (.dK kvs)) : kvs.length ≤ sizeLine ∧ (a == sysModules) = false ∧ ∃ vs, KV kvs vs ∧ h.DictOf (mixKind P w) a vs :=
  show ObjOk P w H h a (.dK kvs) from rd_of ok e
theorem dk_of {kvs : List (Key × V)} (ok : HOk P w H h) (e : H a = some (.dK kvs)) : kvs.length ≤ sizeLine ∧ (a == sysModules) = false ∧ ∃ vs, KV kvs vs ∧ h.DictOf (mixKind P w) a vs := dk_rd ok (.inl e)
/-- a tracked tuple of ints and texts is a key -/
theorem key_of {ks : List Key} (ok : HOk P w H h) (e : H a = some (.tup (ks.map kV))) : (tupleKind (mixKind P w)).is h ks a := by
  obtain ⟨_, its, r, o, h1, h2, n, h3⟩ := (show ObjOk P w H h a (.tup (ks.map kV)) from ok a _ e)
  exact ⟨o, its.toArray, n, h1, h2, h3, by simpa using items_are r⟩
theorem dt_rd {kvs : List (List Key × V)} (ok : HOk P w H h) (e : Rd H a (.dT kvs)) : kvs.length ≤ sizeLine ∧ (a == sysModules) = false ∧
    ∃ xs, KT H kvs xs ∧ h.DictOfH (tupleKind (mixKind P w)) a xs := by
  obtain ⟨z, y, xs, r, o, es, ep, h1, h2, h3, h4, h5⟩ := (show ObjOk P w H h a (.dT kvs) from rd_of ok e)
  refine ⟨z, y, xs, r, o, es, ep, h1, h2, h3, h4, fun x hx => ?_, h5⟩
  have all : ∀ {l : List (List Key × V)} {m : List (List Key × Addr × Value)}, KT H l m → ∀ x ∈ m, (tupleKind (mixKind P w)).is h x.1 x.2.1 := by
    intro l m q
    induction q with
    | nil => intro x hx; exact nomatch hx
    | @cons p q ps qs hq t ih =>
      intro x hx
      rcases List.mem_cons.mp hx with e | hx
      · subst e
        exact key_of ok (by rw [← hq.1]; exact hq.2.1)
      · exact ih x hx
  exact all r x hx
theorem dt_of {kvs : List (List Key × V)} (ok : HOk P w H h) (e : H a = some (.dT kvs)) : kvs.length ≤ sizeLine ∧ (a == sysModules) = false ∧
    ∃ xs, KT H kvs xs ∧ h.DictOfH (tupleKind (mixKind P w)) a xs := dt_rd ok (.inl e)
end

/-- what the dict at a holds at the key y -/
noncomputable def DGet (H : Hp) (a : Addr) (y : V) (r : Option V) : Prop :=
  (∃ kvs k, Rd H a (.dK kvs) ∧ y = kV k ∧ r = valV kvs k) ∨ ∃ kvs k b, Rd H a (.dT kvs) ∧ y = .ref b ∧ H b = some (.tup (k.map kV)) ∧ r = valV kvs k
/-- the heap behind a[y] = v -/
noncomputable def DPut (H : Hp) (a : Addr) (y v : V) (H' : Hp) : Prop :=
  (∃ kvs k, H a = some (.dK kvs) ∧ y = kV k ∧ kvs.length < sizeLine ∧ H' = upd H a (.dK (putK kvs k v))) ∨
  ∃ kvs k b, H a = some (.dT kvs) ∧ y = .ref b ∧ H b = some (.tup (k.map kV)) ∧ kvs.length < sizeLine ∧ H' = upd H a (.dT (putK kvs k v))
theorem DGet.k {H : Hp} {a : Addr} {kvs : List (Key × V)} {k : Key} (e : H a = some (.dK kvs)) : DGet H a (kV k) (valV kvs k) := .inl ⟨kvs, k, .inl e, rfl, rfl⟩
theorem DPut.k {H : Hp} {a : Addr} {kvs : List (Key × V)} {k : Key} {v : V} (e : H a = some (.dK kvs)) (hl : kvs.length < sizeLine) : DPut H a (kV k) v (upd H a (.dK (putK kvs k v))) := .inl ⟨kvs, k, e, rfl, hl, rfl⟩
section
variable {X : Cx} {pins : List (Addr × Obj)} {σ : St} {H : Hp} {s : Shared} {a : Addr} {y v : V} {u r : Value} {o : Option V} {A : Around} {E : Value → Shared → Prop}

theorem Inv.big (I : Inv X pins σ H s) : sysModules < s.heap.objs.size := by
  have h : mainGlobals < s.heap.objs.size := (I.mod.glob.keeps I.bk).lt
  exact Nat.lt_trans (by decide) h

/-- d[y], there -/
theorem d_getItem {Q : Value → Shared → Prop} (hu : A.units + 1 < cLine) (I : Inv X pins σ H s) (g : DGet H a y (some v)) (ry : RelV y u) (h : ∀ w' s', Inv X pins σ H s' → RelV v w' → Q w' s') :
    wpAny (model X.prog X.w) A (getItem (.ref a) u) Q E s := by
  rcases g with ⟨kvs, k, e, ey, l⟩ | ⟨kvs, k, b, e, ey, eb, l⟩
  · subst ey
    obtain ⟨z, hd, vs, rel, dd⟩ := dk_rd I.hok e
    obtain ⟨w', hw, rw'⟩ := RelO.some_of (v := v) (o := valueAt vs k) (by rw [l]; exact rel.val k)
    exact wpAny_getItem_of (kV_is ry) dd.mapOf hw (h w' _ (I.tok _) rw')
  · subst ey
    cases (show u = Value.ref b from ry)
    obtain ⟨z, hd, xs, rel, dd⟩ := dt_rd I.hok e
    obtain ⟨w', hw, rw'⟩ := RelO.some_of (v := v) (o := (atKey xs k).map (·.2)) (by rw [l]; exact rel.val k)
    obtain ⟨p, hp, hp2⟩ := Option.map_eq_some_iff.mp hw
    refine wpAny_getItem_heap (tupleKind_room_in1 hu) (key_of I.hok eb) dd hp ?_
    rw [hp2]
    exact h w' _ (I.tok _) rw'
/-- y in d -/
theorem d_in {Q : Value → Shared → Prop} (hu : A.units + 1 < cLine) (I : Inv X pins σ H s) (g : DGet H a y o) (ry : RelV y u) (h : ∀ s', Inv X pins σ H s' → Q (.bool o.isSome) s') :
    wpAny (model X.prog X.w) A (compareOp .In u (.ref a)) Q E s := by
  rcases g with ⟨kvs, k, e, ey, l⟩ | ⟨kvs, k, b, e, ey, eb, l⟩
  · subst ey
    obtain ⟨z, hd, vs, rel, dd⟩ := dk_rd I.hok e
    refine wpAny_in_of (kV_is ry) hd dd.mapOf ?_
    rw [← (rel.val k).isSome_eq, ← l]
    exact h _ (I.tok _)
  · subst ey
    cases (show u = Value.ref b from ry)
    obtain ⟨z, hd, xs, rel, dd⟩ := dt_rd I.hok e
    refine wpAny_in_heap (tupleKind_room_in1 hu) (key_of I.hok eb) hd dd ?_
    have q := (rel.val k).isSome_eq
    rw [Option.isSome_map] at q
    rw [← q, ← l]
    exact h _ (I.tok _)
theorem d_notIn {Q : Value → Shared → Prop} (hu : A.units + 1 < cLine) (I : Inv X pins σ H s) (g : DGet H a y o) (ry : RelV y u) (h : ∀ s', Inv X pins σ H s' → Q (.bool (!o.isSome)) s') :
    wpAny (model X.prog X.w) A (compareOp .NotIn u (.ref a)) Q E s := by
  rcases g with ⟨kvs, k, e, ey, l⟩ | ⟨kvs, k, b, e, ey, eb, l⟩
  · subst ey
    obtain ⟨z, hd, vs, rel, dd⟩ := dk_rd I.hok e
    refine wpAny_notIn_of (kV_is ry) hd dd.mapOf ?_
    rw [← (rel.val k).isSome_eq, ← l]
    exact h _ (I.tok _)
  · subst ey
    cases (show u = Value.ref b from ry)
    obtain ⟨z, hd, xs, rel, dd⟩ := dt_rd I.hok e
    refine wpAny_notIn_heap (tupleKind_room_in1 hu) (key_of I.hok eb) hd dd ?_
    have q := (rel.val k).isSome_eq
    rw [Option.isSome_map] at q
    rw [← q, ← l]
    exact h _ (I.tok _)
/-- a dict's object is replaced -/
theorem d_write {h' : Heap} {t' : Nat} {ob : HO} (I : Inv X pins σ H s) (mu : Mut (H a)) (hs : Heap.SameBut a s.heap h') (he : ∃ q, h'.get? a = some q) (new : ObjOk X.prog X.w (upd H a ob) h' a ob) :
    Inv X pins σ (upd H a ob) { s with heap := h', toks := t' } :=
  I.write (x := a) (e := a) mu (.inl rfl) (fun b q hb z => (hs.2 b hb).trans z) he new
theorem dk_new {P : Program} {w : World} {H' : Hp} {h' : Heap} {kvs : List (Key × V)} {vs : List (Key × Value)} (z : kvs.length ≤ sizeLine) (hd : (a == sysModules) = false) (rel : KV kvs vs) (dd : h'.DictOf (mixKind P w) a vs) :
    ObjOk P w H' h' a (.dK kvs) := ⟨z, hd, vs, rel, dd⟩
/-- d[y] = v -/
theorem d_setItem {H' : Hp} {Q : Unit → Shared → Prop} (hu : A.units + 1 < cLine) (I : Inv X pins σ H s) (g : DPut H a y v H') (ry : RelV y u) (rv : RelV v r) (h : ∀ s', Inv X pins σ H' s' → Q () s') :
    wpAny (model X.prog X.w) A (setItem (.ref a) u r) Q E s := by
  rcases g with ⟨kvs, k, e, ey, l, eH⟩ | ⟨kvs, k, b, e, ey, eb, l, eH⟩
  · subst ey eH
    obtain ⟨z, hd, vs, rel, dd⟩ := dk_of I.hok e
    have hz : vs.length ≤ sizeLine := by rw [← rel.length]; exact z
    have hl : (putK kvs k v).length ≤ sizeLine := by have := length_putK kvs k v; omega
    refine wpAny_setItem_pairs (hsz := hz) (kV_is ry) dd fun h' dd' hs => h _ ?_
    have he : ∃ q, h'.get? a = some q := let ⟨q, _, _, hq, _⟩ := dd'; ⟨q, hq⟩
    exact d_write I (by rw [e]; exact True.intro) hs he (dk_new hl hd (rel.put k rv) dd')
  · subst ey eH
    cases (show u = Value.ref b from ry)
    obtain ⟨z, hd, xs, rel, dd⟩ := dt_of I.hok e
    have hz : xs.length ≤ sizeLine := by rw [← Paired.length rel]; exact z
    have hl : (putK kvs k v).length ≤ sizeLine := by have := length_putK kvs k v; omega
    refine wpAny_setItem_heap (hsz := hz) (tupleKind_room_in1 hu) (key_of I.hok eb) dd fun h' dd' hs => h _ ?_
    obtain ⟨q, es, ep, hq, h2, h3, h4, _, h5⟩ := dd'
    refine d_write I (by rw [e]; exact True.intro) hs ⟨q, hq⟩ ⟨hl, hd, _, (rel.put k eb rv).keeps fun c ys ec => ?_, q, es, ep, hq, h2, h3, h4, h5⟩
    rw [upd_ne (ne_of ec e (fun z => nomatch z))]
    exact ec
end

section
variable {X : Cx} {pins : List (Addr × Obj)} {σ : St} {H : Hp} {s : Shared} {a : Addr} {kvs : List (Key × V)} {k : Key} {u : Value} {A : Around} {E : Value → Shared → Prop}
end


/-! ### readings and rules -/
/-- the element of a subscription, not a slice -/
noncomputable def NoSl (i : Expr) : Prop := ∀ ov iv, subscripted i false ov iv = operate [ov, iv] (getItem ov iv)
theorem subD_of {prog : Program} {w : World} {A : Around} {E : Value → Shared → Prop} {s : Shared} {env : Env} {value slice : Expr} {pos : Pos} {T id : String} {Q : Value → Shared → Prop}
    (hl : typeLookup (.type T) "__getitem__" = pure (some (.builtin id))) (hs : NoSl slice)
    (h : wpAny (model prog w) A (eval value env) (fun o s₁ => wpAny (model prog w) A (eval slice env) (fun i s₂ => s₂.TypeIs o T ∧ wpAny (model prog w) A (getItem o i) Q E s₂) E s₁) E s) :
    wpAny (model prog w) A (eval (.Subscript value slice pos) env) Q E s := by
  refine Subscript_ (wpAny_mono h (fun o s₁ h₁ => wpAny_mono h₁ (fun i s₂ h₂ => ?_) fun _ _ x => x) fun _ _ x => x)
  obtain ⟨hT, h₂⟩ := h₂
  unfold subscriptTail
  refine wpAny_bind ?_
  rw [getitemInPython_of_ne hT.not_modules]
  refine wpAny_bind (wpAny_specialOf hT hl ?_)
  have fin : wpAny (model prog w) A (subscripted slice false o i) (fun r s₃ => wpAny (model prog w) A (letTemporaryGo value o r >>= fun _ => pure r) Q E s₃) E s₂ := by
    rw [hs o i]
    exact wpAny_operating (wpAny_mono h₂ (fun r s₃ h₃ => wpAny_bind (wpAny_letTemporaryGo (wpAny_pure h₃))) fun _ _ x => x)
  first
    | exact wpAny_pure (wpAny_bind fin)
    | exact wpAny_bind (wpAny_pure (wpAny_bind fin))
    | exact wpAny_bind fin

theorem dict_typeIs {X : Cx} {pins : List (Addr × Obj)} {σ : St} {H : Hp} {s : Shared} {a : Addr} {y : V} {o : Option V} (I : Inv X pins σ H s) (g : DGet H a y o) : s.TypeIs (.ref a) "dict" := by
  rcases g with ⟨kvs, k, e, _, _⟩ | ⟨kvs, k, b, e, _, _, _⟩
  · obtain ⟨_, _, vs, _, dd⟩ := dk_rd I.hok e
    exact dd.typeIs
  · obtain ⟨_, _, xs, _, dd⟩ := dt_rd I.hok e
    exact dd.typeIs
/-- d[y] -/
noncomputable def tDGet (td ty : TE) : TE := fun σ H Q => td σ H fun x H1 => ty σ H1 fun y H2 => ∃ a v, x = .ref a ∧ DGet H2 a y (some v) ∧ Q v H2
/-- y in d, y not in d -/
noncomputable def tDIn (ty td : TE) : TE := fun σ H Q => ty σ H fun y H1 => td σ H1 fun x H2 => ∃ a o, x = .ref a ∧ DGet H2 a y o ∧ Q (.bl o.isSome) H2
noncomputable def tDNotIn (ty td : TE) : TE := fun σ H Q => ty σ H fun y H1 => td σ H1 fun x H2 => ∃ a o, x = .ref a ∧ DGet H2 a y o ∧ Q (.bl (!o.isSome)) H2
/-- d[y] = v -/
noncomputable def sDPut (td ty tv : TE) : TS := fun D σ H => tv σ H fun v H1 => td σ H1 fun x H2 => ty σ H2 fun y H3 => ∃ a H4, x = .ref a ∧ DPut H3 a y v H4 ∧ D.nx σ H4
section
variable {X : Cx} {o i e value : Expr} {pos pos' tpos : Pos} {td ty tv : TE}
theorem pe_dget (hu : X.A.units + 1 < cLine) (ho : PE X o td) (hi : PE X i ty) (hs : NoSl i) : PE X (.Subscript o i pos) (tDGet td ty) := by
  intro pins s σ H Q I h
  refine subD_of PySem.F.slot_dict_getitem.lookup hs (thn (ho pins s σ H _ I h) fun u s1 ⟨x, H1, I1, rx, q1⟩ => thn (hi pins s1 σ H1 _ I1 q1) fun iv s2 hh9 => ?_)
  obtain ⟨y, H2, I2, ry, a, v, ex, g, q2⟩ := hh9
  subst ex
  obtain rfl : u = Value.ref a := rx
  exact ⟨dict_typeIs I2 g, d_getItem hu I2 g ry fun w' s3 I3 rw' => ⟨v, H2, I3, rw', q2⟩⟩
theorem pc_din (hu : X.A.units + 1 < cLine) (hi : PE X i ty) (ho : PE X o td) : PC X .In i o (tDIn ty td) := by
  intro pins s σ H Q I h
  refine thn (hi pins s σ H _ I h) fun iv s1 ⟨y, H1, I1, ry, q1⟩ => thn (ho pins s1 σ H1 _ I1 q1) fun u s2 hh9 => ?_
  obtain ⟨x, H2, I2, rx, a, ov, ex, g, q2⟩ := hh9
  subst ex
  obtain rfl : u = Value.ref a := rx
  exact d_in hu I2 g ry fun s3 I3 => ⟨.bl ov.isSome, H2, I3, rfl, q2⟩
theorem pc_dnotin (hu : X.A.units + 1 < cLine) (hi : PE X i ty) (ho : PE X o td) : PC X .NotIn i o (tDNotIn ty td) := by
  intro pins s σ H Q I h
  refine thn (hi pins s σ H _ I h) fun iv s1 ⟨y, H1, I1, ry, q1⟩ => thn (ho pins s1 σ H1 _ I1 q1) fun u s2 hh9 => ?_
  obtain ⟨x, H2, I2, rx, a, ov, ex, g, q2⟩ := hh9
  subst ex
  obtain rfl : u = Value.ref a := rx
  exact d_notIn hu I2 g ry fun s3 I3 => ⟨.bl (!ov.isSome), H2, I3, rfl, q2⟩
theorem ps_dput (hu : X.A.units + 1 < cLine) (ho : PE X o td) (hi : PE X i ty) (hv : PE X value tv) (hs : swapsWith value (some (.Subscript o i pos')) pos.line X.env = pure false) :
    PS X (.Assign [.Subscript o i pos'] value pos) (sDPut td ty tv) := by
  intro pins s σ H D I h
  refine wpAny_Assign_Subscript (thn (hv pins s σ H _ I h) fun r s1 ⟨v, H1, I1, rv, q1⟩ => thn (ho pins s1 σ H1 _ I1 q1) fun u s2 ⟨x, H2, I2, rx, q2⟩ => thn (hi pins s2 σ H2 _ I2 q2) fun iv s3 hh9 => ?_) hs
  obtain ⟨y, H3, I3, ry, a, H4, ex, g, q3⟩ := hh9
  subst ex
  obtain rfl : u = Value.ref a := rx
  exact d_setItem hu I3 g ry rv fun s4 I4 => ⟨σ, H4, I4, q3⟩
end


/-! ### displays -/
theorem dk_empty {P : Program} {w : World} {H : Hp} (h : Heap) (hb : sysModules < h.objs.size) : ObjOk P w H (h.push { cls := .type "dict", data := .dict #[] }) h.objs.size (.dK []) :=
  ⟨Nat.zero_le _, beq_eq_false_iff_ne.mpr (Ne.symm (Nat.ne_of_lt hb)), [], .nil, Heap.DictOf.new h⟩
/-- {}, to be a dict of the kind that is wanted -/
noncomputable def tDNewK : TE := fun _ H Q => ∀ p, H p = none → Q (.ref p) (upd H p (.dK []))
section
variable {X : Cx} {pos : Pos}
theorem pe_dnewK : PE X (.Dict [] [] pos) tDNewK := fun pins s σ H Q I h =>
  wpAny_Dict_empty ⟨.ref s.heap.objs.size, _, I.laid (a := s.heap.objs.size) (o := .dK []) (t' := s.toks) (fun _ _ q => Heap.get?_push_of_some _ q) (Nat.le_refl _) (dk_empty s.heap I.big), rfl, h _ (I.hok.fresh (Nat.le_refl _))⟩
end

/-! ### methods -/
section
variable {X : Cx} {pins : List (Addr × Obj)} {σ : St} {H : Hp} {s : Shared} {a : Addr} {y d : V} {u r : Value} {o : Option V} {A : Around} {E : Value → Shared → Prop}
end

section
variable {X : Cx} {o e f : Expr} {apos cpos : Pos} {td ty tx : TE}
end

/-! ### dict(d): a copy -/
section
variable {X : Cx} {pins : List (Addr × Obj)} {σ : St} {H : Hp} {s : Shared} {a : Addr} {kvs : List (Key × V)} {A : Around} {E : Value → Shared → Prop}
end


section
variable {X : Cx} {pins : List (Addr × Obj)} {σ : St} {H : Hp} {s : Shared} {a : Addr} {y : V} {u : Value} {A : Around} {E : Value → Shared → Prop}
end
end L2
namespace L2
open PySem PySem.Spec PyProof.Rows
section
variable {κ : Type} [DecidableEq κ]
end
end L2
/-! RULES OF MY OWN over the layer: isinstance, == and != of tuples and lists of flat items, > of tuples of ints, a range by steps. -/
namespace Add
open PySem PySem.Spec PyProof.Rows L2

theorem pos {j : Int} (h : 0 < j) : 0 < j := h
section
variable {K : PySem.W.Frag}
theorem kit_int_int : PySem.W.kitOne K (.type "int") (.type "int") = some true := by kernel_rfl
end

section
variable {X : Cx}
theorem call_isi : CallR X (.builtin "isinstance") (fun xs H Q => ∃ x t c b, xs = [x, .ty c] ∧ TyOf X.K H x t ∧ PySem.W.kitOne X.K t (.type c) = some b ∧ Q (.bl b) H) := by
  intro pins s σ H xs us Q I r h
  obtain ⟨x, t, c, b, rfl, ty, e, q⟩ := h
  obtain ⟨u, u', rfl, r1, r2⟩ := Vals.two r
  cases (show u' = Value.type c from r2)
  exact isinst_ok I r1 ty e fun tk => ⟨.bl b, H, I.tok tk, rfl, q⟩

/-- two lists of flat values, item by item -/
noncomputable def eqVs : List V → List V → Bool
  | [], [] => true
  | x :: xs, y :: ys => eqV x y && eqVs xs ys
  | _, _ => false
noncomputable def eAt (xs ys : List V) (j : Nat) : Bool := match xs[j]?, ys[j]? with
  | some x, some y => eqV x y
  | _, _ => false
theorem all_eq : ∀ (xs ys : List V), ((List.range (min xs.length ys.length)).all (eAt xs ys) && (xs.length == ys.length)) = eqVs xs ys
  | [], [] => rfl
  | [], _ :: _ => by simp [eqVs]
  | _ :: _, [] => by simp [eqVs]
  | x :: xs, y :: ys => by
    have ih := all_eq xs ys
    have e : min (x :: xs).length (y :: ys).length = min xs.length ys.length + 1 := by simp only [List.length_cons]; omega
    rw [e, List.range_succ_eq_map, List.all_cons, List.all_map]
    have f : (eAt (x :: xs) (y :: ys) ∘ Nat.succ) = eAt xs ys := by funext j; simp [eAt, Function.comp]
    have g : ((x :: xs).length == (y :: ys).length) = (xs.length == ys.length) := by simp
    rw [f, g]
    show ((eqV x y && (List.range (min xs.length ys.length)).all (eAt xs ys)) && (xs.length == ys.length)) = (eqV x y && eqVs xs ys)
    rw [← ih, Bool.and_assoc]
theorem items_eq {A : Around} {s : Shared} {xs ys : List V} {us ws : List Value} (r : Vals xs us) (r' : Vals ys ws) (fx : xs.all flatV = true) (fy : ys.all flatV = true) :
    ∀ j (h1 : j < us.toArray.size) (h2 : j < ws.toArray.size), SeqAt.EqAt A s us.toArray[j] ws.toArray[j] (eAt xs ys j) := by
  intro j h1 h2
  have g1 : j < xs.length := by rw [r.length]; simpa using h1
  have g2 : j < ys.length := by rw [r'.length]; simpa using h2
  obtain ⟨u, hu, ru⟩ := r.get (i := j) (x := xs[j]) (by simp [g1])
  obtain ⟨w, hw, rw'⟩ := r'.get (i := j) (x := ys[j]) (by simp [g2])
  have e1 : us.toArray[j] = u := by
    have : us[j]? = some us[j] := by simp
    rw [this] at hu
    simpa using Option.some.inj hu
  have e2 : ws.toArray[j] = w := by
    have : ws[j]? = some ws[j] := by simp
    rw [this] at hw
    simpa using Option.some.inj hw
  have e3 : eAt xs ys j = eqV xs[j] ys[j] := by simp [eAt, g1, g2]
  rw [e1, e2, e3]
  exact eqAt_V ru rw' (List.all_eq_true.mp fx _ (List.getElem_mem g1)) (List.all_eq_true.mp fy _ (List.getElem_mem g2))
end

/-! ### range(i, j, c), c a positive number -/
section
variable {X : Cx} {tg : Expr}
end
end Add
namespace Add
open PySem PySem.Spec PyProof.Rows L2
section
open PySem.SeqAt
open PySem.AutoSeq1 (wpAny_loadPart')
open PySem.MeetsSeq PySem.MeetsSeq2 PySem.MeetsSeq3
open HT
end
section
variable {prog : Program} {w : World} {A : Around} {E : Value → Shared → Prop} {s : Shared}
end
section
variable {X : Cx}
end
end Add

namespace Add
open PySem PySem.Spec PyProof.Rows L2

/-! ### a comprehension with one for and at most one if -/
theorem closure_go {env : Env} : ∀ (names : List (Str × NameKind)) (acc : List (Str × Addr)), (∀ x ∈ names, x.2 = .free → ∃ c, env.cells.lookup x.1 = some c) →
    (∀ x c, acc.lookup x = some c → env.cells.lookup x = some c) →
    ∃ cl, (forIn names acc fun (x : Str × NameKind) (cs : List (Str × Addr)) => if (x.2 == NameKind.free) = true then (do let a ← cellOf env x.1; pure (ForInStep.yield ((x.1, a) :: cs))) else (pure (ForInStep.yield cs) : Sem (ForInStep (List (Str × Addr))))) = pure cl ∧
      (∀ x c, cl.lookup x = some c → env.cells.lookup x = some c) ∧ (∀ x, (acc.lookup x).isSome = true → (cl.lookup x).isSome = true) ∧ ∀ x ∈ names, x.2 = .free → (cl.lookup x.1).isSome = true
  | [], acc, _, ha => ⟨acc, rfl, ha, fun _ h => h, fun _ h => absurd h (by simp)⟩
  | (n, k) :: r, acc, hf, ha => by
    have hr : ∀ x ∈ r, x.2 = .free → ∃ c, env.cells.lookup x.1 = some c := fun x hx => hf x (List.mem_cons_of_mem _ hx)
    rw [List.forIn_cons]
    cases hk : (k == NameKind.free) with
    | false =>
      obtain ⟨cl, e, c1, c2, c3⟩ := closure_go r acc hr ha
      refine ⟨cl, ?_, c1, c2, fun x hx hx2 => ?_⟩
      · simp only [hk, Bool.false_eq_true, if_false]
        exact e
      · rcases List.mem_cons.mp hx with z | z
        · subst z
          have z2 : k = .free := hx2
          subst z2
          exact absurd hk (by decide)
        · exact c3 x z hx2
    | true =>
      have hk' : k = .free := by simpa using hk
      obtain ⟨c, hc⟩ := hf (n, k) List.mem_cons_self hk'
      have ha' : ∀ x d, ((n, c) :: acc).lookup x = some d → env.cells.lookup x = some d := fun x d e => by
        rw [List.lookup_cons] at e
        cases q : x == n with
        | true =>
          rw [q] at e
          have q' : x = n := by simpa using q
          subst q'
          rw [hc]; exact e
        | false => rw [q] at e; exact ha x d e
      obtain ⟨cl, e, c1, c2, c3⟩ := closure_go r ((n, c) :: acc) hr ha'
      have there : ((((n, c) :: acc).lookup n).isSome) = true := by simp
      refine ⟨cl, ?_, c1, fun x hx => c2 x ?_, fun x hx hx2 => ?_⟩
      · have hcell : cellOf env n = pure c := by unfold cellOf; rw [hc]
        simp only [hk, if_true, hcell]
        exact e
      · rw [List.lookup_cons]
        cases q : x == n with
        | true => rfl
        | false => exact hx
      · rcases List.mem_cons.mp hx with z | z
        · subst z; exact c2 n there
        · exact c3 x z hx2
theorem closure_ok {env : Env} {scope : Scope} (hf : ∀ x ∈ scope.names, x.2 = .free → ∃ c, env.cells.lookup x.1 = some c) :
    ∃ cl, closureFor scope env = pure cl ∧ (∀ x c, cl.lookup x = some c → env.cells.lookup x = some c) ∧ ∀ x ∈ scope.names, x.2 = .free → (cl.lookup x.1).isSome = true := by
  obtain ⟨cl, e, c1, _, c3⟩ := closure_go scope.names [] hf (fun x c h => absurd h (by simp))
  refine ⟨cl, ?_, c1, c3⟩
  unfold closureFor
  exact (congrArg (fun z => z >>= fun cs => (pure cs : Sem (List (Str × Addr)))) e).trans rfl

/-- what must be so of the names of a comprehension's block: N its names, js where those from around stand in the def's own -/
noncomputable def compOk (N : List Str) (js : List (Option Nat)) (XN : List Str) (xs scope : Scope) : Bool :=
  (scope.kind == .function) && (scope.names.all fun x => x.2 != .cell) && (scope.names.all fun x => x.2 != .local || (scope.names.lookup x.1 == some .local)) &&
  (scope.names.all fun x => x.2 != .free || (xs.names.lookup x.1 == some .cell || xs.names.lookup x.1 == some .free)) && (N.length == js.length) &&
  ((N.zip js).all fun p => match p.2 with | none => true | some j => (XN[j]? == some p.1) && (xs.names.lookup p.1 == some .cell || xs.names.lookup p.1 == some .free) && (scope.names.any fun x => x.1 == p.1 && x.2 == .free) && (scope.names.lookup p.1 == some .free))

structure CompNm (N : List Str) (js : List (Option Nat)) (XN : List Str) (xs scope : Scope) : Prop where
  kind : scope.kind = .function
  nocell : ∀ x ∈ scope.names, x.2 ≠ .cell
  names : ∀ x ∈ scope.names, x.2 = .local → scope.names.lookup x.1 = some .local
  clos : ∀ x ∈ scope.names, x.2 = .free → (xs.names.lookup x.1 = some .cell ∨ xs.names.lookup x.1 = some .free)
  len : N.length = js.length
  free : ∀ (i j : Nat) (x : Str), N[i]? = some x → js[i]? = some (some j) → XN[j]? = some x ∧ (xs.names.lookup x = some .cell ∨ xs.names.lookup x = some .free) ∧ (x, NameKind.free) ∈ scope.names ∧ scope.names.lookup x = some .free
theorem compOk_nm {N : List Str} {js : List (Option Nat)} {XN : List Str} {xs scope : Scope} (h : compOk N js XN xs scope = true) : CompNm N js XN xs scope := by
  unfold compOk at h
  simp only [Bool.and_eq_true, List.all_eq_true, beq_iff_eq, Bool.or_eq_true, bne_iff_ne, ne_eq] at h
  obtain ⟨⟨⟨⟨⟨h1, h2⟩, h3⟩, h4⟩, h5⟩, h6⟩ := h
  refine ⟨h1, fun x hx => h2 x hx, fun x hx e => ?_, fun x hx e => ?_, h5, fun i j x e1 e2 => ?_⟩
  · rcases h3 x hx with z | z
    · exact absurd e z
    · exact z
  · rcases h4 x hx with z | z
    · exact absurd e z
    · exact z
  · have hz : (N.zip js)[i]? = some (x, some j) := by rw [List.getElem?_zip_eq_some]; exact ⟨e1, e2⟩
    have := h6 _ (List.mem_of_getElem? hz)
    simp only [Bool.and_eq_true, beq_iff_eq, Bool.or_eq_true, List.any_eq_true] at this
    obtain ⟨⟨⟨a1, a2⟩, y, hy, b1, b2⟩, a4⟩ := this
    refine ⟨a1, a2, ?_, a4⟩
    obtain ⟨y1, y2⟩ := y
    have b1' : y1 = x := b1
    have b2' : y2 = .free := b2
    subst b1' b2'
    exact hy

theorem lookup_free {env : Env} {scope : Scope} {x : Str} (h : scope.names.lookup x = some .free) : (relabel scope env).names.lookup x = some .cell ∨ (relabel scope env).names.lookup x = some .free := by
  have gen : ∀ (l : List (Str × NameKind)), l.lookup x = some .free → ((l.map fun (n, k) => if (k == NameKind.free && env.scope.kind == .function && env.kindOf n == some .cell) then (n, NameKind.cell) else (n, k)).lookup x = some .cell ∨ (l.map fun (n, k) => if (k == NameKind.free && env.scope.kind == .function && env.kindOf n == some .cell) then (n, NameKind.cell) else (n, k)).lookup x = some .free) := by
    intro l
    induction l with
    | nil => intro h; simp at h
    | cons y r ih =>
      obtain ⟨n, k⟩ := y
      intro h
      rw [List.lookup_cons] at h
      rw [List.map_cons]
      cases q : x == n with
      | false =>
        rw [q] at h
        have := ih h
        by_cases hc : (k == NameKind.free && env.scope.kind == .function && env.kindOf n == some .cell) = true
        · simpa [hc, List.lookup_cons, q] using this
        · simpa [hc, List.lookup_cons, q] using this
      | true =>
        rw [q] at h
        have h' : k = .free := Option.some.inj h
        subst h'
        by_cases hc : (NameKind.free == NameKind.free && env.scope.kind == .function && env.kindOf n == some .cell) = true
        · exact .inl (by show List.lookup x ((if (NameKind.free == NameKind.free && env.scope.kind == .function && env.kindOf n == some .cell) = true then (n, NameKind.cell) else (n, NameKind.free)) :: _) = _; rw [if_pos hc, List.lookup_cons, q])
        · exact .inr (by show List.lookup x ((if (NameKind.free == NameKind.free && env.scope.kind == .function && env.kindOf n == some .cell) = true then (n, NameKind.cell) else (n, NameKind.free)) :: _) = _; rw [if_neg hc, List.lookup_cons, q])
  exact gen scope.names h

noncomputable def cxComp (X : Cx) (N : List Str) (scope : Scope) (cl : List (Str × Addr)) (C : Addr) (s : Shared) (H : Hp) (fp : List Addr) (E : Value → Shared → Prop) : Cx :=
  { X with N := N, s₀ := s, H₀ := H, env := compEnvC scope cl C X.env, outer := X.stack, ex := fp, fn := fun _ => false, pn := [], xe := E }
/-- the block's names at its entry -/
noncomputable def compSt (js : List (Option Nat)) (σ : L2.St) : L2.St := js.map fun j => j.bind fun k => (σ[k]?).join

section
variable {prog : Program} {w : World} {A : Around} {R : Result → Shared → Prop} {s : Shared}
theorem compLoop_G {elt target iter : Expr} {ifs : List Expr} {scope : Scope} {pos : Pos} {it acc : Value} {env : Env} (I : Nat → Shared → Prop)
    (turn : ∀ n s, I n s → wpAny (model prog w) A (pyNext it) (fun r s₁ => match r with
      | none => R (.ok .next) s₁
      | some v => wpAny (model prog w) A (letOwnedTupleGo target it v) (fun _ s₁' => wpAny (model prog w) A (assign target env v) (fun _ s₂ =>
          wpAny (model prog w) A (forIn ifs true fun c r => if r = true then do let ok ← isTrue c env (eval c env); pure (ForInStep.yield ok) else pure (ForInStep.yield r)) (fun ok s₃ =>
            if ok = true then wpAny (model prog w) A (eval elt env) (fun x s₄ =>
              wpAny (model prog w) A (call (.builtin "list.append") [acc, x]) (fun _ s₅ => ∃ m, m < n ∧ I m s₅) (notedBy (model prog w) A env fun e s' => R (.error e) s') s₄) (notedBy (model prog w) A env fun e s' => R (.error e) s') s₃
            else ∃ m, m < n ∧ I m s₃) (notedBy (model prog w) A env fun e s' => R (.error e) s') s₂) (notedBy (model prog w) A env fun e s' => R (.error e) s') s₁')
          (notedBy (model prog w) A env fun e s' => R (.error e) s') s₁) (notedBy (model prog w) A env fun e s' => R (.error e) s') s)
    (n : Nat) (h : I n s) : codeAny (model prog w) A (.compLoop (.ListComp elt [⟨target, iter, ifs, 0⟩] scope pos) 0 it acc env) R s := by
  refine codeAny_loop rfl I (fun n s hI => ?_) n h
  show wpAny _ A ((compTurn (.ListComp elt [⟨target, iter, ifs, 0⟩] scope pos) 0 it acc env).onRaise (fun x => do noteFrame x env; theTreesLotGoes x)) _ _ s
  refine wpAny_noted ?_
  rw [compTurn_list]
  refine wpAny_bind (wpAny_standAt (wpAny_bind (wpAny_mono (turn n s hI) (fun r s₁ h₁ => ?_) fun _ _ h' => h')))
  cases r with
  | none => exact wpAny_pure h₁
  | some v =>
    refine wpAny_bind (wpAny_mono h₁ (fun _ s₁' h₁' => ?_) fun _ _ h' => h')
    refine wpAny_bind (wpAny_mono h₁' (fun _ s₂ h₂ => wpAny_bind (wpAny_mono h₂ (fun ok s₃ h₃ => ?_) fun _ _ h' => h')) fun _ _ h' => h')
    cases ok with
    | false => exact wpAny_pure ⟨rfl, h₃⟩
    | true =>
      exact wpAny_bind (wpAny_bind (wpAny_mono h₃ (fun x s₄ h₄ => wpAny_bind (wpAny_mono h₄ (fun _ s₅ h₅ => wpAny_pure (wpAny_pure ⟨rfl, h₅⟩)) fun _ _ h' => h')) fun _ _ h' => h'))
end

/-- the block's tests: none, or one -/
noncomputable def PTs (X : Cx) (ifs : List Expr) (t : TT) : Prop :=
  ∀ (pins : List (Addr × Obj)) (s : Shared) (σ : L2.St) (H : Hp) (Q : Bool → Hp → Prop), Inv X pins σ H s → t σ H Q →
    wpAny (model X.prog X.w) X.A (forIn ifs true fun c r => if r = true then do let ok ← isTrue c X.env (eval c X.env); pure (ForInStep.yield ok) else pure (ForInStep.yield r)) (TP X pins σ Q) X.xe s
noncomputable def tNoIf : TT := fun _ H Q => Q true H
theorem pts_nil {X : Cx} : PTs X [] tNoIf := fun _ _ _ H _ I h => wpAny_tests_nil ⟨H, I, h⟩
noncomputable def tCompR (js : List (Option Nat)) (g : TG) (tc : TT) (te : TE) (σ : L2.St) (Q : VK) (J : It) (H1 : Hp) : Prop := ∀ p, H1 p = none →
  ∃ W : Nat → Nat → L2.St → Hp → Prop, (∃ m, W 0 m (compSt js σ) (upd H1 p (.lst []))) ∧ ∀ i m σ' H', W i m σ' H' →
    (J.stop i H' ∧ Q (.ref p) H') ∨ (J.go i H' ∧ ∃ N : L2.St → Hp → Prop, (∀ σ2 H2, N σ2 H2 → ∃ m', m' < m ∧ W (i + 1) m' σ2 H2) ∧
      ∀ x H2, J.yld i H' x H2 → g x σ' H2 fun σ3 H3 => tc σ3 H3 fun k H4 => if k = true then te σ3 H4 fun v H5 => ∃ xs, H5 p = some (.lst xs) ∧ xs.length < sizeLine ∧ N σ3 (upd H5 p (.lst (xs ++ [v]))) else N σ3 H4)
noncomputable def tComp (js : List (Option Nat)) (wi : TI) (g : TG) (tc : TT) (te : TE) : TE := fun σ H Q => wi σ H (tCompR js g tc te σ Q)

section
variable {X : Cx} {N XN : List Str} {js : List (Option Nat)} {xs scope : Scope} {elt target iter : Expr} {ifs : List Expr} {pos : Pos} {g : TG} {tc : TT} {te : TE}
theorem comp_block {pins : List (Addr × Obj)} {σ : L2.St} {H2 : Hp} {s2 : Shared} {it : Addr} {fp : List Addr} {tn : Nat → Heap → Prop} {J : It} {cl : List (Str × Addr)} {Q : V → Hp → Prop} {RR : Value → Addr → Result → Shared → Prop} {E : Value → Shared → Prop}
    (hc : X.calm = true) (hN : X.N = XN) (hS : X.env.scope = xs) (nm : CompNm N js XN xs scope) (hcl1 : ∀ x c, cl.lookup x = some c → X.env.cells.lookup x = some c) (hcl2 : ∀ x ∈ scope.names, x.2 = .free → (cl.lookup x.1).isSome = true)
    (hg : ∀ (cl : List (Str × Addr)) (C : Addr) (s : Shared) (H : Hp) (fp : List Addr) (E : Value → Shared → Prop), PG (cxComp X N scope cl C s H fp E) target g)
    (ht : ∀ (cl : List (Str × Addr)) (C : Addr) (s : Shared) (H : Hp) (fp : List Addr) (E : Value → Shared → Prop), PTs (cxComp X N scope cl C s H fp E) ifs tc)
    (he : ∀ (cl : List (Str × Addr)) (C : Addr) (s : Shared) (H : Hp) (fp : List Addr) (E : Value → Shared → Prop), PE (cxComp X N scope cl C s H fp E) elt te)
    (I2 : Inv X pins σ H2 s2) (T : Turn X.prog X.w X.K target J fp it tn) (st2 : tn 0 s2.heap) (f2 : ∀ b ∈ fp, FpOk X pins H2 b)
    (hW : tCompR js g tc te σ Q J H2)
    (fin : ∀ (p C : Addr) (H' : Hp) (s' : Shared) (m : Str → Option Value), Inv X pins σ H' s' → s'.heap.Ns C m → s2.heap.objs.size ≤ C → H' C = none → Q (.ref p) H' → RR (.ref p) C (.ok .next) s') :
    wpAny (model X.prog X.w) X.A (newList []) (fun acc s₃ => wpAny (model X.prog X.w) X.A (newFunctionEnv scope X.env.globals cl [] X.env.qual none .none (some X.env)) (fun cenv s₄ =>
      codeAny (model X.prog X.w) X.A (.compStart (.ListComp elt [⟨target, iter, ifs, 0⟩] scope pos) 0 (.ref it) acc { cenv with scope := relabel scope X.env }) (RR acc cenv.locals) s₄) E s₃) E s2 := by
  refine wpAny_newObj_type (wpAny_newFunctionEnv nm.nocell (by intro y hy; simp at hy) (fun h₁ hns₁ hsb₁ => ?_) nm.kind)
  obtain ⟨W, ⟨m0, w0⟩, turn⟩ := hW s2.heap.objs.size I2.fresh
  have I3 : Inv X pins σ (upd H2 s2.heap.objs.size (.lst [])) { s2 with heap := s2.heap.push { cls := .type "list", data := .seq ([] : List Value).toArray } } := I2.lnew (ys := []) (its := []) (t' := s2.toks) .nil (Nat.zero_le _)
  generalize hs3 : ({ s2 with heap := s2.heap.push { cls := .type "list", data := .seq ([] : List Value).toArray } } : Shared) = s3 at I3 hns₁ hsb₁ ⊢
  have hh3 : s3.heap = s2.heap.push { cls := .type "list", data := .seq ([] : List Value).toArray } := by rw [← hs3]
  have z3 : s3.heap.objs.size = s2.heap.objs.size + 1 := by rw [hh3, Heap.size_push]
  generalize hP : s2.heap.objs.size = P at w0 turn I3 z3 ⊢
  have hH3 : ∀ b ∈ fp, upd H2 P (.lst []) b = none := fun b hb => by
    have nb : b ≠ P := by
      obtain ⟨o, eo, _⟩ := T.obj 0 s2.heap st2 b hb
      have := Heap.lt_size eo
      rw [hP] at this
      exact Nat.ne_of_lt this
    rw [upd_ne nb]
    exact (f2 b hb).1
  generalize hH : upd H2 P (.lst []) = H3 at w0 I3 hH3
  have f3 : ∀ b ∈ fp, b ≠ X.env.locals ∧ b ∉ X.fs ∧ (b ∈ X.ex ∨ X.s₀.heap.objs.size ≤ b) ∧ (∀ x c, X.env.cells.lookup x = some c → c ≠ b) ∧ ∀ p ∈ X.pn ++ pins, p.1 ≠ b := fun b hb => (f2 b hb).2
  have fpl : ∀ b ∈ fp, b < s3.heap.objs.size := fun b hb => by
    obtain ⟨o, eo, _⟩ := T.obj 0 s2.heap st2 b hb
    have hl := Heap.lt_size eo
    exact Nat.lt_of_lt_of_le hl (by rw [z3, hP]; exact Nat.le_succ _)
  have st3 : tn 0 s3.heap := T.keep 0 _ _ st2 fun b _ o e => by rw [hh3]; exact Heap.get?_push_of_some _ e
  generalize hC : s3.heap.objs.size = C at hns₁ hsb₁ z3 fpl ⊢
  have old : ∀ b o, s3.heap.get? b = some o → h₁.get? b = some o := fun b o e => hsb₁.extBut b o (by have hl := Heap.lt_size e; rw [hC] at hl; exact Nat.ne_of_lt hl) (Heap.get?_push_of_some _ e)
  have stk : ∀ b ∈ fp, b ∉ frs X.stack := fun b hb z => by
    rcases List.mem_cons.mp (I3.stkSub b z) with q | q
    · exact (f3 b hb).1 q
    · exact (f3 b hb).2.1 q
  have ok : ∀ E', (cxComp X N scope cl C s3 H3 fp E').Ok := fun E' => {
    mod := I3.ok.mod
    kind := nm.kind
    glob := I3.ok.glob
    blt := I3.ok.blt
    above := Nat.le_of_eq hC
    inj := fun x y c h1 h2 => I3.ok.inj x y c (hcl1 x c h1) (hcl1 y c h2)
    has := fun x hx => by
      have key : (x, NameKind.free) ∈ scope.names := by
        have hl : (relabel scope X.env).names.lookup x = some .cell ∨ (relabel scope X.env).names.lookup x = some .free := hx
        have gen : ∀ (l : List (Str × NameKind)), (∀ y ∈ l, y.2 ≠ .cell) → ((l.map fun (n, k) => if (k == NameKind.free && X.env.scope.kind == .function && X.env.kindOf n == some .cell) then (n, NameKind.cell) else (n, k)).lookup x = some .cell ∨ (l.map fun (n, k) => if (k == NameKind.free && X.env.scope.kind == .function && X.env.kindOf n == some .cell) then (n, NameKind.cell) else (n, k)).lookup x = some .free) → (x, NameKind.free) ∈ l := by
          intro l
          induction l with
          | nil => intro _ h; rcases h with h | h <;> simp at h
          | cons y r ih =>
            obtain ⟨n, k⟩ := y
            intro hn h
            have hr := ih (fun y hy => hn y (List.mem_cons_of_mem _ hy))
            have hk : k ≠ .cell := hn (n, k) List.mem_cons_self
            rw [List.map_cons] at h
            cases q : x == n with
            | false =>
              refine List.mem_cons_of_mem _ (hr ?_)
              by_cases hc : (k == NameKind.free && X.env.scope.kind == .function && X.env.kindOf n == some .cell) = true
              · simpa [hc, List.lookup_cons, q] using h
              · simpa [hc, List.lookup_cons, q] using h
            | true =>
              have q' : x = n := by simpa using q
              subst q'
              by_cases hc : (k == NameKind.free && X.env.scope.kind == .function && X.env.kindOf x == some .cell) = true
              · have : k = .free := by
                  simp only [Bool.and_eq_true, beq_iff_eq] at hc
                  exact hc.1.1
                subst this
                exact List.mem_cons_self
              · have h' : k = .cell ∨ k = .free := by simpa [hc, List.lookup_cons] using h
                rcases h' with z | z
                · exact absurd z hk
                · subst z; exact List.mem_cons_self
        exact gen scope.names nm.nocell hl
      exact Option.isSome_iff_exists.mp (hcl2 _ key rfl)
    cab := fun _ _ h _ => nomatch h
    hd := I3.ok.hd
    frames := I3.ok.frames
    stk := .inl rfl
    exf := fun b hb => ⟨Nat.ne_of_lt (fpl b hb), fun x c e => (f3 b hb).2.2.2.1 x c (hcl1 x c e)⟩
    bs := I3.bs
    bsz := Nat.le_trans I3.ok.bsz I3.sz
    noex := fun b o e hb => by
      rcases (f3 b hb).2.2.1 with z | z
      · exact I3.ok.noex b o e z
      · have h1 := Heap.lt_size e
        have h2 := I3.ok.bsz
        exact absurd (Nat.lt_of_lt_of_le h1 (Nat.le_trans h2 z)) (Nat.lt_irrefl _)
    exfs := stk
    funs := I3.stack
    frf := I3.stkFree }
  have start : ∀ E', Inv (cxComp X N scope cl C s3 H3 fp E') [] (compSt js σ) H3 { s3 with heap := h₁, toks := s3.toks + ([] : List (Str × Value)).length } := fun E' => {
    ok := ok E'
    os := rfl
    bare := I3.bare
    base := Un.kept old
    loc := by
      refine ⟨_, hns₁, fun i x v e1 e2 e3 => ?_⟩
      have e2' : ((js[i]?).map fun j => j.bind fun k => (σ[k]?).join) = some (some v) := by
        have := e2
        unfold compSt at this
        rwa [List.getElem?_map] at this
      cases hj : js[i]? with
      | none => rw [hj] at e2'; cases e2'
      | some jo =>
        rw [hj] at e2'
        cases jo with
        | none => cases e2'
        | some j =>
          have e2'' : (σ[j]?).join = some v := Option.some.inj e2'
          have e4 : σ[j]? = some (some v) := by
            cases q : σ[j]? with
            | none => rw [q] at e2''; cases e2''
            | some o => rw [q] at e2''; cases o with
              | none => cases e2''
              | some y => cases e2''; rfl
          obtain ⟨a1, a2, a3, a4⟩ := nm.free i j x e1 hj
          obtain ⟨mX, hnX, lX⟩ := I3.loc
          have vis : Vis X.env.scope x := by rw [hS]; exact .inr a2
          obtain ⟨u, ru, lu⟩ := lX j x v (by rw [hN]; exact a1) e4 vis
          refine ⟨u, ru, ?_⟩
          rcases lu with ⟨k1, _⟩ | ⟨k1, c, e5, z⟩
          · exfalso
            have k1' : X.env.scope.names.lookup x = some .local := k1
            rw [hS] at k1'
            rcases a2 with q | q <;> rw [q] at k1' <;> cases k1'
          · obtain ⟨c', e6⟩ := Option.isSome_iff_exists.mp (hcl2 _ a3 rfl)
            have e7 := hcl1 x c' e6
            rw [e5] at e7
            cases e7
            refine .inr ⟨?_, c, e6, ?_⟩
            · rcases e3 with q | q | q
              · exfalso
                have := lookup_free (env := X.env) a4
                rcases this with t | t <;> (have q' : (relabel scope X.env).names.lookup x = some .local := q; rw [t] at q'; cases q')
              · exact .inl q
              · exact .inr q
            · obtain ⟨o, ho, hd⟩ := z
              exact ⟨o, old c o ho, hd⟩
    cell := fun x c e => by
      obtain ⟨v, o, ho, hd⟩ := I3.cell x c (hcl1 x c e)
      exact ⟨v, o, old c o ho, hd⟩
    free := I3.hok.fresh (Nat.le_of_eq hC)
    freeC := fun x c e => I3.freeC x c (hcl1 x c e)
    pin := fun p hp => absurd (show p ∈ ([] : List (Addr × Obj)) from hp) (by simp)
    hok := I3.hok.kept old
    len := by unfold compSt; rw [List.length_map]; exact nm.len.symm }
  have done : ∀ {E' : Value → Shared → Prop} {σ' : L2.St} {H' : Hp} {s' : Shared}, Inv (cxComp X N scope cl C s3 H3 fp E') [] σ' H' s' → Q (.ref P) H' → RR (.ref P) C (.ok .next) s' := fun {E' σ' H' s'} J' q => by
    obtain ⟨m', hn', _⟩ := J'.loc
    refine fin P C H' s' m' (I3.call' (ch := fp) J'.os J'.base J'.hok J'.bare fun b hb => ⟨(f3 b hb).2.2.1, (f3 b hb).1, (f3 b hb).2.2.2.1, (f3 b hb).2.2.2.2⟩) hn' (by rw [z3, hP]; exact Nat.le_succ _) J'.free q
  have loop : ∀ s₄ : Shared, s₄ = { s3 with heap := h₁, toks := s3.toks + ([] : List (Str × Value)).length } →
      codeAny (model X.prog X.w) X.A (.compLoop (.ListComp elt [⟨target, iter, ifs, 0⟩] scope pos) 0 (.ref it) (.ref P) (compEnvC scope cl C X.env)) (RR (.ref P) C) s₄ := by
    rintro s₄ rfl
    generalize hNB : notedBy (model X.prog X.w) X.A (compEnvC scope cl C X.env) (fun e s' => RR (.ref P) C (.error e) s') = NB
    have stat : ∀ {H' : Hp}, (∀ b ∈ fp, H' b = none) → ∀ b ∈ fp, FpOk (cxComp X N scope cl C s3 H3 fp NB) [] H' b := fun hn b hb =>
      ⟨hn b hb, Nat.ne_of_lt (fpl b hb), stk b hb, .inl hb, fun x c e => (f3 b hb).2.2.2.1 x c (hcl1 x c e), fun p hp => absurd (show p ∈ ([] : List (Addr × Obj)) from hp) (by simp)⟩
    refine compLoop_G (fun n s' => ∃ i σ' H', Inv (cxComp X N scope cl C s3 H3 fp NB) [] σ' H' s' ∧ tn i s'.heap ∧ (∀ b ∈ fp, H' b = none) ∧ W i n σ' H') ?_ m0 ⟨0, compSt js σ, H3, start NB, T.keep 0 _ _ st3 fun b _ o e => old b o e, hH3, w0⟩
    rw [hNB]
    rintro n s5 ⟨i, σ5, H5, I5, st5, fr5, w5⟩
    rcases turn i n σ5 H5 w5 with ⟨stop, qn⟩ | ⟨go, Nx, hNx, step⟩
    · refine thn (T.done (cxComp X N scope cl C s3 H3 fp NB) rfl rfl rfl hc i [] s5 σ5 H5 NB I5 (stat fr5) st5 stop) fun r s6 ⟨hr, I6⟩ => ?_
      subst hr
      exact done I6 qn
    · refine thn (T.item (cxComp X N scope cl C s3 H3 fp NB) rfl rfl rfl hc i [] s5 σ5 H5 NB I5 (stat fr5) st5 go) fun r s6 ⟨u, hr, h6⟩ => ?_
      subst hr
      refine thn h6 fun _ s7 ⟨x, H7, I7, r7, y7, st7, fr7⟩ => ?_
      have I7' := I7.pinned (stat fr7) (T.obj _ _ st7)
      have again : ∀ {σ8 : L2.St} {H8 : Hp} {s8 : Shared}, Inv (cxComp X N scope cl C s3 H3 fp NB) ([] ++ pinsAt fp s7.heap) σ8 H8 s8 → Nx σ8 H8 → ∃ m, m < n ∧ ∃ i σ' H', Inv (cxComp X N scope cl C s3 H3 fp NB) [] σ' H' s8 ∧ tn i s8.heap ∧ (∀ b ∈ fp, H' b = none) ∧ W i m σ' H' := fun {σ8 H8 s8} I8 n8 => by
        obtain ⟨m', hm, w8⟩ := hNx σ8 H8 n8
        refine ⟨m', hm, i + 1, σ8, H8, I8.unpinned, T.keep _ _ _ st7 fun b hb o e => (I8.pin (b, o) (List.mem_append_right _ (List.mem_append_right _ (mem_pinsAt hb e)))).1, fun b hb => ?_, w8⟩
        obtain ⟨o, e, d⟩ := T.obj _ _ st7 b hb
        exact (I8.pin (b, o) (List.mem_append_right _ (List.mem_append_right _ (mem_pinsAt hb e)))).2.1
      refine thn (hg cl C s3 H3 fp NB _ s7 σ5 H7 x u _ I7' r7 (step x H7 y7)) fun _ s8 ⟨σ8, H8, I8, q8⟩ => ?_
      refine thn (ht cl C s3 H3 fp NB _ s8 σ8 H8 _ I8 q8) fun k s9 ⟨H9, I9, q9⟩ => ?_
      cases k with
      | false =>
        rw [if_neg (by decide)] at q9 ⊢
        exact again I9 q9
      | true =>
        rw [if_pos rfl] at q9 ⊢
        refine thn (he cl C s3 H3 fp NB _ s9 σ8 H9 _ I9 q9) fun uv s10 ⟨v, H10, I10, r10, xs', hx1, hx2, q10⟩ => ?_
        refine thn (mt_append (X := cxComp X N scope cl C s3 H3 fp NB) _ s10 σ8 H10 (.ref P) [v] (.ref P) [uv] (fun _ H11 => Nx σ8 H11) I10 rfl (.cons r10 .nil) ⟨P, xs', v, rfl, rfl, hx1, hx2, q10⟩) fun _ s11 ⟨_, H11, I11, _, q11⟩ => ?_
        exact again I11 q11
  exact codeAny_compStart_list (loop _ rfl) (T.self _ 0 _ _ _ (T.keep 0 _ _ st3 fun b _ o e => old b o e) (loop _ rfl))
end
section
variable {X : Cx} {N XN : List Str} {js : List (Option Nat)} {xs scope : Scope} {elt target iter : Expr} {ifs : List Expr} {pos : Pos} {wi : TI} {g : TG} {tc : TT} {te : TE}
theorem comp_turned {pins : List (Addr × Obj)} {σ σ' : L2.St} {H H' : Hp} {s s' : Shared} {C : Addr} {h' : Heap} (I2 : Inv X pins σ H s) (J : Inv X pins σ' H' s') (hC : s.heap.objs.size ≤ C) (hn : H' C = none) (sb : Heap.SameBut C s'.heap h') : Inv X pins σ' H' { s' with heap := h' } :=
  J.turned (t' := s'.toks) (it := C) (fun b o hb e => sb.extBut b o hb e) hn (Nat.ne_of_gt (Nat.lt_of_lt_of_le I2.lt hC)) (.inr (Nat.le_trans I2.sz hC))
    (fun x c e => by
      obtain ⟨v, q⟩ := I2.cell x c e
      exact Nat.ne_of_lt (Nat.lt_of_lt_of_le q.lt hC)) fun p hp => Nat.ne_of_lt (Nat.lt_of_lt_of_le (Heap.lt_size (I2.pin p hp).1) hC)
theorem pe_comp (hc : X.calm = true) (hN : X.N = XN) (hS : X.env.scope = xs) (hok : compOk N js XN xs scope = true) (hi : PI X target iter wi)
    (hg : ∀ (cl : List (Str × Addr)) (C : Addr) (s : Shared) (H : Hp) (fp : List Addr) (E : Value → Shared → Prop), PG (cxComp X N scope cl C s H fp E) target g)
    (ht : ∀ (cl : List (Str × Addr)) (C : Addr) (s : Shared) (H : Hp) (fp : List Addr) (E : Value → Shared → Prop), PTs (cxComp X N scope cl C s H fp E) ifs tc)
    (he : ∀ (cl : List (Str × Addr)) (C : Addr) (s : Shared) (H : Hp) (fp : List Addr) (E : Value → Shared → Prop), PE (cxComp X N scope cl C s H fp E) elt te)
    (hs : ∀ x, foldedSetIterable iter X.env x = pure x := by intro _; rfl) : PE X (.ListComp elt [⟨target, iter, ifs, 0⟩] scope pos) (tComp js wi g tc te) := by
  intro pins s σ H Q I h
  have nm := compOk_nm hok
  obtain ⟨cl, hcl, c1, c2⟩ := closure_ok (env := X.env) (scope := scope) fun x hx e => I.ok.has x.1 (by
    rcases nm.clos x hx e with q | q
    · exact .inl (by show X.env.scope.names.lookup _ = _; rw [hS]; exact q)
    · exact .inr (by show X.env.scope.names.lookup _ = _; rw [hS]; exact q))
  rw [eval_ListComp]
  refine wpAny_comprehension_free (use := none) rfl hs hcl nm.kind nm.names (thn (hi pins s σ H _ I h) fun v s1 h1 => thn h1 fun itv s2 h2 => ?_)
  obtain ⟨it, fp, tn, J, H2, e, I2, T, st2, f2, hW⟩ := h2
  subst e
  refine comp_block (RR := fun acc C => compPost (model X.prog X.w) X.A X.xe none (EP X pins σ Q) acc C) hc hN hS nm c1 c2 hg ht he I2 T st2 f2 hW fun p C H' s' m J' hn hC hCf q => ?_
  exact ⟨m, hn, fun h' hs' => ⟨.ref p, H', comp_turned I2 J' hC hCf hs', rfl, q⟩⟩
/-- x = [..]: the model stores before it lets the block's names go -/
theorem ps_setComp {i : Nat} {x : Str} {px spos : Pos} (hNd : X.N.Nodup) (hix : X.N[i]? = some x) (hloc : X.env.scope.names.lookup x = some .local) (hc : X.calm = true) (hN : X.N = XN) (hS : X.env.scope = xs) (hok : compOk N js XN xs scope = true) (hi : PI X target iter wi)
    (hg : ∀ (cl : List (Str × Addr)) (C : Addr) (s : Shared) (H : Hp) (fp : List Addr) (E : Value → Shared → Prop), PG (cxComp X N scope cl C s H fp E) target g)
    (ht : ∀ (cl : List (Str × Addr)) (C : Addr) (s : Shared) (H : Hp) (fp : List Addr) (E : Value → Shared → Prop), PTs (cxComp X N scope cl C s H fp E) ifs tc)
    (he : ∀ (cl : List (Str × Addr)) (C : Addr) (s : Shared) (H : Hp) (fp : List Addr) (E : Value → Shared → Prop), PE (cxComp X N scope cl C s H fp E) elt te)
    (hsw : swapsWith (.ListComp elt [⟨target, iter, ifs, 0⟩] scope pos) (some (.Name x px)) spos.line X.env = pure true := by rfl)
    (hs : ∀ x, foldedSetIterable iter X.env x = pure x := by intro _; rfl) : PS X (.Assign [.Name x px] (.ListComp elt [⟨target, iter, ifs, 0⟩] scope pos) spos) (tAsg (tComp js wi g tc te) (gName i)) := by
  intro pins s σ H D I h
  have nm := compOk_nm hok
  obtain ⟨cl, hcl, c1, c2⟩ := closure_ok (env := X.env) (scope := scope) fun x hx e => I.ok.has x.1 (by
    rcases nm.clos x hx e with q | q
    · exact .inl (by show X.env.scope.names.lookup _ = _; rw [hS]; exact q)
    · exact .inr (by show X.env.scope.names.lookup _ = _; rw [hS]; exact q))
  rw [exec_Assign_Name_used _ _ _ _ hsw]
  refine wpAny_bind (wpAny_standAt (wpAny_bind ?_))
  show wpAny _ X.A (do let _ ← comprehension (.ListComp elt [⟨target, iter, ifs, 0⟩] scope pos) scope X.env _ (newList []) false (eval iter X.env) (some (assign (.Name x px) X.env))) _ _ s
  refine wpAny_bind (wpAny_mono (wpAny_comprehension_free (use := some (assign (.Name x px) X.env)) (Q := fun _ s' => SP X pins D .next s') rfl hs hcl nm.kind nm.names
    (thn (hi pins s σ H _ I h) fun v s1 h1 => thn h1 fun itv s2 h2 => ?_)) (fun _ s' hq => wpAny_pure (wpAny_pure hq)) fun _ _ e => e)
  obtain ⟨it, fp, tn, J, H2, e, I2, T, st2, f2, hW⟩ := h2
  subst e
  refine comp_block (Q := fun x H1 => gName i x σ H1 D.nx) (RR := fun acc C => compPost (model X.prog X.w) X.A X.xe (some (assign (.Name x px) X.env)) (fun _ s' => SP X pins D .next s') acc C) hc hN hS nm c1 c2 hg ht he I2 T st2 f2 hW fun p C H' s' m J' hn hC hCf q => ?_
  obtain ⟨o, es, ep, ho, hd, hr⟩ := id hn
  have Jp : Inv X (pins ++ [(C, o)]) σ H' s' := J'.pins_of fun z hz => (List.mem_append.mp hz).elim (fun y => J'.pin z (List.mem_append_right _ y)) fun y => by
    have e : z = (C, o) := by simpa using y
    subst e
    exact ⟨ho, hCf, Nat.ne_of_gt (Nat.lt_of_lt_of_le I2.lt hC), I2.nofs hC, fun v z => by rw [hd] at z; cases z⟩
  refine thn (pg_name (X := X) (pos := px) hNd hix (.inl hloc) (.inr hloc) (pins ++ [(C, o)]) s' σ H' (.ref p) (.ref p) _ Jp rfl q) fun _ s'' ⟨σ'', H'', Js, q''⟩ => ?_
  have pc := Js.pin (C, o) (List.mem_append_right _ (List.mem_append_right _ (by simp)))
  refine ⟨m, ⟨o, es, ep, pc.1, hd, hr⟩, fun h' hs' => ⟨σ'', H'', comp_turned I2 Js.unpinned hC pc.2.1 hs', q''⟩⟩
end

/-! ### what a walk hands out, where nothing that it walks is changed -/
noncomputable def Feeds (J : It) (H : Hp) (xs : List V) : Prop := ∀ H', Same H H' → (∀ i x, xs[i]? = some x → J.go i H' ∧ ∀ y H2, J.yld i H' y H2 → y = x ∧ H2 = H') ∧ J.stop xs.length H'
theorem feeds_list {K : PySem.W.Frag} {H : Hp} {a : Addr} {xs : List V} (h : SqL K H a xs) : Feeds (Itl K a) H xs := fun H' e =>
  ⟨fun i x hx => ⟨⟨xs, x, e.seq h, hx⟩, fun y H2 hy => by
    obtain ⟨e1, e2⟩ := hy
    have := e2 xs (e.seq h)
    rw [hx] at this
    exact ⟨(Option.some.inj this).symm, e1⟩⟩, ⟨xs, e.seq h, Nat.le_refl _⟩⟩
theorem feeds_range {H : Hp} {lo : Int} {n : Nat} : Feeds (Itr lo n) H ((List.range n).map fun i => V.int (lo + (i : Nat))) := fun H' _ =>
  ⟨fun i x hx => by
    rw [List.getElem?_map] at hx
    cases q : (List.range n)[i]? with
    | none => rw [q] at hx; cases hx
    | some j =>
      have hi : i < n := by
        obtain ⟨h1, _⟩ := List.getElem?_eq_some_iff.mp q
        simpa using h1
      have hj : j = i := by
        obtain ⟨_, h2⟩ := List.getElem?_eq_some_iff.mp q
        simpa using h2.symm
      rw [q] at hx
      subst hj
      exact ⟨hi, fun y H2 hy => ⟨hy.2.trans (Option.some.inj hx), hy.1⟩⟩, by show n ≤ _; simp⟩
/-- [f x for x in ..], where the element leaves the heap as it is -/
theorem comp_pure {js : List (Option Nat)} {g : TG} {te : TE} {J : It} {σ : L2.St} {H : Hp} {Q : VK} {xs : List V} (f : V → V) (Sv : L2.St → Prop) (F : Feeds J H xs) (hz : xs.length ≤ sizeLine) (h0 : Sv (compSt js σ))
    (step : ∀ (x : V) (σ' : L2.St) (H' : Hp) (R : L2.St → VK), x ∈ xs → Same H H' → Sv σ' → (∀ σ3, Sv σ3 → R σ3 (f x) H') → g x σ' H' fun σ3 H3 => te σ3 H3 (R σ3))
    (gk : ∀ (x : V) (σ' : L2.St) (H' : Hp) (R R' : L2.St → Hp → Prop), (∀ σ3 H3, R σ3 H3 → R' σ3 H3) → g x σ' H' R → g x σ' H' R')
    (fin : ∀ p, H p = none → Q (.ref p) (upd H p (.lst (xs.map f)))) :
    tCompR js g tNoIf te σ Q J H := by
  intro p hp
  have sm : ∀ o, Same H (upd H p o) := fun o b u e => by rw [upd_ne (ne_of_none e hp)]; exact e
  refine ⟨fun i m σ' H' => m = xs.length - i ∧ i ≤ xs.length ∧ Sv σ' ∧ H' = upd H p (.lst ((xs.take i).map f)), ⟨xs.length, by simp, Nat.zero_le _, h0, by simp⟩, ?_⟩
  rintro i m σ' H' ⟨rfl, hi, hv, rfl⟩
  obtain ⟨F1, F2⟩ := F _ (sm (.lst ((xs.take i).map f)))
  by_cases hlt : i < xs.length
  · have ex : xs[i]? = some xs[i] := by simp [hlt]
    obtain ⟨go, yl⟩ := F1 i _ ex
    refine .inr ⟨go, fun σ2 H2 => Sv σ2 ∧ H2 = upd H p (.lst ((xs.take (i + 1)).map f)), fun σ2 H2 ⟨a, b⟩ => ⟨xs.length - (i + 1), by omega, rfl, hlt, a, b⟩, fun x H2 hy => ?_⟩
    obtain ⟨rfl, rfl⟩ := yl x H2 hy
    refine gk _ _ _ _ _ (fun σ3 H3 z => ?_) (step xs[i] σ' _ (fun σ3 v H5 => ∃ ys, H5 p = some (.lst ys) ∧ ys.length < sizeLine ∧ (Sv σ3 ∧ upd H5 p (.lst (ys ++ [v])) = upd H p (.lst ((xs.take (i + 1)).map f)))) (List.getElem_mem hlt) (sm _) hv fun σ3 hs3 => ?_)
    · exact z
    · refine ⟨_, upd_same, ?_, hs3, ?_⟩
      · rw [List.length_map, List.length_take]; omega
      · rw [upd_upd, List.take_add_one, ex, List.map_append]; rfl
  · have e : i = xs.length := by omega
    subst e
    refine .inl ⟨F2, ?_⟩
    rw [List.take_length]
    exact fin p hp
theorem gk_name {i : Nat} (x : V) (σ' : L2.St) (H' : Hp) (R R' : L2.St → Hp → Prop) (h : ∀ σ3 H3, R σ3 H3 → R' σ3 H3) (z : gName i x σ' H' R) : gName i x σ' H' R' := h _ _ z
end Add

namespace Add
open PySem PySem.Spec PyProof.Rows L2
/-! ### a text walked sign by sign -/
noncomputable def Ixs (x : Str) : It := ⟨fun i _ => i < x.cps.size, fun i H v H' => H' = H ∧ ∃ c, x.cps[i]? = some c ∧ v = .str ⟨#[c]⟩, fun i _ => i = x.cps.size⟩
theorem turn_text {P : Program} {w : World} {K : PySem.W.Frag} {tg : Expr} {it : Addr} {x : Str} {t : Tok} {ty : String}
    (hty : ["enumerate", "zip", "dict_itemiterator", "dict_reverseitemiterator", "odict_iterator", "itertools.zip_longest", "itertools.pairwise"].contains ty = false)
    (W : ∀ A' : Around, A'.handled = none → Walks P w A' it [it] [it] x.cps.size (SignAt x) (fun i h => h.IsStrIter it ty x t i))
    (self : ∀ (A : Around) (i : Nat) (s : Shared) (Q : Value → Shared → Prop) (E : Value → Shared → Prop), s.heap.IsStrIter it ty x t i → Q (.ref it) s → wpAny (model P w) A (pyIter (.ref it)) Q E s) :
    Turn P w K tg (Ixs x) [it] it (fun i h => h.IsStrIter it ty x t i) where
  mem := by simp
  obj := fun i h st b hb => by
    have e : b = it := by simpa using hb
    subst e
    obtain ⟨o, ho, _, hd⟩ := st
    exact ⟨o, ho, fun v z => by rw [hd] at z; cases z⟩
  keep := fun i h h' st k => let ⟨o, ho, r⟩ := st; ⟨o, k it (by simp) o ho, r⟩
  item := by
    intro X hP hw hK hc i pins s σ H E I hf st hg
    subst hP hw hK
    obtain ⟨f0, f1, f2, f3, f4, f5⟩ := hf it (by simp)
    refine (W X.A (I.ok.hd hc)).item i s _ _ hg st fun v h' tk hv st' kk => ?_
    obtain ⟨c, u, hcx, rfl⟩ := hv
    have I1 : Inv X pins σ H { s with heap := h', toks := tk } := I.turned (fun b o hb e => kk b o (by simpa using hb) e) f0 f1 f3 f4 f5
    obtain ⟨o, ho, hcl, hd⟩ := id st'
    exact ⟨_, rfl, go_of (s := { s with heap := h', toks := tk }) ho hcl hd hty ⟨.str ⟨#[c]⟩, H, I1, ⟨u, rfl⟩, ⟨rfl, c, hcx, rfl⟩, st', fun b hb => (hf b hb).1⟩⟩
  done := by
    intro X hP hw hK hc i pins s σ H E I hf st hg
    subst hP hw hK
    obtain ⟨f0, f1, f2, f3, f4, f5⟩ := hf it (by simp)
    have e : i = x.cps.size := hg
    subst e
    exact (W X.A (I.ok.hd hc)).done s _ _ st fun h' tk kk => ⟨rfl, I.turned (t' := tk) (fun b o hb e => kk b o (by simpa using hb) e) f0 f1 f3 f4 f5⟩
  self := self
section
variable {X : Cx} {tg : Expr}
noncomputable def iText (tl : TE) : TI := fun σ H R => tl σ H fun v H1 => ∃ x, v = .str x ∧ R (Ixs x) H1
theorem pi_text {l : Expr} {tl : TE} (hl : PE X l tl) : PI X tg l (iText tl) := by
  intro pins s σ H R I h
  refine thn (hl pins s σ H _ I h) fun v s1 ⟨y, H1, I1, r1, q1⟩ => ?_
  obtain ⟨x, e, q⟩ := q1
  subst e
  obtain ⟨t, rfl⟩ := r1
  have fo : ∀ b ∈ [s1.heap.objs.size], FpOk X pins H1 b := fun b hb => by
    have e : b = s1.heap.objs.size := by simpa using hb
    subst e
    exact I1.fpOk (Nat.le_refl _) (I1.hok.fresh (Nat.le_refl _))
  cases ha : x.cps.all (· < 128)
  · exact wpAny_pyIter_wide ha ⟨s1.heap.objs.size, [s1.heap.objs.size], _, _, H1, rfl, I1.kept (t' := s1.toks) fun b o e => Heap.get?_push_of_some _ e,
      turn_text (ty := "str_iterator") (t := t) (by decide) (fun A' hA => Walks.strWide hA _ x t) (fun _ _ _ _ _ st h => wpAny_pyIter_striter_wide st h), ⟨_, Heap.get?_push_size _ rfl, rfl, rfl⟩, fo, q⟩
  · exact wpAny_pyIter_ascii ha ⟨s1.heap.objs.size, [s1.heap.objs.size], _, _, H1, rfl, I1.kept (t' := s1.toks) fun b o e => Heap.get?_push_of_some _ e,
      turn_text (ty := "str_ascii_iterator") (t := t) (by decide) (fun A' hA => Walks.strAscii hA _ x t) (fun _ _ _ _ _ st h => wpAny_pyIter_striter_ascii st h), ⟨_, Heap.get?_push_size _ rfl, rfl, rfl⟩, fo, q⟩
end
theorem feeds_text {H : Hp} {x : Str} : Feeds (Ixs x) H (x.cps.toList.map fun c => V.str ⟨#[c]⟩) := fun H' _ =>
  ⟨fun i v hv => by
    rw [List.getElem?_map] at hv
    cases q : x.cps.toList[i]? with
    | none => rw [q] at hv; cases hv
    | some c =>
      rw [q] at hv
      have q' : x.cps[i]? = some c := by simpa using q
      have hi : i < x.cps.size := (Array.getElem?_eq_some_iff.mp q').1
      refine ⟨hi, fun y H2 hy => ⟨?_, hy.1⟩⟩
      obtain ⟨_, d, hd, rfl⟩ := hy
      rw [q'] at hd
      cases hd
      exact Option.some.inj hv, by show _ = x.cps.size; simp⟩

/-! ### all of a list of truths; texts compared, cut; products of great numbers -/
section
variable {X : Cx}
theorem all_getD (bs : List Bool) : ((List.range bs.length).all fun j => (bs[j]?).getD true) = bs.all fun b => b := by
  rw [← all_rangeD bs fun b => b]
  congr 1
theorem call_allB (hc : X.calm = true) : CallR X (.builtin "all") (fun xs H Q => ∃ (p : Addr) (bs : List Bool), xs = [V.ref p] ∧ SqL X.K H p (bs.map V.bl) ∧ Q (.bl (bs.all fun b => b)) H) := by
  intro pins s σ H xs us Q I r h
  obtain ⟨p, bs, rfl, hS, q⟩ := h
  obtain ⟨u, rfl, ru⟩ := Vals.one r
  cases ru
  obtain ⟨its, rv, pl, hz⟩ := I.list hS
  have hl := rv.length
  rw [List.length_map] at hl
  have hne : p ≠ s.heap.objs.size := by
    obtain ⟨o, ho, _⟩ := pl.isList
    exact Nat.ne_of_lt (Heap.lt_size ho)
  refine call_all_walk (wpAny_pyIter_list pl.isList ⟨s.heap.objs.size, _, _, its.toArray.size, _, _, fun j => (bs[j]?).getD true, rfl, Walks.list (show X.A.in1.handled = none from I.ok.hd hc) _ p hne its.toArray,
    ⟨⟨_, Heap.get?_push_size _ rfl, rfl, rfl⟩, pl.isList.at fun o e => Heap.get?_push_of_some _ e⟩, ?_, fun h' tk hk => ?_⟩)
  · intro i v s' Q' E' hv hq
    have hv' : its[i]? = some v := by simpa using hv
    cases e : bs[i]? with
    | none =>
      exfalso
      have h1 : its.length ≤ i := by rw [← hl]; exact List.getElem?_eq_none_iff.mp e
      rw [List.getElem?_eq_none_iff.mpr h1] at hv'
      cases hv'
    | some b =>
      obtain ⟨u, hu, ru⟩ := rv.get (i := i) (x := .bl b) (by rw [List.getElem?_map, e]; rfl)
      rw [hv'] at hu
      cases hu
      cases (show v = Value.bool b from ru)
      dsimp only at hq
      rw [e] at hq
      exact wpAny_truthy_bool hq
  · refine ⟨.bl _, H, I.kept (t' := tk) fun b o e => hk b o (fun z => ?_) (Heap.get?_push_of_some _ e), rfl, ?_⟩
    · have z' : b = s.heap.objs.size := by simpa using z
      exact absurd (Heap.lt_size e) (by rw [z']; exact Nat.lt_irrefl _)
    · have e : its.toArray.size = bs.length := by rw [List.size_toArray, hl]
      rw [e]
      rw [all_getD]
      exact q
theorem op_le_str : OpR X (compareOp .LtE) (fun x y H Q => ∃ i j, x = .str i ∧ y = .str j ∧ Q (.bl (!decide (j.cps.toList < i.cps.toList))) H) := by
  intro pins s σ H x y v u Q I rx ry h
  obtain ⟨i, j, rfl, rfl, q⟩ := h
  obtain ⟨t, rfl⟩ := rx
  obtain ⟨t', rfl⟩ := ry
  exact PySem.P.le_str (fin_bl I q rfl)
theorem sl_str : SlR X (fun x lo hi H Q => ∃ z, x = .str z ∧ z.length ≤ sizeLine ∧ Q (.str (Txt.slice z lo hi)) H) := by
  intro pins s σ H x v vl vu lo hi sl Q I rx hs pl pu h
  obtain ⟨z, rfl, hz, q⟩ := h
  obtain ⟨t, rfl⟩ := rx
  refine ⟨"str", _, F.slot_str_getitem.lookup, typeIs_str _ _ _, ?_⟩
  have fin : ∀ t' k, EP X pins σ Q (.str (Txt.slice z lo hi) t') { s with toks := k } := fun t' k => ⟨.str _, H, I.tok k, ⟨t', rfl⟩, q⟩
  cases pl with
  | none =>
    cases pu with
    | none => exact wpAny_getItem_str_slice (l := none) (u := none) (st := none) hs rfl (post_val_or_str ⟨Nat.le_trans (Txt.slice_le z _ _) hz, fin⟩)
    | int j uj => exact wpAny_getItem_str_slice (l := none) (u := some (j, uj)) (st := none) hs rfl (post_val_or_str ⟨Nat.le_trans (Txt.slice_le z _ _) hz, fin⟩)
  | int i ui =>
    cases pu with
    | none => exact wpAny_getItem_str_slice (l := some (i, ui)) (u := none) (st := none) hs rfl (post_val_or_str ⟨Nat.le_trans (Txt.slice_le z _ _) hz, fin⟩)
    | int j uj => exact wpAny_getItem_str_slice (l := some (i, ui)) (u := some (j, uj)) (st := none) hs rfl (post_val_or_str ⟨Nat.le_trans (Txt.slice_le z _ _) hz, fin⟩)
theorem star_cmp {a b c d} {es : List Expr} {env : Env} : starEach (.ListComp a b c d :: es) env = (false, eval (.ListComp a b c d) env) :: starEach es env := by rw [starEach]; intro e p' h; cases h
theorem star_con {a b c} {es : List Expr} {env : Env} : starEach (.Constant a b c :: es) env = (false, eval (.Constant a b c) env) :: starEach es env := by rw [starEach]; intro e p' h; cases h
theorem star_nam {a b} {es : List Expr} {env : Env} : starEach (.Name a b :: es) env = (false, eval (.Name a b) env) :: starEach es env := by rw [starEach]; intro e p' h; cases h
theorem star_cal {a b c d} {es : List Expr} {env : Env} : starEach (.Call a b c d :: es) env = (false, eval (.Call a b c d) env) :: starEach es env := by rw [starEach]; intro e p' h; cases h
theorem star_bin {a b c d} {es : List Expr} {env : Env} : starEach (.BinOp a b c d :: es) env = (false, eval (.BinOp a b c d) env) :: starEach es env := by rw [starEach]; intro e p' h; cases h
theorem star_sub {a b c} {es : List Expr} {env : Env} : starEach (.Subscript a b c :: es) env = (false, eval (.Subscript a b c) env) :: starEach es env := by rw [starEach]; intro e p' h; cases h
theorem star_att {a b c} {es : List Expr} {env : Env} : starEach (.Attribute a b c :: es) env = (false, eval (.Attribute a b c) env) :: starEach es env := by rw [starEach]; intro e p' h; cases h
theorem star_boo {a b c} {es : List Expr} {env : Env} : starEach (.BoolOp a b c :: es) env = (false, eval (.BoolOp a b c) env) :: starEach es env := by rw [starEach]; intro e p' h; cases h
end
section
variable {K : PySem.W.Frag}
theorem kit_str_str : PySem.W.kitOne K (.type "str") (.type "str") = some true := by kernel_rfl
theorem kit_str_int : PySem.W.kitOne K (.type "str") (.type "int") = some false := by kernel_rfl
theorem kit_lst_lst : PySem.W.kitOne K (.type "list") (.type "list") = some true := by kernel_rfl
end
end Add

namespace Add
open PySem PySem.Spec PyProof.Rows L2
/-! ### error classes of one's own: made -/
section
variable {prog : Program} {w : World} {A : Around} {E : Value → Shared → Prop} {h : Heap} {g : Array GenState} {d : Drawn} {t : Nat} {os : OsState}
variable {nm q : Str} {C N : Addr} {bs bm bmB : List Value} {hdct : Bool} {sn : List Str} {sub : List Value} {ab : Bool} {col : Option Bool} {dd : Option Addr} {k0 k1 k2 k3 k5 : Option Value} {B Bn newId nid initId inN : String} {bmN : List Value}

noncomputable abbrev excTup (rest : List Value) : Obj := { cls := .type "tuple", data := .seq rest.toArray }
noncomputable abbrev excNew (C t : Addr) : Obj := { cls := .ref C, data := .fields #[.ref t, .none, .none, .none, .bool false, .none] }

theorem type_call_own (Fn : ExcBaseFacts Bn newId inN bmN) (hBn : bmB.contains (.type Bn) = true) (F : ExcBaseFacts B nid initId bmB) (T : OwnTail h bmB bm) {mN : Str → Option Value} {rest : List Value} {R : Result → Shared → Prop} {fI : Addr} {A' : Around}
    (hC : h.get? C = some (excClassObj nm q C N bs bm hdct sn sub ab col dd k0 k1 k2 k3 k5 newId)) (hn : h.Ns N mN) (hni : mN "__init__" = some (.ref fI)) (hb : ∀ self, PySem.W.Looks (model prog w) h (bindSpecial (.ref fI) self) (.ref fI, [self]))
    (hq : codeAny (model prog w) A (.call (.ref fI) ⟨.ref (h.objs.size + 1) :: rest, []⟩) (PySem.W.InitBack (h.objs.size + 1) R) ⟨(h.push (excTup rest)).push (excNew C h.objs.size), g, d, t, os⟩) (hrest : rest.length ≤ sizeLine) :
    wpAny (model prog w) A (Builtin.«type.__call__» ⟨.ref C :: rest, []⟩) (fun fin s' => match fin with | .done f => R (.ok f) s' | .again c' => c'.quiet = true ∧ codeAny (model prog w) A' c' R s') (fun e s' => R (.error e) s') ⟨h, g, d, t, os⟩ := by
  repeat (first | with_reducible refine wpAny_loadPart_at hC ?_ | with_reducible refine wpAny_madeBy_exc hC ?_ | wp_step)
  refine codeAny_call_builtin_code (Code.quiet_builtin _ Fn.quiet) (wpAny_check_new_subU Fn hBn T hC ?_)
  refine codeAny_exc_new_subU Fn hBn F T hC ?_ hrest
  show wpAny _ _ _ _ _ _
  have kk : ∀ b o, h.get? b = some o → ((h.push (excTup rest)).push (excNew C h.objs.size)).get? b = some o := fun b o e => Heap.get?_push_of_some _ (Heap.get?_push_of_some _ e)
  have hC₁ := kk _ _ hC
  have hn₁ : ((h.push (excTup rest)).push (excNew C h.objs.size)).Ns N mN := let ⟨o, es, ep, e, r⟩ := hn; ⟨o, es, ep, kk _ _ e, r⟩
  have hget : ((h.push (excTup rest)).push (excNew C h.objs.size)).get? (h.objs.size + 1) = some (excNew C h.objs.size) := by heap_get
  have hcC : (Value.ref C :: bm).contains (.ref C) = true := by simp
  have T₁ := T.keeps (h' := (h.push (excTup rest)).push (excNew C h.objs.size)) kk
  have b1 := (hb (.ref (h.objs.size + 1))).keeps kk
  unfold isInstance
  repeat (first | with_reducible refine wpAny_loadPart_at hget ?_ | (with_reducible refine wpAny_isSubtype_exc hC₁ ?_; rw [hcC]) | wp_step)
  show wpAny _ _ (typeLookup (.ref C) _) _ _ _
  refine wpAny_typeLookup_tail hC₁ hn₁ T₁ F.mroIs F.init.lookup ?_
  rw [hni]
  refine wpAny_holding (wpAny_bind (b1.here ?_))
  refine wpAny_bind (wpAny_call (codeAny_mono hq fun r s' z => ?_))
  rcases r with e | (v | _ | _ | _) <;> first | exact z | exact z.elim | skip
  obtain ⟨rfl, z⟩ := z
  exact wpAny_pure (wpAny_pure z)
end
end Add

namespace Add
open PySem PySem.Spec PyProof.Rows L2
/-! ### error classes of one's own: their objects' attributes -/
section
open PySem.W
variable {prog : Program} {w : World} {A : Around} {E : Value → Shared → Prop} {s : Shared} {K : Frag} {x C : Addr} {ox : Obj} {od : Option Obj} {name : Str} {expr : Bool}
theorem ga_kind : builtinKind "BaseException.__getattribute__" = some .slot := by decide +kernel
theorem ga_split : splitId "BaseException.__getattribute__" = some ("BaseException", "__getattribute__") := by decide +kernel
theorem ga_not : (Value.builtin "BaseException.__getattribute__" == Value.builtin "object.__getattribute__") = false := by decide +kernel
/-- what is asked of an error class of one's own, by the fragment -/
structure XGet (K : Frag) (C : Addr) : Prop where
  ga : findIn K (.ref C) "__getattribute__" = some (some (.builtin "BaseException.__getattribute__"))
  hk : findIn K (.ref C) "__getattr__" = some none
  sub : mroIn K C (.type "BaseException") = some true
theorem exc_by {fill : Bool} {tk : Tok} {Q : Value → Shared → Prop} (X : K.In s.heap) (I : InstAt s.heap x ox C od) (c : XGet K C)
    (h : wpAny (model prog w) A.in1 (Builtin.«object.__getattribute__» ⟨[.ref x, .str name tk], []⟩)
      (fun fin s' => match fin with | .done (.ret v) => wpAny (model prog w) A (handedOut v) Q E s' | _ => False) (fun _ _ => False) s) :
    wpAny (model prog w) A (getAttrBy (.ref x) (.str name tk) fill expr) Q E s := by
  obtain ⟨hh, g, d, t, os⟩ := s
  have L0 := I.type (M := model prog w)
  have L1 := looks_findIn (M := model prog w) X c.ga
  have L2 := looks_findIn (M := model prog w) X c.hk
  have sb : Looks (model prog w) hh (isInstance (.ref x) (.type "BaseException")) true := L0.andThen (looks_mroIn X c.sub)
  unfold getAttrBy
  refine wpAny_holding (wpAny_bind (L0.at (wpAny_bind (L1.at ?_))))
  dsimp only
  rw [ga_not, Bool.and_false, if_neg (by decide)]
  unfold getAttrByItsOwn hookBefore
  refine wpAny_bind ?_
  show wpAny _ _ (typeLookup (.ref C) "__getattr__") _ _ _
  refine L2.at (wpAny_bind (wpAny_attempt (wpAny_holding ?_)))
  have e1 : callGetattribute (.ref x) (.str name tk) (.builtin "BaseException.__getattribute__") expr = boundAndCalled (.builtin "BaseException.__getattribute__") (.ref x) (.str name tk) := by
    cases expr <;> rfl
  rw [e1]
  unfold boundAndCalled
  rw [PySem.F.attr_ValueError.ga.bind (.ref x)]
  refine wpAny_bind (wpAny_pure (wpAny_call ?_))
  refine codeAny_call_builtin PySem.F.attr_ValueError.ga.plain PySem.F.entry_bexc_ga (@check_slot (model prog w) _ _ ⟨hh, g, d, t, os⟩ "BaseException.__getattribute__" "BaseException" "__getattribute__" (.ref x) [.str name tk] [] _ ga_kind ga_split sb (PySem.F.args_bexc_ga (.ref x) (.str name tk)) ?_)
  refine wpAny_mono h (fun fin s' z => ?_) fun _ _ z => z.elim
  rcases fin with (_ | _ | _ | _) | _ <;> first | exact z | exact z.elim
theorem exc_open {Q : Value → Shared → Prop} (X : K.In s.heap) (I : InstAt s.heap x ox C od) (c : XGet K C)
    (h : wpAny (model prog w) A.in1 (Builtin.«object.__getattribute__» ⟨[.ref x, .str name s.toks], []⟩)
      (fun fin s' => match fin with | .done (.ret v) => wpAny (model prog w) A (handedOut v) Q E s' | _ => False) (fun _ _ => False) { s with toks := s.toks + 1 }) :
    wpAny (model prog w) A (getAttr (.ref x) name expr) Q E s := by
  unfold getAttr
  exact wpAny_bind (wpAny_mkText (exc_by (s := { s with toks := s.toks + 1 }) X I c h))
theorem exc_value {v : Value} {Q : Value → Shared → Prop} (X : K.In s.heap) (I : InstAt s.heap x ox C od) (c : XGet K C) (hf : findObj K C od name = some (.value v)) (hh : handedIn v = true) (h : Q v { s with toks := s.toks + 1 }) :
    wpAny (model prog w) A (getAttr (.ref x) name expr) Q E s := by
  refine exc_open X I c ?_
  obtain ⟨hh', g, d, t, os⟩ := s
  have L0 := I.type (M := model prog w)
  have L1 := looks_find (M := model prog w) X I hf
  unfold Builtin.«object.__getattribute__»
  refine wpAny_bind (wpAny_pure (wpAny_bind (wpAny_pure (wpAny_bind (L0.at (wpAny_bind (L1.at ?_)))))))
  refine wpAny_pure ?_
  show wpAny _ _ (handedOut v) _ _ _
  rw [handedOut_of hh]; exact wpAny_pure h
end
end Add

namespace Add
open PySem PySem.Spec PyProof.Rows L2
section
open PySem.W
variable {prog : Program} {w : World} {A : Around} {E : Value → Shared → Prop} {s : Shared} {K : Frag} {x C : Addr} {ox : Obj} {od : Option Obj} {name : Str} {expr : Bool}
/-- isinstance of such an object -/
structure XIs (K : Frag) (C : Addr) : Prop extends XGet K C where
  dct : hasDictIn K C = true
  cls : findIn K (.ref C) "__class__" = some (some (.builtin "object.__class__"))
  get : specialIn K (.builtin "object.__class__") "__get__" = some (some (.builtin "getset_descriptor.__get__"))
  tak : takesIn K (.builtin "object.__class__") = some true
  obj : mroIn K C (.type "object") = some true
theorem find_class (c : XIs K C) : findObj K C od "__class__" = some (.bind (.builtin "getset_descriptor.__get__") (.builtin "object.__class__")) := by
  obtain ⟨cd, hc, _⟩ := any_some c.dct
  unfold findObj
  rw [hc, Option.bind_some, c.cls, Option.bind_some]
  dsimp only
  rw [c.get, Option.bind_some]
  dsimp only
  rw [c.tak, Option.bind_some]
theorem isType_own {M : Model} {h : Heap} (c : hasDictIn K C = true) (X : K.In h) : Looks M h (isType (.ref C)) true := by
  obtain ⟨cd, hc, _⟩ := any_some c
  unfold clsIn at hc
  split at hc
  · rename_i c' d' cd' sl' ho
    intro A' Q' E' s' k q
    unfold isType loadHead
    exact wpAny_bind (wpAny_loadPart (k _ _ (X _ _ ho)) (wpAny_pure q))
  · cases hc
theorem not_tup {h : Heap} {tp : Addr} {dd : Option Addr} {its : List Value} {n : Nat} {sl : Array (Option Value)} (c : hasDictIn K C = true) (X : K.In h) (htp : h.get? tp = some ⟨.type "tuple", dd, .seq its.toArray n, sl⟩) : (Value.ref C == .ref tp) = false := by
  obtain ⟨cd, hc, _⟩ := any_some c
  refine Bool.eq_false_iff.mpr fun q => ?_
  have e : C = tp := Value.ref.inj (beq_iff_eq.mp q)
  subst e
  unfold clsIn at hc
  split at hc
  · rename_i c' d' cd' sl' ho
    have z := (X _ _ ho).symm.trans htp
    cases z
  · cases hc
theorem exc_class {Q : Option Value → Shared → Prop} (X : K.In s.heap) (I : InstAt s.heap x ox C od) (c : XIs K C) (h : Q (some (.ref C)) { s with toks := s.toks + 1 }) : wpAny (model prog w) A (getAttr? (.ref x) "__class__") Q E s := by
  unfold getAttr? getAttrBy?
  refine wpAny_bind (wpAny_mkText (wpAny_bind (wpAny_attempt (exc_by (s := { s with toks := s.toks + 1 }) X I c.toXGet ?_))))
  obtain ⟨hh', g, d, t, os⟩ := s
  have L0 := I.type (M := model prog w)
  have L1 := looks_find (M := model prog w) X I (find_class (od := od) c)
  unfold Builtin.«object.__getattribute__»
  refine wpAny_bind (wpAny_pure (wpAny_bind (wpAny_pure (wpAny_bind (L0.at (wpAny_bind (L1.at ?_)))))))
  show wpAny _ _ (Builtin.ObjectAttr.bindTo (.builtin "getset_descriptor.__get__") (.builtin "object.__class__") (.ref x) (.ref C)) _ _ _
  unfold Builtin.ObjectAttr.bindTo
  refine wpAny_bind (wpAny_holding (wpAny_call (class_get (s := ⟨hh', g, d, t + 1, os⟩) (ox := ox) (od := od) X I c.obj ?_)))
  refine wpAny_pure ?_
  show wpAny _ _ (handedOut (.ref C)) _ _ _
  rw [handedOut_of rfl]
  exact wpAny_pure (wpAny_pure h)
theorem kitx_exc (c : XIs K C) : KitX K (.ref x) (.ref C) (fun h => ∃ ox od, InstAt h x ox C od) where
  ty := fun _ _ _ ⟨_, _, I⟩ => I.type
  it := fun _ _ X _ => isType_own c.dct X
  ne := fun h tp dd its n sl X htp => not_tup c.dct X htp
  ca := fun X ⟨_, _, I⟩ k => exc_class X I c k

/-! ### x.name = v -/
noncomputable abbrev VE : List Value := [.type "ValueError", .type "Exception", .type "BaseException", .type "object"]
noncomputable def exMro : List Value → Bool
  | .ref _ :: r => exMro r
  | l => l == VE
theorem refuse_exc (self : Value) : ∀ {l : List Value}, exMro l = true → refuseLoop self "__setattr__" l = pure () ∧ l.isEmpty = false ∧ l.contains (.type "object") = true
  | [], e => by cases e
  | .ref c :: r, e => by
    obtain ⟨a, b, d⟩ := refuse_exc self (l := r) e
    exact ⟨by rw [refuseLoop_ref]; exact a, rfl, by rw [List.contains_cons, d, Bool.or_true]⟩
  | .type n :: r, e => by
    have e' : (.type n :: r : List Value) = VE := beq_iff_eq.mp e
    rw [e']
    exact ⟨PySem.F.store_ValueError.passes self, rfl, by decide⟩
  | .none :: r, e => by have e' := beq_iff_eq.mp (show ((.none :: r : List Value) == VE) = true from e); cases e'
  | .bool _ :: r, e => by have e' := beq_iff_eq.mp (show ((.bool _ :: r : List Value) == VE) = true from e); cases e'
  | .int _ _ :: r, e => by have e' := beq_iff_eq.mp (show ((.int _ _ :: r : List Value) == VE) = true from e); cases e'
  | .float _ _ :: r, e => by have e' := beq_iff_eq.mp (show ((.float _ _ :: r : List Value) == VE) = true from e); cases e'
  | .str _ _ :: r, e => by have e' := beq_iff_eq.mp (show ((.str _ _ :: r : List Value) == VE) = true from e); cases e'
  | .bytes _ _ :: r, e => by have e' := beq_iff_eq.mp (show ((.bytes _ _ :: r : List Value) == VE) = true from e); cases e'
  | .builtin _ :: r, e => by have e' := beq_iff_eq.mp (show ((.builtin _ :: r : List Value) == VE) = true from e); cases e'
end
end Add

namespace Add
open PySem PySem.Spec PyProof.Rows L2
section
open PySem.W
variable {prog : Program} {w : World} {A : Around} {E : Value → Shared → Prop} {s : Shared} {K : Frag} {x C : Addr} {o : Obj} {name : Str} {v : Value}
structure XSet (K : Frag) (C : Addr) (name : Str) : Prop where
  sa : findIn K (.ref C) "__setattr__" = some (some (.builtin "object.__setattr__"))
  no : findIn K (.ref C) name = some none
  cd : ((clsIn K C).any fun cd => exMro cd.mro && cd.hasDict) = true
theorem osa_exc {tk : Tok} {R : Result → Shared → Prop} (X : K.In s.heap) (hx : s.heap.get? x = some o) (hc : o.cls = .ref C) (c : XSet K C name)
    (h : wpAny (model prog w) A.in1 (Builtin.ObjectAttr.storeInOwnDict (.ref x) (.ref C) (.str name tk) name v false)
      (fun fin s' => match fin with | .done f => R (.ok f) s' | .again c' => c'.quiet = true ∧ codeAny (model prog w) A c' R s') (fun e s' => R (.error e) s') s) :
    codeAny (model prog w) A (.call (.builtin "object.__setattr__") ⟨[.ref x, .str name tk, v], []⟩) R s := by
  have SF := PySem.F.store_object
  obtain ⟨cd, hcd, ho⟩ := any_some c.cd
  simp only [Bool.and_eq_true] at ho
  obtain ⟨rf, ne, has⟩ := refuse_exc (.ref x) ho.1
  have L0 : Looks (model prog w) s.heap (typeOf (.ref x)) (.ref C) := hc ▸ (Looks.ld hx).andThen .now
  have sub : Looks (model prog w) s.heap (isInstance (.ref x) (.type "object")) true := L0.andThen (looks_mroIn X (by unfold mroIn; rw [hcd, Option.bind_some, if_neg (by rw [ne]; decide), has]))
  have hm : Looks (model prog w) s.heap (mroOf (.ref C)) cd.mro := (looks_clsIn X hcd).andThen .now
  have LN := looks_findIn (M := model prog w) X c.no
  refine codeAny_call_builtin SF.slot.plain SF.entry (@check_slot (model prog w) _ _ s "object.__setattr__" "object" "__setattr__" (.ref x) [.str name tk, v] [] _ SF.kind SF.split sub (SF.args (.ref x) (.str name tk) v) ?_)
  rw [osa_eq, refuse_eq]
  refine wpAny_bind (wpAny_bind (L0.here (wpAny_bind (hm.here ?_))))
  rw [rf]
  refine wpAny_pure (wpAny_bind (L0.here (wpAny_bind (LN.here (wpAny_bind (wpAny_pure ?_))))))
  exact h
/-- an error object: its record -/
noncomputable abbrev exRec (C : Addr) (od : Option Addr) (vs : Array Value) (sl : Array (Option Value)) : Obj := { cls := .ref C, dict := od, data := .fields vs, slots := sl }
theorem sa_exc {Q : Unit → Shared → Prop} {od : Option Addr} {vs : Array Value} {sl : Array (Option Value)} (X : K.In s.heap) (hx : s.heap.get? x = some (exRec C od vs sl)) (c : XSet K C name)
    (h : wpAny (model prog w) A.in1 (Builtin.ObjectAttr.storeInOwnDict (.ref x) (.ref C) (.str name s.toks) name v false) (fun fin s' => fin = .done (.ret .none) ∧ Q () s') (fun _ _ => False) { s with toks := s.toks + 1 }) :
    wpAny (model prog w) A (setAttr (.ref x) name v) Q E s := by
  have L0 : Looks (model prog w) s.heap (typeOf (.ref x)) (.ref C) := (Looks.ld hx).andThen .now
  have LS := looks_findIn (M := model prog w) X c.sa
  refine wpAny_bind (wpAny_mkText (wpAny_bind (wpAny_bind (wpAny_bind (L0 _ _ _ _ (fun _ _ e => e) (LS _ _ _ _ (fun _ _ e => e) (wpAny_holding ?_)))))))
  rw [PySem.F.store_object.slot.bind]
  refine wpAny_bind (wpAny_pure (wpAny_bind (wpAny_call (osa_exc (s := { s with toks := s.toks + 1 }) X hx rfl c (wpAny_mono h (fun fin s' z => ?_) fun _ _ z => z.elim)))))
  obtain ⟨rfl, z⟩ := z
  exact wpAny_pure (wpAny_pure z)
/-- .. where it has no dict yet -/
theorem exc_set0 {Q : Unit → Shared → Prop} {vs : Array Value} {sl : Array (Option Value)} (X : K.In s.heap) (hx : s.heap.get? x = some (exRec C none vs sl)) (c : XSet K C name)
    (h : ∀ h' tk', h'.get? x = some (exRec C (some s.heap.objs.size) vs sl) → h'.Ns1 s.heap.objs.size (fun y => if y = name then some v else none) → (∀ b ob, b ≠ x → s.heap.get? b = some ob → h'.get? b = some ob) → Q () { s with heap := h', toks := tk' }) :
    wpAny (model prog w) A (setAttr (.ref x) name v) Q E s := by
  obtain ⟨cd, hcd, ho⟩ := any_some c.cd
  simp only [Bool.and_eq_true] at ho
  refine sa_exc X hx c ?_
  obtain ⟨hp, g, d, t, os⟩ := s
  unfold Builtin.ObjectAttr.storeInOwnDict Builtin.ObjectAttr.ownDictForStores instanceDict
  refine wpAny_bind (wpAny_pure (wpAny_bind (wpAny_bind (wpAny_loadPart hx (wpAny_bind ((looks_clsIn X hcd).at ?_))))))
  rw [ho.2]
  have hxs : x ≠ hp.objs.size := Nat.ne_of_lt (Heap.lt_size hx)
  have hx1 : (hp.push emptyDict).get? x = some (exRec C none vs sl) := Heap.get?_push_of_some _ hx
  show wpAny _ _ (alloc emptyDict >>= _) _ _ _
  refine wpAny_bind (wpAny_alloc' (wpAny_bind (wpAny_update' hx1 ?_)))
  refine wpAny_pure ?_
  have hgd : ((hp.push emptyDict).update x fun o => { cls := o.cls, dict := some hp.objs.size, data := o.data, slots := o.slots }).get? hp.objs.size = some emptyDict := (Heap.get?_update_ne _ _ _ _ hxs.symm).trans (Heap.get?_push_at rfl rfl)
  have hnd : ((hp.push emptyDict).update x fun o => { cls := o.cls, dict := some hp.objs.size, data := o.data, slots := o.slots }).Ns hp.objs.size (fun _ => none) := ⟨_, #[], _, hgd, rfl, fun e he => absurd he (by simp), fun _ => rfl⟩
  show wpAny _ _ (Builtin.ObjectAttr.storeInDict hp.objs.size (.str name t) name v) _ _ _
  unfold Builtin.ObjectAttr.storeInDict Builtin.ObjectAttr.newKeyGuard
  refine wpAny_bind (wpAny_pure (wpAny_bind (wpAny_nsSet1 (Heap.Ns1.of_empty hnd) fun h' hn' hs => ?_)))
  obtain ⟨oD, esD, epD, hoD, hdD, hcD⟩ := hn'.count (Within.cons name v Within.nil)
  refine wpAny_bind (wpAny_lookBehind hoD (by rw [hdD]; exact pastItsLine_dict (Nat.le_trans hcD (by rw [List.length_cons, List.length_nil, sizeLine_eq]; omega))) ?_)
  refine wpAny_pure ⟨rfl, h h' _ ?_ hn' fun b ob hb e => ?_⟩
  · exact (hs.2 x hxs).trans (Heap.get?_update_self _ hx1 rfl)
  · exact (hs.2 b (Nat.ne_of_lt (Heap.lt_size e))).trans ((Heap.get?_update_ne _ _ _ _ hb).trans (Heap.get?_push_of_some _ e))
/-- .. where it has one -/
theorem exc_set1 {Q : Unit → Shared → Prop} {dx : Addr} {vs : Array Value} {sl : Array (Option Value)} {mA : Str → Option Value} {ns : List Str} (X : K.In s.heap) (hx : s.heap.get? x = some (exRec C (some dx) vs sl)) (hn : s.heap.Ns1 dx mA) (hne : dx ≠ x) (hw : Within mA ns) (hsz : ns.length ≤ 1000) (c : XSet K C name)
    (h : ∀ h' tk', h'.Ns1 dx (fun y => if y = name then some v else mA y) → Heap.SameBut dx s.heap h' → Q () { s with heap := h', toks := tk' }) :
    wpAny (model prog w) A (setAttr (.ref x) name v) Q E s := by
  obtain ⟨cd, hcd, ho⟩ := any_some c.cd
  simp only [Bool.and_eq_true] at ho
  refine sa_exc X hx c ?_
  obtain ⟨hp, g, d, t, os⟩ := s
  unfold Builtin.ObjectAttr.storeInOwnDict Builtin.ObjectAttr.ownDictForStores instanceDict
  refine wpAny_bind (wpAny_pure (wpAny_bind (wpAny_bind (wpAny_loadPart hx (wpAny_bind ((looks_clsIn X hcd).at ?_))))))
  rw [ho.2]
  refine wpAny_pure (a := some dx) ?_
  show wpAny _ _ (Builtin.ObjectAttr.storeInDict dx (.str name t) name v) _ _ _
  unfold Builtin.ObjectAttr.storeInDict Builtin.ObjectAttr.newKeyGuard
  refine wpAny_bind (wpAny_pure (wpAny_bind (wpAny_nsSet1 hn fun h' hn' hs => ?_)))
  obtain ⟨oD, esD, epD, hoD, hdD, hcD⟩ := hn'.count (Within.cons name v hw)
  refine wpAny_bind (wpAny_lookBehind hoD (by rw [hdD]; exact pastItsLine_dict (Nat.le_trans hcD (by rw [List.length_cons, sizeLine_eq]; omega))) ?_)
  exact wpAny_pure ⟨rfl, h h' _ hn' hs⟩
end
end Add

namespace Add
open PySem PySem.Spec PyProof.Rows L2
/-! ### the class, by the fragment -/
noncomputable def xcIn (K : PySem.W.Frag) (C : Addr) (ini : Option Value) : Bool := match K.lookup C with
  | some ⟨.type "type", _, .cls cd, sl⟩ => (match cd.mro, sl.toList with
    | .ref C' :: bm, [_, _, _, _, some (.builtin n), _] => C' == C && n == "ValueError.__new__" && !cd.hasDel && PySem.W.tailIn K VE bm && PySem.W.nsOkIn K cd.ns && PySem.W.nsIn K cd.ns "__init__" == some ini
    | _, _ => false)
  | _ => false
theorem ns_in {K : PySem.W.Frag} {h : Heap} {N : Addr} {mg : Str → Option Value} {n : Str} {v : Value} (X : K.In h) (G : h.Ns N mg) (e : PySem.W.nsIn K N n = some (some v)) : mg n = some v := by
  obtain ⟨o, es, ep, ho, hd, _, hf⟩ := G
  unfold PySem.W.nsIn at e
  split at e
  · rename_i c d es' n' sl q
    have := X _ _ q
    rw [ho] at this
    cases this
    cases hd
    split at e
    · rename_i en he
      cases e
      rw [← hf]
      unfold nsFind findBy
      rw [← Array.find?_toList, he]
      rfl
    · split at e <;> cases e
  · cases e
theorem xc_of {K : PySem.W.Frag} {h : Heap} {C : Addr} {ini : Option Value} (X : K.In h) (q : xcIn K C ini = true) : ∃ (bm : List Value) (N : Addr) (nm qn : Str) (bs : List Value) (hd : Bool) (sn : List Str) (sub : List Value) (ab : Bool) (col : Option Bool) (dd : Option Addr) (k0 k1 k2 k3 k5 : Option Value) (mN : Str → Option Value),
    h.get? C = some (excClassObj nm qn C N bs bm hd sn sub ab col dd k0 k1 k2 k3 k5 "ValueError.__new__") ∧ h.Ns N mN ∧ mN "__init__" = ini ∧ OwnTail h VE bm := by
  unfold xcIn at q
  split at q
  · rename_i dd cd sl ho
    split at q
    · rename_i C' bm k0 k1 k2 k3 n k5 hm hs
      simp only [Bool.and_eq_true, beq_iff_eq, Bool.not_eq_true'] at q
      obtain ⟨⟨⟨⟨⟨rfl, rfl⟩, hdel⟩, ht⟩, hok⟩, hni⟩ := q
      obtain ⟨nm, bs, mro, ns, qn, hd, sn, sub, ab, col, del⟩ := cd
      dsimp only at hm hdel hok hni
      subst hm hdel
      have hsl : sl = #[k0, k1, k2, k3, some (.builtin "ValueError.__new__"), k5] := by
        obtain ⟨l⟩ := sl
        simp only at hs
        rw [hs]
      subst hsl
      have G : h.Ns ns (h.nsMap ns) := .of_isNs (PySem.W.isNs_of_in X hok)
      refine ⟨bm, ns, nm, qn, bs, hd, sn, sub, ab, col, dd, k0, k1, k2, k3, k5, _, X _ _ ho, G, ?_, PySem.W.tail_of_in X ht⟩
      cases ini with
      | none => exact PySem.W.ns_none_of X G hni
      | some v => exact ns_in X G hni
    · cases q
  · cases q

/-! ### made -/
section
variable {prog : Program} {w : World} {A : Around} {E : Value → Shared → Prop} {K : PySem.W.Frag} {C fI : Addr} {s : Shared} {rest : List Value}
theorem exc_tree {R : Result → Shared → Prop} {nm q : Str} {N : Addr} {bs bm : List Value} {hdct : Bool} {sn : List Str} {sub : List Value} {ab : Bool} {col : Option Bool} {dd : Option Addr} {k0 k1 k2 k3 k5 : Option Value} {newId : String}
    (hC : s.heap.get? C = some (excClassObj nm q C N bs bm hdct sn sub ab col dd k0 k1 k2 k3 k5 newId))
    (h : wpAny (model prog w) (A.under (.builtin "type.__call__" ⟨.ref C :: rest, []⟩)) (Builtin.«type.__call__» ⟨.ref C :: rest, []⟩)
      (fun fin s' => match fin with | .done f => R (.ok f) s' | .again c' => c'.quiet = true ∧ codeAny (model prog w) A c' R s') (fun e s' => R (.error e) s') s) :
    codeAny (model prog w) A (.call (.ref C) ⟨rest, []⟩) R s := by
  obtain ⟨hp, g, d, t, os⟩ := s
  have f1 := tc_lookup
  have f2 := tc_bind (.ref C)
  have hT : (⟨hp, g, d, t, os⟩ : Shared).TypeIs (.ref C) "type" := ⟨_, hC, rfl⟩
  refine codeAny_of_tree ?_
  show wpAny _ _ (callAny (.ref C) _) _ _ _
  repeat (any_goals (first | assumption | with_reducible refine wpAny_loadPart_at hC ?_ | wp_step))
  refine ⟨rfl, ?_⟩
  exact codeAny_call_builtin_at (Code.quiet_builtin _ (by decide +kernel)) entry_typeCall (wpAny_check_type_call_sub hC h)
theorem exc_make {R : Result → Shared → Prop} (X : K.In s.heap) (c : xcIn K C (some (.ref fI)) = true) (hf : PySem.W.typeIn K (.ref fI) = some (.type "function")) (hrest : rest.length ≤ sizeLine)
    (h : codeAny (model prog w) (A.under (.builtin "type.__call__" ⟨.ref C :: rest, []⟩)) (.call (.ref fI) ⟨.ref (s.heap.objs.size + 1) :: rest, []⟩) (PySem.W.InitBack (s.heap.objs.size + 1) R)
      { s with heap := (s.heap.push (excTup rest)).push (excNew C s.heap.objs.size) }) :
    codeAny (model prog w) A (.call (.ref C) ⟨rest, []⟩) R s := by
  obtain ⟨bm, N, nm, qn, bs, hd, sn, sub, ab, col, dd, k0, k1, k2, k3, k5, mN, hC, hn, hi, T⟩ := xc_of X c
  obtain ⟨hp, g, d, t, os⟩ := s
  exact exc_tree hC (type_call_own PySem.F.excBase_ValueError (by decide) PySem.F.excBase_ValueError T hC hn hi (fun self => PySem.W.bind_fn X self hf) h hrest)
end
end Add

namespace Add
open PySem PySem.Spec PyProof.Rows L2
/-! ### error objects in the abstract heap: the object itself, its dict -/
noncomputable def exO (x C : Addr) (od : Option Addr) (fr : Bool) : HO := .ext fun h => ∃ (vs : Array Value) (sl : Array (Option Value)), h.get? x = some (exRec C od vs sl) ∧ vs.size = 6 ∧ (fr = true → sl = #[] ∧ ∃ t : Addr, vs = #[.ref t, .none, .none, .none, .bool false, .none])
noncomputable def exD (dx : Addr) (fs : List (Str × V)) : HO := .ext fun h => ∃ mA, h.Ns1 dx mA ∧ (∀ f, RelO (fs.lookup f) (mA f)) ∧ PySem.Within mA (fs.map (·.1))
section
variable {P : Program} {w : World} {H : Hp} {h : Heap} {x C dx : Addr} {od : Option Addr} {fr : Bool} {fs : List (Str × V)}
theorem exO_ok {vs : Array Value} {sl : Array (Option Value)} (e : h.get? x = some (exRec C od vs sl)) (z : vs.size = 6) (f : fr = true → sl = #[] ∧ ∃ t : Addr, vs = #[.ref t, .none, .none, .none, .bool false, .none]) : ObjOk P w H h x (exO x C od fr) :=
  ⟨⟨vs, sl, e, z, f⟩, ⟨_, e⟩, fun _ h2 ⟨vs, sl, e, z, f⟩ k => ⟨vs, sl, k _ e, z, f⟩⟩
theorem exD_ok {mA : Str → Option Value} (n : h.Ns1 dx mA) (r : ∀ f, RelO (fs.lookup f) (mA f)) (wi : PySem.Within mA (fs.map (·.1))) : ObjOk P w H h dx (exD dx fs) :=
  ⟨⟨mA, n, r, wi⟩, let ⟨o, _, _, e, _⟩ := n; ⟨o, e⟩, fun _ h2 ⟨mA, n, r, wi⟩ k => ⟨mA, n.at fun o q => k o q, r, wi⟩⟩
theorem exO_at (ok : HOk P w H h) (e : H x = some (exO x C od fr)) : ∃ vs sl, h.get? x = some (exRec C od vs sl) ∧ vs.size = 6 ∧ (fr = true → sl = #[] ∧ ∃ t : Addr, vs = #[.ref t, .none, .none, .none, .bool false, .none]) := (ok x _ e).1
theorem exD_at (ok : HOk P w H h) (e : H dx = some (exD dx fs)) : ∃ mA, h.Ns1 dx mA ∧ (∀ f, RelO (fs.lookup f) (mA f)) ∧ PySem.Within mA (fs.map (·.1)) := (ok dx _ e).1
theorem ex_ne (ok : HOk P w H h) (e : H x = some (exO x C od fr)) (e' : H dx = some (exD dx fs)) : dx ≠ x := fun z => by
  obtain ⟨vs, sl, q, _⟩ := exO_at ok e
  obtain ⟨mA, ⟨o, es, ep, q', d, _⟩, _⟩ := exD_at ok e'
  rw [z, q] at q'
  cases q'
  cases d
end
theorem upd_self {H : Hp} {a : Addr} {o : HO} (h : H a = some o) : upd H a o = H := by
  funext b
  unfold upd
  by_cases e : b = a
  · rw [if_pos e, e, h]
  · rw [if_neg e]

section
variable {X : Cx} {pins : List (Addr × Obj)} {σ : L2.St} {H : Hp} {s : Shared} {A : Around} {E : Value → Shared → Prop}
theorem Inv_new {C : Addr} {t : Addr} {h' : Heap} {tk : Nat} (I : Inv X pins σ H s) (k : ∀ b o, s.heap.get? b = some o → h'.get? b = some o) (e : h'.get? (s.heap.objs.size + 1) = some (excNew C t)) :
    Inv X pins σ (upd H (s.heap.objs.size + 1) (exO (s.heap.objs.size + 1) C none true)) { s with heap := h', toks := tk } :=
  I.laid (a := s.heap.objs.size + 1) k (Nat.le_succ _) (exO_ok (vs := #[.ref t, .none, .none, .none, .bool false, .none]) (sl := #[]) e rfl fun _ => ⟨rfl, t, rfl⟩)

/-! ### C(..) -/
noncomputable def tExcI (C : Addr) (sp : Sp) (dvs : List V) (E : XK) (t : TA) : TE := fun σ H Q => t σ H fun vs H1 => vs.length ≤ sizeLine ∧ ∀ x, H1 x = none → sp (.ref x :: (vs ++ dvs)) (upd H1 x (exO x C none true)) (fun v H2 => v = .non ∧ Q (.ref x) H2) E
variable {CX : CXT} {k : Nat} {f : Addr} {fd : FuncData} {ps : List Str} {sp : Sp} {ds : List Value} {dvs : List V} {EX : XK}
theorem pe_excI {C : Addr} {x : Str} {p pos : Pos} {e : Expr} {es : List Expr} {t : TA} (c : xcIn X.K C (some (.ref f)) = true) (hf : PySem.W.typeIn X.K (.ref f) = some (.type "function")) (F : FnOk X.prog X.w X.K X.mg X.base CX k f fd ps sp) (hr : Room (k + 1) X.A) (hg : Gl X x) (hm : X.mg x = some (.ref C))
    (hk : PySem.W.keepIn X.K (.ref C) = true) (hb : Binds X.K fd ps ds) (hd : Vals dvs ds) (hx : Passes CX X EX) (ha : PA X (e :: es) t)
    (hdb : (x == ("__debug__" : Str)) = false := by decide) (he : starEach (e :: es) X.env = (false, eval e X.env) :: starEach es X.env := by rfl) (hpl : (backTo pos (starEach es X.env)).any (·.1) = false := by rfl) :
    PE X (.Call (.Name x p) (e :: es) [] pos) (tExcI C sp dvs EX t) := by
  intro pins s0 σ H0 Q I0 h
  refine wpAny_Call_Name_kw (ld_glob I0 hg hm ?_ hdb)
  refine PySem.W.callWith_K (h₀ := X.base) I0.ok.mod.kin hk (thn (ha pos pins s0 σ H0 _ I0 h) fun us s ⟨vs, H, I, r, hz, q⟩ => ⟨I.kIn, ?_⟩) he hpl
  have hl0 := r.length
  have hq := q (s.heap.objs.size + 1) (I.hok.fresh (Nat.le_succ _))
  have hget : ((s.heap.push (excTup us)).push (excNew C s.heap.objs.size)).get? (s.heap.objs.size + 1) = some (excNew C s.heap.objs.size) := by heap_get
  have I2 := Inv_new (C := C) (t := s.heap.objs.size) (h' := (s.heap.push (excTup us)).push (excNew C s.heap.objs.size)) (tk := s.toks) I (fun b o e => Heap.get?_push_of_some _ (Heap.get?_push_of_some _ e)) hget
  have r2 : Vals (V.ref (s.heap.objs.size + 1) :: (vs ++ dvs)) (Value.ref (s.heap.objs.size + 1) :: (us ++ ds)) := .cons rfl (r.append hd)
  have hl : (Value.ref (s.heap.objs.size + 1) :: us ++ ds).length = ps.length := by
    have e := r2.length
    rw [F.len _ _ _ _ hq] at e
    exact e.symm
  refine wpAny_call (exc_make I.kIn c hf (by show us.length ≤ _; omega) (codeAny_mono (F.run _ X.stack _ _ ⟨Value.ref (s.heap.objs.size + 1) :: us, []⟩ (Value.ref (s.heap.objs.size + 1) :: (us ++ ds)) _ _ EX (hr.make C us [])
    (I2.env0.make C us []) (hb _ (Value.ref (s.heap.objs.size + 1) :: us) I2.kIn hl) r2 hq) fun r s' hq' => ?_))
  cases r with
  | error e => exact hx pins σ _ _ e s' I2 hq'
  | ok fl =>
    cases fl with
    | ret u =>
      obtain ⟨v, H', I3, rv, ev, q3⟩ := I2.after hq'
      subst ev
      exact ⟨rv, ⟨V.ref (s.heap.objs.size + 1), H', I3, rfl, q3⟩⟩
    | next => exact False.elim hq'
    | brk => exact False.elim hq'
    | cont => exact False.elim hq'

/-! ### isinstance -/
theorem inst_of {h : Heap} {x C : Addr} {od : Option Addr} {vs : Array Value} {sl : Array (Option Value)} (e : h.get? x = some (exRec C od vs sl)) (d : ∀ dx, od = some dx → ∃ o, h.get? dx = some o) : ∃ ox od, PySem.W.InstAt h x ox C od := by
  cases od with
  | none => exact ⟨_, none, e, rfl, rfl, trivial⟩
  | some dx =>
    obtain ⟨o, ho⟩ := d dx rfl
    exact ⟨_, some o, e, rfl, rfl, ho⟩
/-- what stands behind an error object: nothing, or its dict -/
noncomputable def exHas (H : Hp) : Option Addr → Prop
  | none => True
  | some dx => ∃ fs, H dx = some (exD dx fs)
theorem exHas.at {P : Program} {w : World} {H : Hp} {h : Heap} {od : Option Addr} (ok : HOk P w H h) (e : exHas H od) : ∀ dx, od = some dx → ∃ o, h.get? dx = some o := fun dx z => by
  subst z
  obtain ⟨fs, q⟩ := e
  obtain ⟨mA, ⟨o, _, _, e, _⟩, _⟩ := exD_at ok q
  exact ⟨o, e⟩
theorem call_isx : CallR X (.builtin "isinstance") (fun xs H Q => ∃ (x C : Addr) (od : Option Addr) (fr : Bool) (c : V) (cv : Value) (b : Bool), xs = [.ref x, c] ∧ H x = some (exO x C od fr) ∧ exHas H od ∧ XIs X.K C ∧ ((∃ n, c = .ty n ∧ cv = .type n) ∨ ∃ D, c = .ref D ∧ cv = .ref D) ∧
    PySem.W.kitOne X.K (.ref C) cv = some b ∧ Q (.bl b) H) := by
  intro pins s σ H xs us Q I r h
  obtain ⟨x, C, od, fr, c, cv, b, rfl, e, hs, ci, hc, kk, q⟩ := h
  obtain ⟨u, u', rfl, r1, r2⟩ := Vals.two r
  cases r1
  have hu : u' = cv := by
    rcases hc with ⟨n, rfl, rfl⟩ | ⟨D, rfl, rfl⟩
    · exact r2
    · exact r2
  subst hu
  obtain ⟨vs, sl, e1, _⟩ := exO_at I.hok e
  exact PySem.W.kia_one (kitx_exc ci) I.kIn (inst_of e1 (exHas.at I.hok hs)) kk (fun z => nomatch z) fun tk => ⟨.bl b, H, I.tok tk, rfl, q⟩
end
end Add

namespace Add
open PySem PySem.Spec PyProof.Rows L2
section
variable {X : Cx} {pins : List (Addr × Obj)} {σ : L2.St} {H : Hp} {s : Shared} {E : Value → Shared → Prop}
/-! ### B.__init__(self, ..), B above an error class -/
structure XBase (K : PySem.W.Frag) (B : Addr) : Prop where
  ga : PySem.W.specialIn K (.ref B) "__getattribute__" = some (some (.builtin "type.__getattribute__"))
  rd : PySem.W.readsIn K B (.type "type") = true
  at_ : PySem.W.findCls K (.ref B) (.type "type") "__init__" = some (.val (.builtin "ValueError.__init__"))
noncomputable def tBInit (K : PySem.W.Frag) (t : TA) : TE := fun σ H Q => t σ H fun vs H1 => ∃ (x C : Addr) (od : Option Addr) (rest : List V) (ini : Option Value), vs = .ref x :: rest ∧ H1 x = some (exO x C od true) ∧ xcIn K C ini = true ∧ rest.length ≤ sizeLine ∧ Q .non H1
theorem init_call {A : Around} {x C : Addr} {od : Option Addr} {rest : List Value} {ini : Option Value} {Q : Value → Shared → Prop} {K : PySem.W.Frag} {prog : Program} {w : World} {t : Addr} (KX : K.In s.heap) (c : xcIn K C ini = true)
    (hx : s.heap.get? x = some (exRec C od #[.ref t, .none, .none, .none, .bool false, .none] #[])) (hrest : rest.length ≤ sizeLine)
    (h : ∀ h' t', h'.get? x = some (exRec C od #[.ref t', .none, .none, .none, .bool false, .none] #[]) → (∀ b o, b ≠ x → s.heap.get? b = some o → h'.get? b = some o) → Q .none { s with heap := h' }) :
    wpAny (model prog w) A (call (.builtin "ValueError.__init__") (.ref x :: rest)) Q E s := by
  obtain ⟨bm, N, nm, qn, bs, hd, sn, sub, ab, col, dd, k0, k1, k2, k3, k5, mN, hC, hn, hni, T⟩ := xc_of KX c
  obtain ⟨hp, g, d, tk, os⟩ := s
  have F := PySem.F.excBase_ValueError
  refine wpAny_call (codeAny_call_builtin F.init.plain F.initEntry (wpAny_check_init_subU F T hC hx rfl ?_))
  wp_walk
  refine h _ hp.objs.size ?_ fun b o hb e => ?_
  · rw [Heap.get?_update_self _ (Heap.get?_push_of_some _ hx) rfl]
    rfl
  · rw [Heap.get?_update_other _ _ (Ne.symm hb)]
    exact Heap.get?_push_of_some _ e
theorem pe_binit {B : Addr} {x : Str} {p apos pos : Pos} {e : Expr} {es : List Expr} {t : TA} {pl : Sem Bool} (c : XBase X.K B) (hg : Gl X x) (hm : X.mg x = some (.ref B)) (ha : PA X (e :: es) t) (hdb : (x == ("__debug__" : Str)) = false := by decide)
    (hst : starEach (e :: es) X.env = (false, eval e X.env) :: starEach es X.env := by rfl) (hpl : (backTo pos (starEach es X.env)).any (·.1) = false := by rfl)
    (ht : eval (.Call (.Attribute (.Name x p) "__init__" apos) (e :: es) [] pos) X.env = (do
      let ov ← eval (.Name x p) X.env
      standAt apos.atName
      let (f, first) ← holding [ov] (getMethod ov "__init__" pl)
      callWith pos f first (backTo pos (starEach (e :: es) X.env)) (backToKw pos (keywordEach [] X.env))) := by rfl) :
    PE X (.Call (.Attribute (.Name x p) "__init__" apos) (e :: es) [] pos) (tBInit X.K t) := by
  intro pins s σ H Q I h
  refine PySem.W.methodCall_KW (pl := pl) (ld_glob I hg hm ?_ hdb) ht
  refine PySem.W.method_cls I.kIn c.ga (PySem.W.cls_value I.kIn c.rd c.at_ rfl ?_)
  have I1 := I.tok (s.toks + 1)
  refine PyProof.Rows.callWith_builtin1 (thn (ha pos pins _ σ H _ I1 h) fun us s1 ⟨vs, H1, I2, r1, q1⟩ => ?_) hst hpl
  obtain ⟨x', C, od, rest, ini, rfl, e1, ci, hz, q⟩ := q1
  cases r1 with
  | cons ra rr =>
    cases ra
    obtain ⟨ws, sl, ex, z6, ff⟩ := exO_at I2.hok e1
    obtain ⟨rfl, t', rfl⟩ := ff rfl
    have hl := rr.length
    refine init_call I2.kIn ci ex (by omega) fun h' t2 ex' kk => ?_
    refine ⟨.non, H1, ?_, rfl, q⟩
    have J := I2.write (x := x') (e := x') (o := exO x' C od true) (t' := s1.toks) (h' := h') (by rw [e1]; exact trivial) (.inl rfl) (fun b u hb hu => kk b u hb hu) ⟨_, ex'⟩ (exO_ok ex' rfl fun _ => ⟨rfl, t2, rfl⟩)
    rw [upd_self e1] at J
    exact J

/-! ### e.f, e.f = v -/
noncomputable def tXFld (K : PySem.W.Frag) (ta : TE) (f : Str) : TE := fun σ H Q => ta σ H fun v H1 => ∃ (x C dx : Addr) (fr : Bool) (fs : List (Str × V)) (y : V), v = .ref x ∧ H1 x = some (exO x C (some dx) fr) ∧ H1 dx = some (exD dx fs) ∧ XIs K C ∧ PySem.W.findIn K (.ref C) f = some none ∧ fs.lookup f = some y ∧ Q y H1
theorem find_own {K : PySem.W.Frag} {C : Addr} {o : Obj} {f : Str} {u : Value} (c : PySem.W.hasDictIn K C = true) (n : PySem.W.findIn K (.ref C) f = some none) (l : PySem.W.lookIn f o = some (some u)) : PySem.W.findObj K C (some o) f = some (.value u) := by
  obtain ⟨cd, hc, hd⟩ := PySem.W.any_some c
  unfold PySem.W.findObj
  rw [hc, Option.bind_some, n, Option.bind_some]
  dsimp only
  simp only [Option.bind_some]
  unfold PySem.W.ownOf
  rw [hd, if_pos rfl]
  dsimp only
  rw [l, Option.bind_some]
theorem pe_xfld {e : Expr} {f : Str} {pos : Pos} {ta : TE} (he : PE X e ta) (hb : attributeBase e f X.env (eval e X.env) = eval e X.env) : PE X (.Attribute e f pos) (tXFld X.K ta f) := by
  intro pins s σ H Q I h
  refine attr_of hb (thn (he pins s σ H _ I h) fun u s1 ⟨v, H1, I1, rv, x, C, dx, fr, fs, y, ev, ex, ed, c, n, l, q⟩ => ?_)
  subst ev
  obtain rfl : u = Value.ref x := rv
  obtain ⟨vs, sl, e1, _⟩ := exO_at I1.hok ex
  obtain ⟨mA, hn, r, _⟩ := exD_at I1.hok ed
  obtain ⟨od, hod, hl⟩ := lookIn_ns hn
  obtain ⟨uv, hu, ru⟩ := RelO.some_of (v := y) (o := mA f) (by rw [← l]; exact r f)
  exact exc_value I1.kIn (ox := exRec C (some dx) vs sl) (od := some od) ⟨e1, rfl, rfl, hod⟩ c.toXGet (find_own c.dct n (by rw [hl, hu])) (handed_of ru) ⟨y, H1, I1.tok _, ru, q⟩
theorem Inv_both {x dx : Addr} {o o' : HO} {h' : Heap} {tk : Nat} (I : Inv X pins σ H s) (mu : Mut (H x)) (hd : s.heap.objs.size ≤ dx) (hne : dx ≠ x) (k : ∀ b u, b ≠ x → s.heap.get? b = some u → h'.get? b = some u) (hx : ∃ u, h'.get? x = some u)
    (n1 : ObjOk X.prog X.w (upd (upd H dx o') x o) h' x o) (n2 : ObjOk X.prog X.w (upd (upd H dx o') x o) h' dx o') : Inv X pins σ (upd (upd H dx o') x o) { s with heap := h', toks := tk } := by
  have hdn : H dx = none := I.hok.fresh hd
  have hxn : ∀ b, H b = none → b ≠ x := fun b n z => by subst z; rw [n] at mu; exact mu
  have nm : ∀ b u, H b = some u → ¬ Mut (some u) → b ≠ x := fun b u q nm z => by subst z; rw [q] at mu; exact nm mu
  have nd : ∀ b u, H b = some u → b ≠ dx := fun b u q => ne_of_none q hdn
  have old : ∀ b u, s.heap.get? b = some u → b ≠ dx := fun b u q => Nat.ne_of_lt (Nat.lt_of_lt_of_le (Heap.lt_size q) hd)
  have stay : ∀ b u, H b = some u → b ≠ x → upd (upd H dx o') x o b = some u := fun b u q hb => by rw [upd_ne hb, upd_ne (nd b u q)]; exact q
  refine I.un ⟨fun b u q n _ _ => k b u (hxn b n) q, fun b u q n _ _ => ⟨u.slots, k b u (hxn b n) q⟩, fun b u q n _ => by rw [upd_ne (hxn b n), upd_ne (old b u q)]; exact n, fun b u q _ => ?_, fun b xs q => stay b _ q (nm b _ q fun z => z), fun b u xs q => stay b _ q (nm b _ q fun z => z), fun b ps q => ⟨#[], by rw [stay b _ q (nm b _ q fun z => z)]; simp⟩⟩ ?_
  · by_cases hb : b = x
    · subst hb; exact hx
    · exact ⟨u, k b u hb q⟩
  · intro b u q
    by_cases hb : b = x
    · subst hb
      rw [upd_same] at q
      cases q
      exact n1
    · rw [upd_ne hb] at q
      by_cases hb' : b = dx
      · subst hb'
        rw [upd_same] at q
        cases q
        exact n2
      · rw [upd_ne hb'] at q
        refine (I.hok b u q).stay (fun c v hc r => k c v ?_ r) (fun c r => stay c _ r (nm c _ r fun z => z)) fun c xs r => stay c _ r (nm c _ r fun z => z)
        rcases hc with rfl | hc
        · exact hb
        · exact nm c _ hc fun z => z
noncomputable def sXFld (K : PySem.W.Frag) (ta tv : TE) (f : Str) : TS := fun D σ H => tv σ H fun y H1 => ta σ H1 fun v H2 => ∃ (x C : Addr) (fr : Bool), v = .ref x ∧ XSet K C f ∧
  ((H2 x = some (exO x C none fr) ∧ ∀ dx, H2 dx = none → D.nx σ (upd (upd H2 dx (exD dx [(f, y)])) x (exO x C (some dx) fr))) ∨
   (∃ dx fs, H2 x = some (exO x C (some dx) fr) ∧ H2 dx = some (exD dx fs) ∧ fs.length < 900 ∧ D.nx σ (upd H2 dx (exD dx (putF f y fs)))))
theorem ps_xfld {o value : Expr} {f : Str} {pos pos' : Pos} {ta tv : TE} (ha : PE X o ta) (hv : PE X value tv) (hs : swapsWith value (some (.Attribute o f pos')) pos.line X.env = pure false) : PS X (.Assign [.Attribute o f pos'] value pos) (sXFld X.K ta tv f) := by
  intro pins s0 σ H0 D I0 h
  refine plainObj_wpAny_Assign_Attribute (thn (hv pins s0 σ H0 _ I0 h) fun u s1 ⟨y, H1, I1, ry, q⟩ => thn (ha pins s1 σ H1 _ I1 q) fun ov s ⟨v, H, I, rv, x, C, fr, ev, c, q2⟩ => ?_) hs
  subst ev
  obtain rfl : ov = Value.ref x := rv
  rcases q2 with ⟨ex, nx⟩ | ⟨dx, fs, ex, ed, hl, nx⟩
  · obtain ⟨vs, sl, e1, z6, ff⟩ := exO_at I.hok ex
    refine exc_set0 I.kIn e1 c fun h' tk' e2 hn kk => ?_
    have hne : s.heap.objs.size ≠ x := Nat.ne_of_gt (Heap.lt_size e1)
    refine ⟨σ, _, Inv_both (x := x) (dx := s.heap.objs.size) (o := exO x C (some s.heap.objs.size) fr) (o' := exD s.heap.objs.size [(f, y)]) I (by rw [ex]; exact trivial) (Nat.le_refl _) hne (fun b ob hb e => kk b ob hb e) ⟨_, e2⟩ (exO_ok e2 z6 ff) (exD_ok hn (fun g => ?_) fun g hg => ?_), nx _ (I.hok.fresh (Nat.le_refl _))⟩
    · show RelO (List.lookup g [(f, y)]) (if g = f then some u else none)
      by_cases q : g = f
      · subst q
        rw [if_pos rfl, List.lookup_cons, beq_self_eq_true]
        exact ry
      · have q' : (g == f) = false := by simpa using q
        rw [if_neg q, List.lookup_cons, q']
        exact trivial
    · by_cases q : g = f
      · subst q; simp
      · exact absurd (if_neg q) hg
  · obtain ⟨vs, sl, e1, z6, ff⟩ := exO_at I.hok ex
    obtain ⟨mA, hn, r, wi⟩ := exD_at I.hok ed
    refine exc_set1 I.kIn e1 hn (ex_ne I.hok ex ed) wi (by rw [List.length_map]; omega) c fun h' tk' hn' sb => ?_
    have hd : ∃ o, h'.get? dx = some o := let ⟨o, _, _, e', _⟩ := hn'; ⟨o, e'⟩
    refine ⟨σ, _, I.write (x := dx) (e := dx) (o := exD dx (putF f y fs)) (t' := tk') (by rw [ed]; exact trivial) (.inl rfl) (fun b ob hb z => (sb.2 b hb).trans z) hd (exD_ok hn' (fun g => ?_) fun g hg => ?_), nx⟩
    · show RelO ((putF f y fs).lookup g) (if g = f then some u else mA g)
      rw [lookup_putF]
      by_cases q : g = f
      · rw [if_pos q, if_pos q]; exact ry
      · rw [if_neg q, if_neg q]; exact r g
    · by_cases q : g = f
      · rw [q]; exact (keys_putF f y fs).1
      · refine (keys_putF f y fs).2 g (wi g fun z => hg ?_)
        show (if g = f then some u else mA g) = none
        rw [if_neg q]; exact z
end
end Add

namespace Add
open PySem PySem.Spec PyProof.Rows L2
section
variable {X : Cx}
/-! ### == and != of lists of flat items; insert at the front -/
noncomputable def rEqL (K : PySem.W.Frag) (f : Bool → Bool) : R2 := fun x y H Q => ∃ a b xs ys, x = .ref a ∧ y = .ref b ∧ SqL K H a xs ∧ SqL K H b ys ∧ xs.all flatV = true ∧ ys.all flatV = true ∧ Q (.bl (f (eqVs xs ys))) H
theorem eqVs_len : ∀ {xs ys : List V}, xs.length ≠ ys.length → eqVs xs ys = false
  | [], [], h => absurd rfl h
  | [], _ :: _, _ => rfl
  | _ :: _, [], _ => rfl
  | x :: xs, y :: ys, h => by
    show (eqV x y && eqVs xs ys) = false
    rw [eqVs_len (fun z => h (by rw [List.length_cons, List.length_cons, z])), Bool.and_false]
theorem all_eq_same {xs ys : List V} (h : xs.length = ys.length) : (List.range xs.length).all (eAt xs ys) = eqVs xs ys := by
  rw [← all_eq xs ys, ← h, Nat.min_self]
  simp
theorem op_eqL (hu : X.A.units < cLine) : OpR X (compareOp .Eq) (rEqL X.K fun z => z) := by
  intro pins s σ H x y v u Q I rx ry h
  obtain ⟨a, b, xs, ys, rfl, rfl, ha, hb, fx, fy, q⟩ := h
  cases rx
  cases ry
  obtain ⟨its, r1, p1, _⟩ := I.list ha
  obtain ⟨its2, r2, p2, _⟩ := I.list hb
  have l1 := r1.length
  have l2 := r2.length
  by_cases hz : xs.length = ys.length
  · refine SeqAt.eq_listAt p1.isList p2.isList (by rw [List.size_toArray, List.size_toArray]; omega) hu (items_eq r1 r2 fx fy) ?_
    rw [List.size_toArray, ← l1, all_eq_same hz]
    exact ⟨.bl (eqVs xs ys), H, I, rfl, q⟩
  · refine SeqAt.eq_list_lengthsAt p1.isList p2.isList (bne_iff_ne.mpr (by rw [List.size_toArray, List.size_toArray]; omega)) hu ?_
    rw [eqVs_len hz] at q
    exact ⟨.bl false, H, I, rfl, q⟩
theorem op_neL (hu : X.A.units < cLine) : OpR X (compareOp .NotEq) (rEqL X.K fun z => !z) := by
  intro pins s σ H x y v u Q I rx ry h
  obtain ⟨a, b, xs, ys, rfl, rfl, ha, hb, fx, fy, q⟩ := h
  cases rx
  cases ry
  obtain ⟨its, r1, p1, _⟩ := I.list ha
  obtain ⟨its2, r2, p2, _⟩ := I.list hb
  have l1 := r1.length
  have l2 := r2.length
  by_cases hz : xs.length = ys.length
  · refine SeqAt.RcNeAt.lists p1.isList p2.isList (by rw [List.size_toArray, List.size_toArray]; omega) hu (items_eq r1 r2 fx fy) _ _ _ _ ?_
    rw [List.size_toArray, ← l1, all_eq_same hz]
    exact ⟨.bl (!eqVs xs ys), H, I, rfl, q⟩
  · refine SeqAt.RcNeAt.lists_lengths p1.isList p2.isList (bne_iff_ne.mpr (by rw [List.size_toArray, List.size_toArray]; omega)) hu _ _ _ _ ?_
    rw [eqVs_len hz] at q
    exact ⟨.bl true, H, I, rfl, q⟩
theorem eqV_self : ∀ {x : V}, flatV x = true → eqV x x = true
  | .non, _ => rfl
  | .bl b, _ => by cases b <;> rfl
  | .int i, _ => by simp [eqV]
  | .str y, _ => by simp [eqV]
  | .byt _, h => by simp [flatV] at h
  | .flt _, h => by simp [flatV] at h
  | .ref _, h => by simp [flatV] at h
  | .ty _, h => by simp [flatV] at h
theorem eqVs_self : ∀ {xs : List V}, xs.all flatV = true → eqVs xs xs = true
  | [], _ => rfl
  | x :: xs, h => by
    rw [List.all_cons, Bool.and_eq_true] at h
    show (eqV x x && eqVs xs xs) = true
    rw [eqV_self h.1, eqVs_self h.2]; rfl
end
end Add

namespace Add
open PySem PySem.Spec PyProof.Rows L2
/-! ### all that is asked of an error class, in one word each -/
noncomputable def xAll (K : PySem.W.Frag) (C : Addr) (ini : Option Value) : Bool := xcIn K C ini && PySem.W.keepIn K (.ref C) && (PySem.W.findIn K (.ref C) "__getattribute__" == some (some (.builtin "BaseException.__getattribute__"))) && (PySem.W.findIn K (.ref C) "__getattr__" == some none) &&
  (PySem.W.mroIn K C (.type "BaseException") == some true) && PySem.W.hasDictIn K C && (PySem.W.findIn K (.ref C) "__class__" == some (some (.builtin "object.__class__"))) &&
  (PySem.W.specialIn K (.builtin "object.__class__") "__get__" == some (some (.builtin "getset_descriptor.__get__"))) && (PySem.W.takesIn K (.builtin "object.__class__") == some true) && (PySem.W.mroIn K C (.type "object") == some true) &&
  (PySem.W.findIn K (.ref C) "__setattr__" == some (some (.builtin "object.__setattr__"))) && ((PySem.W.clsIn K C).any fun cd => exMro cd.mro && cd.hasDict)
structure XA (K : PySem.W.Frag) (C : Addr) (ini : Option Value) : Prop where
  xc : xcIn K C ini = true
  kp : PySem.W.keepIn K (.ref C) = true
  is : XIs K C
  sa : PySem.W.findIn K (.ref C) "__setattr__" = some (some (.builtin "object.__setattr__"))
  cd : ((PySem.W.clsIn K C).any fun cd => exMro cd.mro && cd.hasDict) = true
theorem xa_of {K : PySem.W.Frag} {C : Addr} {ini : Option Value} (h : xAll K C ini = true) : XA K C ini := by
  unfold xAll at h
  rw [Bool.and_eq_true] at h
  obtain ⟨h, hcd⟩ := h
  simp only [Bool.and_eq_true, beq_iff_eq] at h
  obtain ⟨⟨⟨⟨⟨⟨⟨⟨⟨⟨h1, h2⟩, h3⟩, h4⟩, h5⟩, h6⟩, h7⟩, h8⟩, h9⟩, h10⟩, h11⟩ := h
  exact ⟨h1, h2, { ga := h3, hk := h4, sub := h5, dct := h6, cls := h7, get := h8, tak := h9, obj := h10 }, h11, hcd⟩
theorem XA.set {K : PySem.W.Frag} {C : Addr} {ini : Option Value} {name : Str} (a : XA K C ini) (no : PySem.W.findIn K (.ref C) name = some none) : XSet K C name := ⟨a.sa, no, a.cd⟩
noncomputable def xNo (K : PySem.W.Frag) (C : Addr) (ns : List Str) : Bool := ns.all fun n => PySem.W.findIn K (.ref C) n == some none
theorem xno_of {K : PySem.W.Frag} {C : Addr} {ns : List Str} {n : Str} (h : xNo K C ns = true) (m : n ∈ ns) : PySem.W.findIn K (.ref C) n = some none := beq_iff_eq.mp (List.all_eq_true.mp h n m)
noncomputable def xKits (K : PySem.W.Frag) (C : Addr) (cs : List Value) (bs : List Bool) : Bool := (cs.map fun c => PySem.W.kitOne K (.ref C) c) == bs.map some
theorem xkits_of {K : PySem.W.Frag} {C : Addr} {cs : List Value} {bs : List Bool} (h : xKits K C cs bs = true) {i : Nat} {c : Value} {b : Bool} (hc : cs[i]? = some c) (hb : bs[i]? = some b) : PySem.W.kitOne K (.ref C) c = some b := by
  have e := congrArg (fun l => l[i]?) (beq_iff_eq.mp h)
  simp only [List.getElem?_map, hc, hb, Option.map_some] at e
  exact Option.some.inj e
noncomputable def xBase (K : PySem.W.Frag) (B : Addr) : Bool := (PySem.W.specialIn K (.ref B) "__getattribute__" == some (some (.builtin "type.__getattribute__"))) && PySem.W.readsIn K B (.type "type") &&
  (match PySem.W.findCls K (.ref B) (.type "type") "__init__" with | some (.val (.builtin n)) => n == "ValueError.__init__" | _ => false)
theorem xb_of {K : PySem.W.Frag} {B : Addr} (h : xBase K B = true) : XBase K B := by
  unfold xBase at h
  simp only [Bool.and_eq_true, beq_iff_eq] at h
  obtain ⟨⟨h1, h2⟩, h3⟩ := h
  refine ⟨h1, h2, ?_⟩
  split at h3
  · rename_i n e
    rw [e, beq_iff_eq.mp h3]
  · cases h3
structure MethAt (K : PySem.W.Frag) (x qual : Str) (st : Stmt) (ps : List Str) (f : Addr) (fd : FuncData) : Prop where
  fn : Fun K x qual st f fd
  bd : Binds K fd ps []
  ty : PySem.W.typeIn K (.ref f) = some (.type "function")
/-! ### rules whose reading names the fragment, for a comprehension's block -/
section
variable {X : Cx} {K : PySem.W.Frag}
theorem op_in_seqK (hK : X.K = K) : OpR X (compareOp .In) (rIn K false) := hK ▸ op_in_seq
end
end Add

namespace Add
open PySem PySem.Spec PyProof.Rows L2
/-! ### an error in flight: what noteFrame and leaving do to the heap -/
structure Notes (fs : List Addr) (x C : Addr) (od : Option Addr) (sl : Array (Option Value)) (told : List Addr) (T : Addr) (fl : Value) (h h' : Heap) : Prop where
  rc : ∃ vs : Array Value, vs.size = 6 ∧ h'.get? x = some (exRec C od vs sl) ∧ vs[1]? = some (.ref T)
  tb : ∃ oT ts, h'.get? T = some oT ∧ oT.data = .fields ts ∧ ts[3]? = some fl
  new : h.objs.size ≤ T
  ne : T ≠ x
  keep : ∀ b o, b ≠ x → b ∉ told → b ∉ fs → h.get? b = some o → h'.get? b = some o
  slot : ∀ b o, b ≠ x → b ∉ told → h.get? b = some o → ∃ s, h'.get? b = some { o with slots := s }
  old : ∀ b ∈ told, ∃ o, h'.get? b = some o
section
variable {M : Model} {A : Around} {E : Value → Shared → Prop} {s : Shared} {base : Heap} {env : Env} {outer : List Env} {L x C : Addr} {od : Option Addr} {vs : Array Value} {sl : Array (Option Value)}
theorem entry_x {head : Value} {hadNext : Bool} {Q : Unit → Shared → Prop} (hfr : A.frames = some (env :: outer)) (hl : s.heap.FunFrames base (env :: outer)) (hf : env.frame = some L) (he : s.heap.get? x = some (exRec C od vs sl)) (hz : vs.size = 6)
    (h : ∀ h' T, Notes (frs (env :: outer)) x C od sl [] T (rawInt L) s.heap h' → Q () { s with heap := h' }) :
    wpAny M A (do let a ← frameOf env; let pl ← entryPlaceOf L hadNext; let b ← EntryCells.newEntry head a .none (rawInt L) .none pl; setField (.ref x) 1 b) Q E s := by
  have hene : x ∉ (env :: outer).filterMap (·.frame) := fun hm => by
    obtain ⟨_, o, ho, hnf⟩ := hl.mem hm
    rw [he] at ho; cases ho; exact hnf vs rfl
  refine wpAny_bind (wpAny_frameOf_fun hfr hl hf fun h₁ hs₁ => ?_)
  refine wpAny_bind (wpAny_entryPlaceOf fun pl hpl => ?_)
  unfold EntryCells.newEntry newFields
  refine wpAny_bind (wpAny_newObj_type ?_ (hpl.sizeOk5 _ _ _ _ _))
  generalize hO : ({ cls := .type "traceback", dict := none, data := .fields ([head, .ref L, .none, rawInt L, .none] ++ (if pl.isEmpty then List.replicate 6 Value.none else pl)).toArray } : Obj) = oT
  have he₁ : h₁.get? x = some (exRec C od vs sl) := (hs₁.2.1 x hene).trans he
  have he₂ := Heap.get?_push_of_some (h := h₁) oT he₁
  have hd₂ : (exRec C od vs sl).data = .fields vs := rfl
  refine wpAny_setField he₂ hd₂ (by omega) (h _ h₁.objs.size ?_)
  have hTx : h₁.objs.size ≠ x := Nat.ne_of_gt (Heap.lt_size he₁)
  have hd₃ := Obj.data_mapFields hd₂ (·.setIfInBounds 1 (Value.ref h₁.objs.size))
  have he₃ := Heap.get?_update_self (Obj.mapFields (·.setIfInBounds 1 (Value.ref h₁.objs.size))) he₂ (Obj.isFreed_of_fields hd₃)
  have hT₃ : ((h₁.push oT).update x (Obj.mapFields (·.setIfInBounds 1 (Value.ref h₁.objs.size)))).get? h₁.objs.size = some oT :=
    (Heap.get?_update_other _ _ (Ne.symm hTx)).trans (Heap.get?_push_size h₁ (by rw [← hO]; rfl))
  have kp : ∀ b o, b ≠ x → h₁.get? b = some o → ((h₁.push oT).update x (Obj.mapFields (·.setIfInBounds 1 (Value.ref h₁.objs.size)))).get? b = some o := fun b o hb e => by
    rw [Heap.get?_update_other _ _ (Ne.symm hb)]
    exact Heap.get?_push_of_some _ e
  refine ⟨⟨vs.setIfInBounds 1 (.ref h₁.objs.size), by rw [Array.size_setIfInBounds]; exact hz, he₃, by simp [hz]⟩, ⟨oT, _, hT₃, by rw [← hO], ?_⟩, ?_, hTx, fun b o hb _ hbf e => kp b o hb ((hs₁.2.1 b hbf).trans e), fun b o hb _ e => ?_, fun b hb => absurd hb (by simp)⟩
  · first | (simp; done) | (rcases hpl with rfl | ⟨_, _, _, _, _, _, _, rfl⟩ <;> simp)
  · exact Nat.le_of_eq hs₁.1.symm
  · obtain ⟨sl', e'⟩ := hs₁.2.2 b o e
    exact ⟨sl', kp b _ hb e'⟩
theorem note_new {Q : Unit → Shared → Prop} (hfr : A.frames = some (env :: outer)) (hl : s.heap.FunFrames base (env :: outer)) (hf : env.frame = some L) (he : s.heap.get? x = some (exRec C od vs sl)) (hz : vs.size = 6) (h1 : vs[1]? = some .none)
    (h : ∀ h' T, Notes (frs (env :: outer)) x C od sl [] T (rawInt L) s.heap h' → Q () { s with heap := h' }) : wpAny M A (noteFrame (.ref x) env) Q E s := by
  unfold noteFrame
  simp only [hf]
  refine wpAny_bind (wpAny_field he rfl h1 ?_)
  rw [if_neg (by decide)]
  exact entry_x hfr hl hf he hz h
theorem note_next {Q : Unit → Shared → Prop} {T : Addr} {oT : Obj} {ts : Array Value} (hfr : A.frames = some (env :: outer)) (hl : s.heap.FunFrames base (env :: outer)) (hf : env.frame = some L) (he : s.heap.get? x = some (exRec C od vs sl)) (hz : vs.size = 6) (h1 : vs[1]? = some (.ref T))
    (hTx : T ≠ x) (hT : s.heap.get? T = some oT) (hd : oT.data = .fields ts) (h3 : ts[3]? = some .none)
    (h : ∀ h' T', Notes (frs (env :: outer)) x C od sl [T] T' (rawInt L) s.heap h' → Q () { s with heap := h' }) : wpAny M A (noteFrame (.ref x) env) Q E s := by
  unfold noteFrame
  simp only [hf]
  refine wpAny_bind (wpAny_field he rfl h1 ?_)
  rw [if_pos (show (Value.ref T != Value.none) = true from by simp)]
  refine wpAny_bind (wpAny_field hT hd h3 ?_)
  rw [if_neg (show ¬ ((Value.none == rawInt L) = true) from by simp [rawInt])]
  refine wpAny_bind (wpAny_setField hT hd (Array.getElem?_eq_some_iff.mp h3).1 ?_)
  have other : ∀ b, b ≠ T → (s.heap.update T (Obj.mapFields (·.setIfInBounds 3 Value.none))).get? b = s.heap.get? b := fun b hb => Heap.get?_update_other _ _ (Ne.symm hb)
  have hTT : ∃ o, (s.heap.update T (Obj.mapFields (·.setIfInBounds 3 Value.none))).get? T = some o := ⟨_, Heap.get?_update_self _ hT (Obj.isFreed_of_fields (Obj.data_mapFields hd _))⟩
  have nr : ∀ b o, s.heap.get? b = some o → (∀ vs, o.data ≠ .fields vs) → b ≠ T := fun b o hb hnf q => by
    rw [q, hT] at hb; cases hb; exact hnf ts hd
  have nf : T ∉ frs (env :: outer) := fun hm => by
    obtain ⟨_, o, ho, hnf⟩ := hl.mem hm
    rw [hT] at ho; cases ho; exact hnf ts hd
  refine entry_x hfr (hl.of_keeps fun b o hb hnf => ⟨o, (other b (nr b o hb hnf)).trans hb, rfl⟩) hf ((other x (Ne.symm hTx)).trans he) hz fun h' T' N => h h' T' ?_
  obtain ⟨o, ho⟩ := hTT
  refine ⟨N.rc, N.tb, Nat.le_trans (Nat.le_of_eq (Heap.size_update ..).symm) N.new, N.ne, fun b o hb hb' hbf e => N.keep b o hb (by simp) hbf ((other b (by simpa using hb')).trans e), fun b o hb hb' e => N.slot b o hb (by simp) ((other b (by simpa using hb')).trans e), fun b hb => ?_⟩
  have e : b = T := by simpa using hb
  subst e
  exact ⟨o, N.keep b o hTx (by simp) nf ho⟩
theorem land_x {Q : Unit → Shared → Prop} {fs told : List Addr} {T : Addr} {fl : Value} {h0 : Heap} (N : Notes fs x C od sl told T fl h0 s.heap) (nt : T ∉ told) (h : ∀ h', Notes fs x C od sl told T .none h0 h' → Q () { s with heap := h' }) : wpAny M A (setFlight (.ref x) none) Q E s := by
  obtain ⟨vs, hz, he, h1⟩ := N.rc
  obtain ⟨oT, ts, hT, hd, h3⟩ := N.tb
  have hs3 := (Array.getElem?_eq_some_iff.mp h3).1
  unfold setFlight
  refine wpAny_bind (wpAny_field he rfl h1 ?_)
  rw [if_pos (show (Value.ref T != Value.none) = true from by simp)]
  refine wpAny_setField hT hd hs3 (h _ ?_)
  have other : ∀ b, b ≠ T → (s.heap.update T (Obj.mapFields (·.setIfInBounds 3 ((none : Option Addr).elim Value.none fun f => rawInt f)))).get? b = s.heap.get? b := fun b hb => Heap.get?_update_other _ _ (Ne.symm hb)
  have lt : ∀ b o, h0.get? b = some o → b ≠ T := fun b o e => Nat.ne_of_lt (Nat.lt_of_lt_of_le (Heap.lt_size e) N.new)
  refine ⟨⟨vs, hz, (other x (Ne.symm N.ne)).trans he, h1⟩, ⟨_, _, Heap.get?_update_self _ hT (Obj.isFreed_of_fields (Obj.data_mapFields hd _)), Obj.data_mapFields hd _, by simp [hs3]⟩, N.new, N.ne, fun b o hb hb' hbf e => (other b (lt b o e)).trans (N.keep b o hb hb' hbf e), fun b o hb hb' e => ?_, fun b hb => ?_⟩
  · obtain ⟨s', e'⟩ := N.slot b o hb hb' e
    exact ⟨s', (other b (lt b o e)).trans e'⟩
  · obtain ⟨o, e⟩ := N.old b hb
    exact ⟨o, (other b fun z => nt (z ▸ hb)).trans e⟩
end
end Add

namespace Add
open PySem PySem.Spec PyProof.Rows L2
/-! ### an error in flight, by the abstract heap -/
noncomputable def FlyT (X : Cx) (pins : List (Addr × Obj)) (H : Hp) (h : Heap) (x C : Addr) (od : Option Addr) : Prop := H x = some (exO x C od false) ∧ ∃ (vs : Array Value) (sl : Array (Option Value)) (T : Addr) (oT : Obj) (ts : Array Value),
  h.get? x = some (exRec C od vs sl) ∧ vs[1]? = some (.ref T) ∧ h.get? T = some oT ∧ oT.data = .fields ts ∧ ts[3]? = some .none ∧ FpOk X pins H T
noncomputable def Fly (X : Cx) (pins : List (Addr × Obj)) (H : Hp) (h : Heap) (x C : Addr) (od : Option Addr) : Prop := H x = some (exO x C od true) ∨ FlyT X pins H h x C od
theorem has_upd {P : Program} {w : World} {H : Hp} {h : Heap} {x C : Addr} {od : Option Addr} {fr fr' : Bool} (ok : HOk P w H h) (e : H x = some (exO x C od fr)) (a : exHas H od) : exHas (upd H x (exO x C od fr')) od := by
  cases od with
  | none => exact trivial
  | some dx =>
    obtain ⟨fs, q⟩ := a
    exact ⟨fs, by rw [upd_ne (ex_ne ok e q)]; exact q⟩
section
variable {X : Cx} {pins : List (Addr × Obj)} {σ : L2.St} {H : Hp} {s : Shared} {E : Value → Shared → Prop} {x C : Addr} {od : Option Addr}
theorem notes_inv {fr : Bool} {sl : Array (Option Value)} {told : List Addr} {T : Addr} {fl : Value} {h' : Heap} (I : Inv X pins σ H s) (e : H x = some (exO x C od fr)) (N : Notes (frs X.stack) x C od sl told T fl s.heap h') (ht : ∀ b ∈ told, FpOk X pins H b) :
    Inv X pins σ (upd H x (exO x C od false)) { s with heap := h' } ∧ FpOk X pins (upd H x (exO x C od false)) T := by
  have nx : ∀ b, H b = none → b ≠ x := fun b n z => by rw [z, e] at n; cases n
  have nt : ∀ b u, H b = some u → b ∉ told := fun b u q z => by rw [(ht b z).1] at q; cases q
  have nf : ∀ b u, H b = some u → b ∉ frs X.stack := fun b u q z => by rw [I.stkFree b z] at q; cases q
  have hx' : ∀ b u, H b = some u → u ≠ exO x C od fr → b ≠ x := fun b u q n z => n (by rw [z, e] at q; exact (Option.some.inj q).symm)
  have sub : ∀ b, b ≠ X.env.locals → b ∉ X.fs → b ∉ frs X.stack := fun b h1 h2 z => by
    rcases List.mem_cons.mp (I.stkSub b z) with q | q
    · exact h1 q
    · exact h2 q
  refine ⟨I.step (g' := s.gens) (d' := s.drawn) (t' := s.toks) (ch := told) (fun b hb => ⟨(ht b hb).2.2.2.1, (ht b hb).2.1, (ht b hb).2.2.2.2.1, (ht b hb).2.2.2.2.2⟩) (fun b o h1 h2 hc q n => N.keep b o (nx b n) hc (sub b h1 h2) q) (fun b o _ _ hc q n => N.slot b o (nx b n) hc q)
    (fun b o _ _ n => by rw [upd_ne (nx b n)]; exact n) (fun b o hc q => ?_) (fun b xs q => ?_) (fun b o u q => ?_) (fun b ps q => ?_) (fun m hm => ?_) (fun b u q => ?_) I.bare, ?_⟩
  · by_cases hb : b = x
    · subst hb
      obtain ⟨vs, _, r, _⟩ := N.rc
      exact ⟨_, r⟩
    · obtain ⟨s', q'⟩ := N.slot b o hb hc q
      exact ⟨_, q'⟩
  · rw [upd_ne (hx' b _ q (by unfold exO; intro z; cases z))]; exact q
  · rw [upd_ne (hx' b _ q (by unfold exO; intro z; cases z))]; exact q
  · exact ⟨#[], by rw [upd_ne (hx' b _ q (by unfold exO; intro z; cases z)), q]; simp⟩
  · obtain ⟨o, es, ep, ho, r⟩ := hm
    obtain ⟨s', q'⟩ := N.slot _ o (nx _ I.free) (fun z => (ht _ z).2.1 rfl) ho
    exact ⟨_, es, ep, q', r⟩
  · by_cases hb : b = x
    · subst hb
      rw [upd_same] at q
      cases q
      obtain ⟨vs, hz, r, _⟩ := N.rc
      exact exO_ok r hz fun z => nomatch z
    · rw [upd_ne hb] at q
      refine (I.hok b u q).stay (fun c v hc r => ?_) (fun c r => ?_) fun c xs r => ?_
      · rcases hc with rfl | hc
        · exact N.keep c v hb (nt c u q) (nf c u q) r
        · exact N.keep c v (hx' c _ hc (by unfold exO; intro z; cases z)) (nt c _ hc) (nf c _ hc) r
      · rw [upd_ne (hx' c _ r (by unfold exO; intro z; cases z))]; exact r
      · rw [upd_ne (hx' c _ r (by unfold exO; intro z; cases z))]; exact r
  · exact I.fpOk N.new (by rw [upd_ne N.ne]; exact I.hok.fresh N.new)
/-- noteFrame and then the landing: of a body's own frame -/
theorem note_land {Q : Shared → Prop} (hst : X.stack = X.env :: X.outer ∧ X.env.frame = some X.env.locals) (I : Inv X pins σ H s) (f : Fly X pins H s.heap x C od)
    (h : ∀ s', Inv X pins σ (upd H x (exO x C od false)) s' → FlyT X pins (upd H x (exO x C od false)) s'.heap x C od → Q s') :
    wpAny (model X.prog X.w) X.A (noteFrame (.ref x) X.env) (fun _ s2 => wpAny (model X.prog X.w) X.A (setFlight (.ref x) none) (fun _ s3 => Q s3) E s2) E s := by
  have hfr : X.A.frames = some (X.env :: X.outer) := by rw [I.ok.frames, hst.1]
  have hl : s.heap.FunFrames X.base (X.env :: X.outer) := by rw [← hst.1]; exact I.stack
  have fin : ∀ {fr : Bool} {sl : Array (Option Value)} {told : List Addr} {T : Addr} {fl : Value} {h' : Heap}, H x = some (exO x C od fr) → (∀ b ∈ told, FpOk X pins H b) → (∀ b ∈ told, ∃ o, s.heap.get? b = some o) → Notes (frs (X.env :: X.outer)) x C od sl told T fl s.heap h' →
      wpAny (model X.prog X.w) X.A (setFlight (.ref x) none) (fun _ s3 => Q s3) E { s with heap := h' } := by
    intro fr sl told T fl h' e ht hex N
    refine land_x (s := { s with heap := h' }) N (fun z => ?_) fun h2 N2 => ?_
    · obtain ⟨o, q⟩ := hex T z
      exact absurd (Heap.lt_size q) (Nat.not_lt.mpr N.new)
    · rw [← hst.1] at N2
      obtain ⟨J, fp⟩ := notes_inv I e N2 ht
      obtain ⟨vs, hz, r, h1⟩ := N2.rc
      obtain ⟨oT, ts, hT, hd, h3⟩ := N2.tb
      exact h _ J ⟨upd_same, vs, sl, T, oT, ts, r, h1, hT, hd, h3, fp⟩
  rcases f with e | ⟨e, vs, sl, T, oT, ts, he, h1, hT, hd, h3, fp⟩
  · obtain ⟨vs, sl, he, hz, ff⟩ := exO_at I.hok e
    obtain ⟨rfl, t, rfl⟩ := ff rfl
    exact note_new hfr hl hst.2 he rfl rfl fun h' T N => fin e (fun b hb => absurd hb (by simp)) (fun b hb => absurd hb (by simp)) N
  · have hz : vs.size = 6 := by
      obtain ⟨vs', sl', he', hz, _⟩ := exO_at I.hok e
      rw [he] at he'
      cases he'
      exact hz
    have hTx : T ≠ x := fun z => by
      have := fp.1
      rw [z, e] at this
      cases this
    have one : ∀ b ∈ [T], b = T := fun b hb => by simpa using hb
    exact note_next hfr hl hst.2 he hz h1 hTx hT hd h3 fun h' T' N => fin e (fun b hb => by rw [one b hb]; exact fp) (fun b hb => by rw [one b hb]; exact ⟨_, hT⟩) N
end

/-! ### how an error lies behind a call -/
noncomputable def CX1 (P : Program) (w : World) : CXT := fun outer H s E e s' => ∃ (x C : Addr) (od : Option Addr) (H' : Hp) (vs : Array Value) (sl : Array (Option Value)) (T : Addr) (oT : Obj) (ts : Array Value), e = .ref x ∧ H' x = some (exO x C od false) ∧ exHas H' od ∧ s'.heap.get? x = some (exRec C od vs sl) ∧ vs[1]? = some (.ref T) ∧
  s'.heap.get? T = some oT ∧ oT.data = .fields ts ∧ ts[3]? = some .none ∧ H' T = none ∧ s.heap.objs.size ≤ T ∧ s'.os = s.os ∧ AllBare s'.gens ∧ Un (frs outer) [] H H' s.heap s'.heap ∧ HOk P w H' s'.heap ∧ E (.ref x) od H'
/-- an error that is made or comes in a body goes where E is asked of it -/
noncomputable def Takes (X : Cx) (E : XK) : Prop := ∀ (pins : List (Addr × Obj)) (σ : L2.St) (H : Hp) (s : Shared) (x C : Addr) (od : Option Addr), Inv X pins σ H s → Fly X pins H s.heap x C od → exHas H od → E (.ref x) od (upd H x (exO x C od false)) → X.xe (.ref x) s
theorem takes_fn {P : Program} {w : World} {K : PySem.W.Frag} {mg : Str → Option Value} {base : Heap} {N : List Str} {qual : Str} {scope : Scope} {f : Addr} {cd : Value} {A : Around} {outer : List Env} {s : Shared} {H : Hp} {E : XK} :
    Takes (cxOf (CX1 P w) P w K mg base N qual scope f cd A outer s H E) E := by
  intro pins σ H1 s1 x C od I fl has q
  show wpAny _ _ (leaving _ _) _ _ _
  unfold leaving
  refine wpAny_bind (note_land ⟨rfl, rfl⟩ I fl fun s2 J ft => ?_)
  obtain ⟨e, vs, sl, T, oT, ts, hx, h1, hT, hd, h3, fp⟩ := ft
  have hTs : s.heap.objs.size ≤ T := by
    rcases fp.2.2.2.1 with z | z
    · exact absurd (show T ∈ ([] : List Addr) from z) (by simp)
    · exact z
  have e1 : ∃ fr, H1 x = some (exO x C od fr) := by
    rcases fl with z | z
    · exact ⟨_, z⟩
    · exact ⟨_, z.1⟩
  obtain ⟨fr, e1⟩ := e1
  exact ⟨x, C, od, _, vs, sl, T, oT, ts, rfl, e, has_upd I.hok e1 has, hx, h1, hT, hd, h3, fp.1, hTs, J.os, J.bare, J.base, J.hok, q⟩
end Add

namespace Add
open PySem PySem.Spec PyProof.Rows L2
/-! ### a def that may let an error out; leaves whose errors are asked of by the names' values -/
section
variable {P : Program} {w : World} {K : PySem.W.Frag} {mg : Str → Option Value} {base : Heap}
theorem okX {x qual : Str} {st : Stmt} {f : Addr} {fd : FuncData} {N ps : List Str} {k : Nat} {sp : Sp} (F : Fun K x qual st f fd) (S : FnScope N ps (defScope st)) (len : ∀ vs H Q E, sp vs H Q E → vs.length = ps.length)
    (hbody : ∀ (cdv : Value) (A : Around) (outer : List Env) (s : Shared) (H : Hp) (vs : List V) (Q : VK) (E : XK), Room k (A.deeper (envOfC qual (defScope st) s.heap.objs.size f cdv)) → sp vs H Q E →
      ∃ t, PSs (cxOf (CX1 P w) P w K mg base N qual (defScope st) f cdv A outer s H E) (defBody st) t ∧ t { nx := fun _ H' => Q .non H', rt := Q } (start N vs) H) : FnOk P w K mg base (CX1 P w) (k + 1) f fd ps sp := by
  obtain ⟨oc, od, kV, doc, pm, an, cdv, ct, osl, rfl, lk, hcd⟩ := F.ex
  exact fn_of lk hcd S len fun A outer s H vs Q E hr hsp => hbody cdv A outer s H vs Q E hr hsp
end
theorem passF {X : Cx} {P : Program} {w : World} : Passes (CX1 P w) X E0 := fun _ _ _ _ _ _ _ h => by
  obtain ⟨_, _, _, _, _, _, _, _, _, _, _, _, _, _, _, _, _, _, _, _, _, _, _, q⟩ := h
  exact q.elim
noncomputable def TakesAt (X : Cx) (EX : L2.St → XK) : Prop := ∀ (pins : List (Addr × Obj)) (σ : L2.St) (H : Hp) (s : Shared) (x C : Addr) (od : Option Addr), Inv X pins σ H s → Fly X pins H s.heap x C od → exHas H od → EX σ (.ref x) od (upd H x (exO x C od false)) → X.xe (.ref x) s
theorem Takes.at {X : Cx} {E : XK} (t : Takes X E) : TakesAt X fun _ => E := t
theorem TakesAt.pass {X : Cx} {EX : L2.St → XK} {pins : List (Addr × Obj)} {σ : L2.St} {H : Hp} {s s' : Shared} {e : Value} (t : TakesAt X EX) (I : Inv X pins σ H s) (c : CX1 X.prog X.w X.stack H s (EX σ) e s') : X.xe e s' := by
  obtain ⟨x, C, od, H', vs, sl, T, oT, ts, rfl, ex, has, hx, h1, hT, hd, h3, hn, hz, ho, hb, un, ok, q⟩ := c
  have J := I.call' (ch := []) ho un ok hb fun b hb => absurd hb (by simp)
  refine t pins σ H' s' x C od J (.inr ⟨ex, vs, sl, T, oT, ts, hx, h1, hT, hd, h3, I.fpOk hz hn⟩) has ?_
  rw [upd_self ex]
  exact q
noncomputable def tCallX (sp : Sp) (dvs : List V) (EX : L2.St → XK) (t : TA) : TE := fun σ H Q => t σ H fun vs H1 => sp (vs ++ dvs) H1 Q (EX σ)
noncomputable def tMakeX (C : Addr) (sp : Sp) (dvs : List V) (EX : L2.St → XK) (t : TA) : TE := fun σ H Q => t σ H fun vs H1 => ∀ x dx, H1 x = none → H1 dx = none → dx ≠ x →
  sp (.ref x :: (vs ++ dvs)) (upd (upd H1 dx (.own x)) x (.ins C dx [])) (fun v H2 => v = .non ∧ Q (.ref x) H2) (EX σ)
section
variable {X : Cx} {k : Nat} {f C : Addr} {fd : FuncData} {ps : List Str} {sp : Sp} {dvs : List V} {ds : List Value} {EX : L2.St → XK} {x m : Str} {p pos apos : Pos} {e o : Expr} {es : List Expr} {ta : TE} {t : TA}
theorem run_fnX {pins : List (Addr × Obj)} {σ : L2.St} {H : Hp} {s : Shared} {Q : VK} {us : List Value} {vs : List V} (F : FnOk X.prog X.w X.K X.mg X.base (CX1 X.prog X.w) k f fd ps sp) (hr : Room k X.A) (hb : Binds X.K fd ps ds) (hd : Vals dvs ds) (hx : TakesAt X EX)
    (I : Inv X pins σ H s) (r : Vals vs us) (h : sp (vs ++ dvs) H Q (EX σ)) : wpAny (model X.prog X.w) X.A (call (.ref f) us) (EP X pins σ Q) X.xe s := by
  have r2 : Vals (vs ++ dvs) (us ++ ds) := r.append hd
  have hl : (us ++ ds).length = ps.length := by rw [← r2.length]; exact F.len _ _ _ _ h
  refine wpAny_call (codeAny_mono (F.run X.A X.stack s H ⟨us, []⟩ (us ++ ds) (vs ++ dvs) Q (EX σ) hr I.env0 (hb s us I.kIn hl) r2 h) fun r s' hq => ?_)
  cases r with
  | error e => exact hx.pass I hq
  | ok fl =>
    cases fl with
    | ret u => exact I.after hq
    | next => exact False.elim hq
    | brk => exact False.elim hq
    | cont => exact False.elim hq
theorem pe_callX (F : FnOk X.prog X.w X.K X.mg X.base (CX1 X.prog X.w) k f fd ps sp) (hr : Room k X.A) (hg : Gl X x) (hm : X.mg x = some (.ref f)) (hk : PySem.W.keepIn X.K (.ref f) = true) (hb : Binds X.K fd ps ds) (hd : Vals dvs ds) (hx : TakesAt X EX)
    (ha : PA X (e :: es) t) (hdb : (x == ("__debug__" : Str)) = false := by decide) (he : starEach (e :: es) X.env = (false, eval e X.env) :: starEach es X.env := by rfl) (hpl : (backTo pos (starEach es X.env)).any (·.1) = false := by rfl) :
    PE X (.Call (.Name x p) (e :: es) [] pos) (tCallX sp dvs EX t) := by
  intro pins s σ H Q I h
  refine wpAny_Call_Name_kw (ld_glob I hg hm ?_ hdb)
  refine PySem.W.callWith_K (h₀ := X.base) I.ok.mod.kin hk (thn (ha pos pins s σ H _ I h) fun us s1 ⟨vs, H1, I1, r, q⟩ => ⟨I1.kIn, ?_⟩) he hpl
  exact run_fnX F hr hb hd hx I1 r q
theorem run_makeX {pins : List (Addr × Obj)} {σ : L2.St} {H : Hp} {s : Shared} {Q : VK} {us : List Value} {vs : List V} (M : Mk X.K C f) (F : FnOk X.prog X.w X.K X.mg X.base (CX1 X.prog X.w) k f fd ps sp) (hr : Room (k + 1) X.A) (hb : Binds X.K fd ps ds) (hd : Vals dvs ds)
    (hx : TakesAt X EX) (I : Inv X pins σ H s) (r : Vals vs us)
    (h : ∀ x dx, H x = none → H dx = none → dx ≠ x → sp (.ref x :: (vs ++ dvs)) (upd (upd H dx (.own x)) x (.ins C dx [])) (fun v H2 => v = .non ∧ Q (.ref x) H2) (EX σ)) :
    wpAny (model X.prog X.w) X.A (call (.ref C) us) (EP X pins σ Q) X.xe s := by
  have hq := h (s.heap.objs.size + 1) s.heap.objs.size (I.hok.fresh (Nat.le_succ _)) (I.hok.fresh (Nat.le_refl _)) (Nat.ne_of_lt (Nat.lt_succ_self _))
  have I2 := Inv.made (C := C) I
  have r2 : Vals (V.ref (s.heap.objs.size + 1) :: (vs ++ dvs)) (Value.ref (s.heap.objs.size + 1) :: (us ++ ds)) := .cons rfl (r.append hd)
  have hl : (Value.ref (s.heap.objs.size + 1) :: us ++ ds).length = ps.length := by
    have e := r2.length
    rw [F.len _ _ _ _ hq] at e
    exact e.symm
  refine wpAny_call (make_map (f := f) I.kIn M.makes M.init (beq_iff_eq.mp M.fn) (codeAny_mono (F.run _ X.stack _ _ ⟨Value.ref (s.heap.objs.size + 1) :: us, []⟩ (Value.ref (s.heap.objs.size + 1) :: (us ++ ds)) _ _ (EX σ) (hr.make C us [])
    (I2.env0.make C us []) (hb _ (Value.ref (s.heap.objs.size + 1) :: us) I2.kIn hl) r2 hq) fun r s' hq' => ?_))
  cases r with
  | error e => exact hx.pass I2 hq'
  | ok fl =>
    cases fl with
    | ret u =>
      obtain ⟨v, H', I3, rv, ev, q3⟩ := I2.after hq'
      subst ev
      exact ⟨rv, ⟨V.ref (s.heap.objs.size + 1), H', I3, rfl, q3⟩⟩
    | next => exact False.elim hq'
    | brk => exact False.elim hq'
    | cont => exact False.elim hq'
theorem pe_makeX (M : Mk X.K C f) (F : FnOk X.prog X.w X.K X.mg X.base (CX1 X.prog X.w) k f fd ps sp) (hr : Room (k + 1) X.A) (hg : Gl X x) (hm : X.mg x = some (.ref C)) (hb : Binds X.K fd ps ds) (hd : Vals dvs ds) (hx : TakesAt X EX)
    (ha : PA X (e :: es) t) (hdb : (x == ("__debug__" : Str)) = false := by decide) (he : starEach (e :: es) X.env = (false, eval e X.env) :: starEach es X.env := by rfl) (hpl : (backTo pos (starEach es X.env)).any (·.1) = false := by rfl) :
    PE X (.Call (.Name x p) (e :: es) [] pos) (tMakeX C sp dvs EX t) := by
  intro pins s σ H Q I h
  refine wpAny_Call_Name_kw (ld_glob I hg hm ?_ hdb)
  refine PySem.W.callWith_K (h₀ := X.base) I.ok.mod.kin M.kp (thn (ha pos pins s σ H _ I h) fun us s1 ⟨vs, H1, I1, r, q⟩ => ⟨I1.kIn, ?_⟩) he hpl
  exact run_makeX M F hr hb hd hx I1 r q
end
end Add

namespace Add
open PySem PySem.Spec PyProof.Rows L2
/-! ### try: the body's context, and a suite's -/
noncomputable abbrev _root_.L2.Cx.tr (X : Cx) (pins : List (Addr × Obj)) (W : Value → Shared → Prop) : Cx := { X with pn := X.pn ++ pins, xe := W }
noncomputable abbrev _root_.L2.Cx.sup (X : Cx) (e : Value) (W : Value → Shared → Prop) : Cx := { X with A := X.A.mark (some e), calm := false, xe := W }
section
variable {X : Cx} {pins pins' : List (Addr × Obj)} {σ : L2.St} {H : Hp} {s : Shared} {W : Value → Shared → Prop} {e : Value}
theorem ok_tr (ok : X.Ok) : (X.tr pins W).Ok := ⟨ok.mod, ok.kind, ok.glob, ok.blt, ok.above, ok.inj, ok.has, ok.cab, ok.hd, ok.frames, ok.stk, ok.exf, ok.bs, ok.bsz, ok.noex, ok.exfs, ok.funs, ok.frf⟩
theorem ok_untr (ok : (X.tr pins W).Ok) : X.Ok := ⟨ok.mod, ok.kind, ok.glob, ok.blt, ok.above, ok.inj, ok.has, ok.cab, ok.hd, ok.frames, ok.stk, ok.exf, ok.bs, ok.bsz, ok.noex, ok.exfs, ok.funs, ok.frf⟩
theorem inv_tr (I : Inv X pins σ H s) : Inv (X.tr pins W) [] σ H s := ⟨ok_tr I.ok, I.os, I.bare, I.base, I.loc, I.cell, I.free, I.freeC, fun p hp => I.pin p (by rw [List.append_nil] at hp; exact hp), I.hok, I.len⟩
theorem inv_untr (I : Inv (X.tr pins W) pins' σ H s) : Inv X pins σ H s := ⟨ok_untr I.ok, I.os, I.bare, I.base, I.loc, I.cell, I.free, I.freeC, fun p hp => I.pin p (List.mem_append_left _ hp), I.hok, I.len⟩
theorem fp_untr {b : Addr} (f : FpOk (X.tr pins W) pins' H b) : FpOk X pins H b := ⟨f.1, f.2.1, f.2.2.1, f.2.2.2.1, f.2.2.2.2.1, fun p hp => f.2.2.2.2.2 p (List.mem_append_left _ hp)⟩
theorem fly_untr {h : Heap} {x C : Addr} {od : Option Addr} (f : Fly (X.tr pins W) pins' H h x C od) : Fly X pins H h x C od := by
  rcases f with z | ⟨e, vs, sl, T, oT, ts, h1, h2, h3, h4, h5, h6⟩
  · exact .inl z
  · exact .inr ⟨e, vs, sl, T, oT, ts, h1, h2, h3, h4, h5, fp_untr h6⟩
theorem sp_untr {D : Ends} {f : Flow} {s' : Shared} (h : SP (X.tr pins W) [] D f s') : SP X pins D f s' := by
  cases f with
  | next => obtain ⟨σ', H', I, q⟩ := h; exact ⟨σ', H', inv_untr I, q⟩
  | brk => obtain ⟨σ', H', I, q⟩ := h; exact ⟨σ', H', inv_untr I, q⟩
  | cont => obtain ⟨σ', H', I, q⟩ := h; exact ⟨σ', H', inv_untr I, q⟩
  | ret u => obtain ⟨v, σ', H', I, r, q⟩ := h; exact ⟨v, σ', H', inv_untr I, r, q⟩
theorem ok_sup (ok : X.Ok) : (X.sup e W).Ok := ⟨ok.mod, ok.kind, ok.glob, ok.blt, ok.above, ok.inj, ok.has, ok.cab, (fun z => nomatch z), ok.frames, ok.stk, ok.exf, ok.bs, ok.bsz, ok.noex, ok.exfs, ok.funs, ok.frf⟩
theorem inv_sup (I : Inv X pins σ H s) : Inv (X.sup e W) pins σ H s := ⟨ok_sup I.ok, I.os, I.bare, I.base, I.loc, I.cell, I.free, I.freeC, I.pin, I.hok, I.len⟩
theorem inv_unsup (ok : X.Ok) (I : Inv (X.sup e W) pins σ H s) : Inv X pins σ H s := ⟨ok, I.os, I.bare, I.base, I.loc, I.cell, I.free, I.freeC, I.pin, I.hok, I.len⟩
theorem sp_unsup {D : Ends} {f : Flow} {s' : Shared} (ok : X.Ok) (h : SP (X.sup e W) pins D f s') : SP X pins D f s' := by
  cases f with
  | next => obtain ⟨σ', H', I, q⟩ := h; exact ⟨σ', H', inv_unsup ok I, q⟩
  | brk => obtain ⟨σ', H', I, q⟩ := h; exact ⟨σ', H', inv_unsup ok I, q⟩
  | cont => obtain ⟨σ', H', I, q⟩ := h; exact ⟨σ', H', inv_unsup ok I, q⟩
  | ret u => obtain ⟨v, σ', H', I, r, q⟩ := h; exact ⟨v, σ', H', inv_unsup ok I, r, q⟩
end
/-- the clauses behind a caught error: the ends, the names, the error and its class -/
noncomputable abbrev TH := Ends → L2.St → Addr → Addr → Option Addr → Hp → Prop
noncomputable def PH (X : Cx) (hs : List ExceptHandler) (th : TH) : Prop := ∀ (pins : List (Addr × Obj)) (s : Shared) (σ : L2.St) (H : Hp) (D : Ends) (x C : Addr) (od : Option Addr), Inv X pins σ H s → FlyT X pins H s.heap x C od → exHas H od → th D σ x C od H →
  wpAny (model X.prog X.w) X.A (handleBy (.ref x) X.env hs) (SP X pins D) X.xe s
/-- what is asked of an error in the body: the clauses' reading, at the class that H bears -/
noncomputable def EXof (th : TH) (D : Ends) : L2.St → XK := fun σ v od H => ∃ x C, v = .ref x ∧ H x = some (exO x C od false) ∧ th D σ x C od H
noncomputable def tTry (tb : (L2.St → XK) → TS) (th : TH) : TS := fun D σ H => tb (EXof th D) D σ H
theorem ps_try {X : Cx} {body : List Stmt} {h₀ : ExceptHandler} {hs : List ExceptHandler} {pos : Pos} {tb : (L2.St → XK) → TS} {th : TH} (hst : X.stack = X.env :: X.outer ∧ X.env.frame = some X.env.locals)
    (hb : ∀ pins W EX, TakesAt (X.tr pins W) EX → PassesOwn (model X.prog X.w) X.A X.env W → PSs (X.tr pins W) body (tb EX)) (hh : PH X (h₀ :: hs) th) : PS X (.Try body (h₀ :: hs) [] [] pos) (tTry tb th) := by
  intro pins s σ H D I h
  refine wpAny_Try_except ?_
  have ok := I.ok
  let W : Value → Shared → Prop := fun e s₁ => wpAny (model X.prog X.w) X.A (noteFrame e X.env) (fun _ s₂ => wpAny (model X.prog X.w) X.A (setFlight e none) (fun _ s₃ => wpAny (model X.prog X.w) X.A (handleBy e X.env (h₀ :: hs)) (SP X pins D) X.xe s₃) X.xe s₂) X.xe s₁
  have T : TakesAt (X.tr pins W) (EXof th D) := by
    intro pins' σ' H' s' x C od I' fl has q
    obtain ⟨x', C', ex', eq', q⟩ := q
    cases ex'
    have J := inv_untr I'
    have fl' := fly_untr fl
    have e1 : ∃ fr, H' x = some (exO x C od fr) := by
      rcases fl' with z | z
      · exact ⟨_, z⟩
      · exact ⟨_, z.1⟩
    obtain ⟨fr, e1⟩ := e1
    refine note_land hst J fl' fun s2 J2 ft => ?_
    obtain ⟨_, _, z, _⟩ := exO_at J2.hok eq'
    have ft' := ft
    obtain ⟨_, _, _, _, _, _, z', _⟩ := ft'
    rw [z'] at z
    cases z
    exact hh pins s2 σ' _ D x C od J2 ft (has_upd J.hok e1 has) q
  refine wpAny_mono (hb pins W _ T PassesOwn.looking [] s σ H D (inv_tr I) h) (fun f s₁ q => ?_) fun e s₁ q => q
  have q := sp_untr q
  cases f with
  | next => exact wpAny_execs_nil q
  | _ => exact q
/-- no clause is left: not reached -/
theorem ph_nil {X : Cx} : PH X [] fun _ _ _ _ _ _ => False := fun _ _ _ _ _ _ _ _ _ _ _ h => h.elim
section
variable {X : Cx} {pins : List (Addr × Obj)} {σ : L2.St} {H : Hp} {s : Shared} {E : Value → Shared → Prop}
/-- the landing once more -/
theorem land_again {M : Model} {A : Around} {x C : Addr} {od : Option Addr} {Q : Unit → Shared → Prop} (I : Inv X pins σ H s) (f : FlyT X pins H s.heap x C od) (h : ∀ s', Inv X pins σ H s' → FlyT X pins H s'.heap x C od → Q () s') : wpAny M A (setFlight (.ref x) none) Q E s := by
  obtain ⟨e, vs, sl, T, oT, ts, hx, h1, hT, hd, h3, fp⟩ := f
  have hs3 := (Array.getElem?_eq_some_iff.mp h3).1
  unfold setFlight
  refine wpAny_bind (wpAny_field hx rfl h1 ?_)
  rw [if_pos (show (Value.ref T != Value.none) = true from by simp)]
  refine wpAny_setField hT hd hs3 ?_
  have other : ∀ b, b ≠ T → (s.heap.update T (Obj.mapFields (·.setIfInBounds 3 ((none : Option Addr).elim Value.none fun f => rawInt f)))).get? b = s.heap.get? b := fun b hb => Heap.get?_update_other _ _ (Ne.symm hb)
  have hTT := Heap.get?_update_self (Obj.mapFields (·.setIfInBounds 3 ((none : Option Addr).elim Value.none fun f => rawInt f))) hT (Obj.isFreed_of_fields (Obj.data_mapFields hd _))
  have nT : ∀ b u, H b = some u → b ≠ T := fun b u q z => by rw [z, fp.1] at q; cases q
  have one : ∀ b, b ∉ [T] → b ≠ T := fun b hb z => hb (by rw [z]; simp)
  refine h _ (I.step (g' := s.gens) (d' := s.drawn) (t' := s.toks) (ch := [T]) (fun b hb => ?_) (fun b o _ _ hc q _ => (other b (one b hc)).trans q) (fun b o _ _ hc q _ => ⟨o.slots, (other b (one b hc)).trans q⟩) (fun b o _ _ n => n) (fun b o hc q => ⟨o, (other b (one b hc)).trans q⟩)
    (fun b xs q => q) (fun b o u q => q) (fun b ps q => ⟨#[], by rw [q]; simp⟩) (fun m hm => ?_) (fun b u q => ?_) I.bare) ⟨e, vs, sl, T, _, _, (other x (nT x _ e)).trans hx, h1, hTT, Obj.data_mapFields hd _, by simp [hs3], fp⟩
  · have z : b = T := by simpa using hb
    subst z
    exact ⟨fp.2.2.2.1, fp.2.1, fp.2.2.2.2.1, fp.2.2.2.2.2⟩
  · obtain ⟨o, es, ep, ho, r⟩ := hm
    exact ⟨o, es, ep, (other _ (Ne.symm fp.2.1)).trans ho, r⟩
  · exact (I.hok b u q).stay (fun c v hc r => (other c (by
      rcases hc with rfl | hc
      · exact nT c u q
      · exact nT c _ hc)).trans r) (fun _ r => r) fun _ _ r => r
/-- a suite's name goes -/
theorem goes_ok {M : Model} {A : Around} {i : Nat} {n : Str} {pos : Pos} {Q : Unit → Shared → Prop} (I : Inv X pins σ H s) (hN : X.N.Nodup) (hi : X.N[i]? = some n) (hk : X.env.scope.names.lookup n = some .local)
    (h : ∀ s', Inv X pins (σ.set i none) H s' → Q () s') : wpAny M A (do bindName X.env n .none; unbindBehindTheSuite X.env n pos) Q E s := by
  obtain ⟨m, hn, hl⟩ := id I.loc
  have hcls : (X.env.scope.kind == .class || (X.env.scope.kind == .module && X.env.locals != X.env.globals)) = false := by rw [I.ok.kind]; rfl
  have cne := I.cne
  refine wpAny_nameGoes_keeps hk hn hcls fun h' v hn' hs => ?_
  obtain ⟨oL, _, _, hoL, _⟩ := id hn
  have tracked : HOk X.prog X.w H h' := fun b ob e => by
    refine (I.hok b ob e).stay (fun c w' hc q => (hs.2 c ?_).trans q) (fun _ q => q) fun _ _ q => q
    rintro rfl
    rcases hc with rfl | hc
    · rw [I.free] at e; cases e
    · rw [I.free] at hc; cases hc
  refine h _ ⟨I.ok, I.os, I.bare, ⟨fun b o e n hb hx => ?_, fun b o e n hb hx => ?_, I.base.free, fun b o e hx => ?_, I.base.tups, I.base.frzs, I.base.tbls⟩, ⟨_, hn', fun j y v' e1 e2 e3 => ?_⟩, fun y c e => ?_, I.free, I.freeC, fun p hp => ?_, tracked, by simpa using I.len⟩
  · exact (hs.2 b (Nat.ne_of_lt (Nat.lt_of_lt_of_le (Heap.lt_size e) I.ok.above))).trans (I.base.keep b o e n hb hx)
  · obtain ⟨sl, e1⟩ := I.base.slot b o e n hb hx
    exact ⟨sl, (hs.2 b (Nat.ne_of_lt (Nat.lt_of_lt_of_le (Heap.lt_size e) I.ok.above))).trans e1⟩
  · obtain ⟨o', e1⟩ := I.base.there b o e hx
    exact ⟨o', (hs.2 b (Nat.ne_of_lt (Nat.lt_of_lt_of_le (Heap.lt_size e) I.ok.above))).trans e1⟩
  · have hj : j ≠ i := fun z => by
      subst z
      rw [List.getElem?_set_self (by rw [I.len]; exact (List.getElem?_eq_some_iff.mp hi).1)] at e2
      cases e2
    rw [List.getElem?_set_ne (Ne.symm hj)] at e2
    obtain ⟨u', r', q⟩ := hl j y v' e1 e2 e3
    refine ⟨u', r', ?_⟩
    rcases q with ⟨k, e⟩ | ⟨k, c, e, z⟩
    · refine .inl ⟨k, ?_⟩
      have : y ≠ n := fun e => hj (nodup_ix hN e1 (e ▸ hi))
      simp [this, e]
    · exact .inr ⟨k, c, e, z.sameBut hs (cne y c e)⟩
  · obtain ⟨w', z⟩ := I.cell y c e
    exact ⟨w', z.sameBut hs (cne y c e)⟩
  · obtain ⟨e, n, ne, nf, d⟩ := I.pin p hp
    exact ⟨(hs.2 p.1 ne).trans e, n, ne, nf, d⟩
end
/-- the test: a name that is read for a class -/
noncomputable def PC (X : Cx) (t : Expr) (c : Value) : Prop := ∀ (e : Value) (E : Value → Shared → Prop) (pins : List (Addr × Obj)) (s : Shared) (σ : L2.St) (H : Hp) (Q : Value → Shared → Prop), Inv X pins σ H s → Q c s → wpAny (model X.prog X.w) (X.A.mark (some e)) (eval t X.env) Q E s
theorem pc_glob {X : Cx} {x : Str} {u : Value} {pos : Pos} (hg : Gl X x) (hm : X.mg x = some u) (hd : (x == ("__debug__" : Str)) = false := by decide) : PC X (.Name x pos) u := fun e E pins s σ H Q I h =>
  ld_glob (X := X.sup e E) (inv_sup I) hg hm h hd
/-- except c: suite -/
noncomputable def hCl (K : PySem.W.Frag) (c : Value) (suite rest : TH) : TH := fun D σ x C od H => match PySem.W.exmOne K (.ref C) c with
  | some true => suite D σ x C od H
  | some false => rest D σ x C od H
  | none => False
/-- as n: the name is bound ahead of the suite, and goes behind it -/
noncomputable def hAs (i : Nat) (ts : Addr → TS) : TH := fun D σ x _ _ H => ts x { nx := fun σ' H' => D.nx (σ'.set i none) H', rt := D.rt, bk := fun σ' H' => D.bk (σ'.set i none) H', ct := fun σ' H' => D.ct (σ'.set i none) H' } (σ.set i (some (.ref x))) H
section
variable {X : Cx} {t : Expr} {b₀ : Stmt} {body : List Stmt} {pos : Pos} {rest : List ExceptHandler} {c : Value} {ts : Addr → TS} {tr : TH}
theorem fly_ty {pins : List (Addr × Obj)} {H : Hp} {h : Heap} {x C : Addr} {od : Option Addr} (fl : FlyT X pins H h x C od) : PySem.W.Looks (model X.prog X.w) h (typeOf (.ref x)) (.ref C) := by
  obtain ⟨e, vs, sl, T, oT, tsl, hx, _⟩ := fl
  exact (PySem.W.Looks.ld hx).andThen .now
theorem ph_as {i : Nat} {n : Str} (hN : X.N.Nodup) (hi : X.N[i]? = some n) (hk : X.env.scope.names.lookup n = some .local) (hc : PC X t c) (hb : ∀ x, PSs (X.sup (.ref x) fun _ _ => False) (b₀ :: body) (ts x)) (hr : PH X rest tr) :
    PH X (.ExceptHandler (some t) (some n) (b₀ :: body) pos :: rest) (hCl X.K c (hAs i ts) tr) := by
  intro pins s σ H D x C od I fl has h
  refine wpAny_handleBy_cons (codeAny_handlers_test (hc (.ref x) _ pins s σ H _ I ?_)) (by intro q; cases q)
  unfold hCl at h
  split at h
  · rename_i he
    refine (PySem.W.exm_one I.kIn (fly_ty fl) he).here ?_
    refine codeAny_handlers_suite_as (land_again I fl fun s2 I2 f2 => ?_)
    refine store_ok I2 hN hi (.inl hk) (v := .ref x) rfl (fun s3 I3 => ?_) (.inr hk)
    refine wpAny_mono (hb x pins s3 _ H _ (inv_sup I3) h) (fun f s4 q => ?_) fun _ _ z => z.elim
    have q := sp_unsup I.ok q
    cases f with
    | next => obtain ⟨σ', H', J, q⟩ := q; exact goes_ok J hN hi hk fun s5 J5 => ⟨_, H', J5, q⟩
    | brk => obtain ⟨σ', H', J, q⟩ := q; exact goes_ok J hN hi hk fun s5 J5 => ⟨_, H', J5, q⟩
    | cont => obtain ⟨σ', H', J, q⟩ := q; exact goes_ok J hN hi hk fun s5 J5 => ⟨_, H', J5, q⟩
    | ret u => obtain ⟨v, σ', H', J, r, q⟩ := q; exact goes_ok J hN hi hk fun s5 J5 => ⟨v, _, H', J5, r, q⟩
  · rename_i he
    refine (PySem.W.exm_one I.kIn (fly_ty fl) he).here ?_
    exact hr pins s σ H D x C od I fl has h
  · exact h.elim
end
end Add

namespace Add
open PySem PySem.Spec PyProof.Rows L2
/-! ### raise e -/
structure XRaise (K : PySem.W.Frag) (C : Addr) : Prop where
  sub : PySem.W.mroIn K C (.type "BaseException") = some true
  ty : PySem.W.typeIn K (.ref C) = some (.type "type")
noncomputable def xRaise (K : PySem.W.Frag) (C : Addr) : Bool := (PySem.W.mroIn K C (.type "BaseException") == some true) && (PySem.W.typeIn K (.ref C) == some (.type "type"))
theorem xr_of {K : PySem.W.Frag} {C : Addr} (h : xRaise K C = true) : XRaise K C := by
  unfold xRaise at h
  simp only [Bool.and_eq_true, beq_iff_eq] at h
  exact ⟨h.1, h.2⟩
theorem raise_x {prog : Program} {w : World} {A : Around} {E : Value → Shared → Prop} {s : Shared} {env : Env} {K : PySem.W.Frag} {m : Sem Value} {Q : Flow → Shared → Prop} (hh : A.handled = none)
    (h : wpAny (model prog w) A m (fun v s₁ => ∃ x C od vs sl, v = .ref x ∧ K.In s₁.heap ∧ XRaise K C ∧ s₁.heap.get? x = some (exRec C od vs sl) ∧ vs[1]? = some .none ∧ E (.ref x) s₁) E s) :
    wpAny (model prog w) A (raiseStmt env (some m) none) Q E s := by
  unfold raiseStmt
  refine wpAny_bind (wpAny_mono h (fun v s₁ h₁ => ?_) fun _ _ x => x)
  obtain ⟨x, C, od, vs, sl, rfl, KX, c, hx, h1, hE⟩ := h₁
  have LT : PySem.W.Looks (model prog w) s₁.heap (typeOf (.ref x)) (.ref C) := (PySem.W.Looks.ld hx).andThen .now
  have LB : PySem.W.Looks (model prog w) s₁.heap (isInstance (.ref x) (.type "BaseException")) true := LT.andThen (PySem.W.looks_mroIn KX c.sub)
  have LN : PySem.W.Looks (model prog w) s₁.heap (isType (.ref x)) false := (PySem.W.Looks.ld hx).andThen .now
  have LC : PySem.W.Looks (model prog w) s₁.heap (typeOf (.ref C)) (.type "type") := PySem.W.looks_typeIn KX c.ty
  refine wpAny_bind (wpAny_pure ?_)
  refine wpAny_bind (wpAny_holding ?_)
  unfold excFromValue isExcClass
  refine wpAny_bind (wpAny_bind (LN.here ?_))
  rw [if_neg (by decide)]
  refine wpAny_pure ?_
  rw [if_neg (by decide)]
  refine wpAny_bind (LB.here ?_)
  rw [if_pos rfl]
  refine wpAny_pure ?_
  refine wpAny_bind (LN.here ?_)
  rw [if_neg (by decide)]
  refine wpAny_bind ?_
  unfold raisedInstance
  refine wpAny_bind (LT.here (wpAny_bind (LC.here ?_)))
  rw [if_pos (beq_self_eq_true _)]
  refine wpAny_pure ?_
  refine wpAny_bind ?_
  unfold setFlight
  refine wpAny_bind (wpAny_field hx rfl h1 ?_)
  rw [if_neg (by decide)]
  exact wpAny_pure (wpAny_raiseNew_none hh hE)
/-- raise e, with e a fresh error -/
noncomputable def tRaise (K : PySem.W.Frag) (te : TE) (EX : L2.St → XK) : TS := fun _ σ H => te σ H fun v H1 => ∃ x C od, v = .ref x ∧ H1 x = some (exO x C od true) ∧ exHas H1 od ∧ XRaise K C ∧ EX σ (.ref x) od (upd H1 x (exO x C od false))
theorem ps_raise {X : Cx} {e : Expr} {te : TE} {pos : Pos} {EX : L2.St → XK} (hc : X.calm = true) (hx : TakesAt X EX) (he : PE X e te) : PS X (.Raise (some e) none pos) (tRaise X.K te EX) := by
  intro pins s σ H D I h
  rw [arm_exec_Raise]
  refine wpAny_bind (wpAny_standAt ?_)
  show wpAny _ _ (raiseStmt X.env (some (do let v ← eval e X.env; standAt pos; pure v)) none) _ _ _
  refine raise_x (K := X.K) (I.ok.hd hc) (wpAny_bind (thn (he pins s σ H _ I h) fun v s1 ⟨u, H1, I1, r, x, C, od, eu, ex, has, c, q⟩ => wpAny_bind (wpAny_standAt (wpAny_pure ?_))))
  subst eu
  obtain rfl : v = Value.ref x := r
  obtain ⟨vs, sl, e1, z6, ff⟩ := exO_at I1.hok ex
  obtain ⟨rfl, t, rfl⟩ := ff rfl
  exact ⟨x, C, od, _, _, rfl, I1.kIn, c, e1, rfl, hx pins σ H1 s1 x C od I1 (.inl ex) has q⟩
end Add

namespace Add
open PySem PySem.Spec PyProof.Rows L2
section
variable {X : Cx}
theorem pe_never {e : Expr} : PE X e fun _ _ _ => False := fun _ _ _ _ _ _ h => h.elim
end
end Add

namespace Add
open PySem PySem.Spec PyProof.Rows L2
/-! ### f-strings with plain fields -/
noncomputable abbrev TJ := Str → TE
section
variable {X : Cx} {e : Expr} {es : List Expr} {te : TE} {tj : TJ} {pos : Pos}
end
end Add

namespace Add
open PySem PySem.Spec PyProof.Rows L2
open Builtin Builtin.Str
/-! ### methods of texts -/
section
variable {X : Cx}
theorem vals_strs : ∀ (l : List (Str × Tok)), Vals (l.map fun p => V.str p.1) (strValues l)
  | [] => .nil
  | p :: l => .cons ⟨p.2, rfl⟩ (vals_strs l)
theorem made_texts {pins : List (Addr × Obj)} {s : Shared} {σ : L2.St} {H : Hp} {Q : VK} {ys : List Str} (I : Inv X pins σ H s) (k : Nat) (l : List (Str × Tok)) (e : l.map (·.1) = ys) (z : ys.length ≤ sizeLine) (q : ∀ p, H p = none → Q (.ref p) (upd H p (.lst (ys.map V.str)))) :
    EP X pins σ Q (.ref s.heap.objs.size) { s with heap := s.heap.push { cls := .type "list", data := .seq (strValues l).toArray }, toks := k } := by
  have hf : H s.heap.objs.size = none := I.hok.fresh (Nat.le_refl _)
  refine ⟨.ref s.heap.objs.size, upd H s.heap.objs.size (.lst (ys.map V.str)), I.laid (t' := k) (fun b u e => Heap.get?_push_of_some _ e) (Nat.le_refl _) ?_, rfl, q _ hf⟩
  refine ⟨by rw [List.length_map]; exact z, strValues l, 0, ?_, Heap.get?_push_size _ rfl⟩
  rw [← e, List.map_map]
  exact vals_strs l
/-- x.split(y), with y a text of one sign or more -/
theorem mt_split : MtR X "str.split" (fun x vs H Q => ∃ a y : Str, x = .str a ∧ vs = [.str y] ∧ (y.length == 0) = false ∧ a.length ≤ sizeLine ∧ (Txt.split a y).length ≤ sizeLine ∧ (partsBetween a (occurrences a y 0 a.length (a.length + 1)) y.length).length ≤ sizeLine ∧
    ∀ p, H p = none → Q (.ref p) (upd H p (.lst ((Txt.split a y).map V.str)))) := by
  intro pins s σ H x vs v us Q I rx rv h
  obtain ⟨a, y, rfl, rfl, hy, hx, hz, hn, q⟩ := h
  obtain ⟨t, rfl⟩ := rx
  obtain ⟨u', rfl, u, rfl⟩ := rv.one
  cases h1 : (decide (a.length < y.length) || decide (strKind a < strKind y))
  · cases hf : (occurrences a y 0 a.length (a.length + 1)).isEmpty
    · refine call_meets F.slot_str_split (typeIs_str _ _ _) F.entry_str_split (F.args_str_split_2 _ _) (meets_str_split_sep a y t u h1 hy hf hx hn) ?_
      show wants _ _ _ { s with toks := _, heap := s.heap.push { cls := .type "list", data := .seq (strsFrom s.toks (partsBetween a (occurrences a y 0 a.length (a.length + 1)) y.length)).toArray } }
      rw [strsFrom_eq]
      exact made_texts I _ _ ((numbered_texts _ _).trans ((if_neg (ne_true_of_eq_false h1)).trans (if_neg (ne_true_of_eq_false hf))).symm) hz q
    · exact call_meets F.slot_str_split (typeIs_str _ _ _) F.entry_str_split (F.args_str_split_2 _ _) (meets_str_split_not_found a y t u h1 hy hf) (made_texts I s.toks [(a, t)] ((if_neg (ne_true_of_eq_false h1)).trans (if_pos hf)).symm hz q)
  · exact call_meets F.slot_str_split (typeIs_str _ _ _) F.entry_str_split (F.args_str_split_2 _ _) (meets_str_split_cannot_occur a y t u h1) (made_texts I s.toks [(a, t)] (if_pos h1).symm hz q)
end
end Add

namespace Add
open PySem PySem.Spec PyProof.Rows L2
/-! ### int of a text -/
theorem call_intT {X : Cx} : CallR X (.type "int") (fun xs H Q => ∃ (x : Str) (n : Int), xs = [.str x] ∧ PySem.intText? x = some n ∧ x.length ≤ 640 ∧ Q (.int n) H) := by
  intro pins s σ H xs us Q I r h
  obtain ⟨x, n, rfl, hn, hl, q⟩ := h
  obtain ⟨u, rfl, t, rfl⟩ := vals1 r
  exact PySem.W.KIN.call_text hn hl ⟨.int n, H, I.tok _, ⟨_, rfl⟩, q⟩
end Add

namespace Add
open PySem PySem.Spec PyProof.Rows L2
/-! ### plain classes of the program's own: what is asked of them, in one word each (closed by kernel_rfl) -/
section
variable {K : PySem.W.Frag} {C f : Addr} {m : Str}
noncomputable def clsB (K : PySem.W.Frag) (C : Addr) : Bool := PySem.W.plainGet K C Str.empty && PySem.W.hasDictIn K C && PySem.W.plainOver K C && (PySem.W.findIn K (.ref C) "__setattr__" == some (some (.builtin "object.__setattr__")))
theorem cls_of (h : clsB K C = true) : Cls K C := by
  unfold clsB at h
  simp only [Bool.and_eq_true, beq_iff_eq] at h
  obtain ⟨⟨⟨h1, h2⟩, h3⟩, h4⟩ := h
  exact ⟨h1, h2, h3, h4⟩
noncomputable def mkB (K : PySem.W.Frag) (C f : Addr) : Bool := PySem.W.makesIn K C && (PySem.W.findIn K (.ref C) "__init__" == some (some (.ref f))) && PySem.W.isFn K (.ref f) && PySem.W.keepIn K (.ref C)
theorem mk_of (h : mkB K C f = true) : Mk K C f := by
  unfold mkB at h
  simp only [Bool.and_eq_true, beq_iff_eq] at h
  obtain ⟨⟨⟨h1, h2⟩, h3⟩, h4⟩ := h
  exact ⟨h1, h2, h3, h4⟩
noncomputable def methB (K : PySem.W.Frag) (C : Addr) (m : Str) (f : Addr) : Bool := (PySem.W.findIn K (.ref C) m == some (some (.ref f))) && PySem.W.isFn K (.ref f) && PySem.W.keepIn K (.ref f)
theorem meth_of (h : methB K C m f = true) : Meth K C m f := by
  unfold methB at h
  simp only [Bool.and_eq_true, beq_iff_eq] at h
  obtain ⟨⟨h1, h2⟩, h3⟩ := h
  exact ⟨h1, h2, h3⟩
end
end Add

namespace Add
open PySem PySem.Spec PyProof.Rows L2
open Builtin Builtin.Str
/-! ### x.startswith(y), x.join(list of texts) -/
section
variable {X : Cx}
theorem mt_startswith : MtR X "str.startswith" (fun x vs H Q => ∃ a y : Str, x = .str a ∧ vs = [.str y] ∧ Q (.bl (Txt.startswith a y)) H) := by
  intro pins s σ H x vs v us Q I rx rv h
  obtain ⟨a, y, rfl, rfl, q⟩ := h
  obtain ⟨t, rfl⟩ := rx
  obtain ⟨u', rfl, u, rfl⟩ := rv.one
  exact SC.startswith ⟨.bl _, H, I, rfl, q⟩
theorem strs_vals : ∀ {ys : List Str} {us : List Value}, Vals (ys.map V.str) us → ∃ l : List (Str × Tok), strValues l = us ∧ l.map (·.1) = ys
  | [], us, r => by cases r; exact ⟨[], rfl, rfl⟩
  | y :: ys, us, r => by
    cases r with
    | cons h r =>
      obtain ⟨t, rfl⟩ := h
      obtain ⟨l, h1, h2⟩ := strs_vals r
      exact ⟨(y, t) :: l, by rw [← h1]; rfl, by rw [← h2]; rfl⟩
theorem mt_join : MtR X "str.join" (fun x vs H Q => ∃ (a : Str) (p : Addr) (ys : List Str), x = .str a ∧ vs = [.ref p] ∧ SqL X.K H p (ys.map V.str) ∧ JoinOk a ys = true ∧ Q (.str (Txt.join a ys)) H) := by
  intro pins s σ H x vs v us Q I rx rv h
  obtain ⟨a, p, ys, rfl, rfl, hq, hj, q⟩ := h
  obtain ⟨t, rfl⟩ := rx
  obtain ⟨u', rfl, hu⟩ := rv.one
  cases hu
  obtain ⟨its, r, pl, hz⟩ := I.list hq
  obtain ⟨l, rfl, h2⟩ := strs_vals r
  exact SC.join pl.isList h2 hj fun t' k => ⟨.str _, H, I.tok _, ⟨_, rfl⟩, q⟩
end
end Add
namespace Add
open PySem PySem.Spec PyProof.Rows L2
open Builtin Builtin.Str
/-! ### a text some times over: of the outcome its length alone is told -/
end Add

namespace Add
open PySem PySem.Spec PyProof.Rows L2
/-! ### comprehensions whose elements may make things; with a test -/
theorem same_add {H H' : Hp} {p : Addr} {o : HO} (s : Same H H') (n : H p = none) : Same H (upd H' p o) := fun b u e => by rw [upd_ne (ne_of_none e n)]; exact s _ _ e
theorem seqT_same {K : PySem.W.Frag} {H H' : Hp} {a : Addr} {xs : List V} (e : Same H H') (h : SqT K H a xs) : SqT K H' a xs := by
  rcases h with (h | h) | h
  · exact .inl (.inl (e _ _ h))
  · obtain ⟨o, h⟩ := h; exact .inl (.inr ⟨o, e _ _ h⟩)
  · exact .inr h
end Add

namespace Wri
open PySem PySem.Spec PyProof.Rows PySem.W PySem.W.KIN PySem.NumText
/-! ### texts cut at a sign; numbers as they are written -/
theorem cut_eq (c : Nat) : ∀ {a b r t : List Nat}, c ∉ a → c ∉ b → a ++ c :: r = b ++ c :: t → a = b ∧ r = t
  | [], [], _, _, _, _, e => ⟨rfl, (List.cons.inj e).2⟩
  | [], y :: b, _, _, _, hb, e => absurd (List.cons.inj e).1 fun z => hb (by rw [z]; exact List.mem_cons_self)
  | x :: a, [], _, _, ha, _, e => absurd (List.cons.inj e).1 fun z => ha (by rw [← z]; exact List.mem_cons_self)
  | x :: a, y :: b, _, _, ha, hb, e => by
    obtain ⟨h1, h2⟩ := List.cons.inj e
    obtain ⟨h3, h4⟩ := cut_eq c (fun z => ha (List.mem_cons_of_mem _ z)) (fun z => hb (List.mem_cons_of_mem _ z)) h2
    exact ⟨by rw [h1, h3], h4⟩
noncomputable def jl (c : Nat) : List (List Nat) → List Nat
  | [] => []
  | [x] => x
  | x :: y :: r => x ++ c :: jl c (y :: r)
theorem jl_inj (c : Nat) : ∀ {ps qs : List (List Nat)}, ps ≠ [] → qs ≠ [] → (∀ p ∈ ps, c ∉ p) → (∀ q ∈ qs, c ∉ q) → jl c ps = jl c qs → ps = qs
  | [], _, h, _, _, _, _ => absurd rfl h
  | _, [], _, h, _, _, _ => absurd rfl h
  | [x], [y], _, _, _, _, e => by rw [show x = y from e]
  | [x], y :: z :: r, _, _, hp, _, e => absurd (show c ∈ x by rw [show x = y ++ c :: jl c (z :: r) from e]; simp) (hp x List.mem_cons_self)
  | x :: z :: r, [y], _, _, _, hq, e => absurd (show c ∈ y by rw [show y = x ++ c :: jl c (z :: r) from e.symm]; simp) (hq y List.mem_cons_self)
  | x :: u :: r, y :: v :: t, _, _, hp, hq, e => by
    obtain ⟨h1, h2⟩ := cut_eq c (hp x List.mem_cons_self) (hq y List.mem_cons_self) (show x ++ c :: jl c (u :: r) = y ++ c :: jl c (v :: t) from e)
    rw [h1, jl_inj c (List.cons_ne_nil _ _) (List.cons_ne_nil _ _) (fun p h => hp p (List.mem_cons_of_mem _ h)) (fun p h => hq p (List.mem_cons_of_mem _ h)) h2]
theorem join_jl (c : Nat) : ∀ ps : List Str, (Str.join ⟨#[c]⟩ ps).cps.toList = jl c (ps.map fun p => p.cps.toList)
  | [] => rfl
  | [x] => rfl
  | x :: y :: r => by
    show (x ++ ⟨#[c]⟩ ++ Str.join ⟨#[c]⟩ (y :: r)).cps.toList = _
    rw [Str.cps_append, Str.cps_append, Array.toList_append, Array.toList_append, join_jl c (y :: r), List.append_assoc]
    rfl
theorem str_ext {x y : Str} (h : x.cps.toList = y.cps.toList) : x = y := by
  cases x; cases y; congr; exact Array.toList_inj.mp h
theorem split_ne (x : Str) (c : Nat) : Txt.split x ⟨#[c]⟩ ≠ [] := by
  unfold Txt.split
  split
  · exact List.cons_ne_nil _ _
  · split
    · exact List.cons_ne_nil _ _
    · intro h
      have := length_partsBetween x (Builtin.Str.occurrences x ⟨#[c]⟩ 0 x.length (x.length + 1)) (⟨#[c]⟩ : Str).length
      rw [h] at this
      cases this
/-- what was joined is cut into the same parts -/
theorem split_join (c : Nat) {ps : List Str} (h0 : ps ≠ []) (h : ∀ p ∈ ps, c ∉ p.cps.toList) : Txt.split (Str.join ⟨#[c]⟩ ps) ⟨#[c]⟩ = ps := by
  have e : (Txt.split (Str.join ⟨#[c]⟩ ps) ⟨#[c]⟩).map (fun p => p.cps.toList) = ps.map fun p => p.cps.toList := by
    refine jl_inj c (fun z => split_ne _ c (List.map_eq_nil_iff.mp z)) (fun z => h0 (List.map_eq_nil_iff.mp z)) (fun p hp => ?_) (fun p hp => ?_) ?_
    · obtain ⟨q, hq, rfl⟩ := List.mem_map.mp hp
      exact StrLaws.split_free _ c q hq
    · obtain ⟨q, hq, rfl⟩ := List.mem_map.mp hp
      exact h q hq
    · rw [← join_jl, ← join_jl, StrLaws.join_split]
  exact List.map_inj_right (fun _ _ z => str_ext z) |>.mp e
theorem between_len (x : Str) (c : Nat) : (Builtin.Str.partsBetween x (Builtin.Str.occurrences x ⟨#[c]⟩ 0 x.length (x.length + 1)) (⟨#[c]⟩ : Str).length).length ≤ x.length + 2 := by
  rw [length_partsBetween]
  have := StrLaws.occ_length_le x ⟨#[c]⟩ 0 x.length (x.length + 1)
  omega
/-! figures -/
noncomputable def fig (c : Nat) : Bool := decide (48 ≤ c) && decide (c ≤ 57)
noncomputable def nv (x : Str) : Int := ((digitsVal x.cps.toList : Nat) : Int)
/-- the number of a text of figures is written: no nought in front -/
noncomputable def plain (x : Str) : Bool := decide (x = Str.ofString "0") || !decide (x.cps.toList.head? = some 48)
theorem fig_all {x : Str} (h : x.cps.toList.all fig = true) : AllDigits x.cps.toList := fun c hc => by
  have := List.all_eq_true.mp h c hc
  unfold fig at this
  simp only [Bool.and_eq_true, decide_eq_true_eq] at this
  exact this
theorem int_of {x : Str} (h : x.cps.toList.all fig = true) (h1 : 1 ≤ x.cps.size) (h2 : x.cps.size ≤ 4300) : PySem.intText? x = some (nv x) := by
  refine intText_digits (fig_all h) (fun z => ?_) h2
  have : x.cps.toList.length = 0 := by rw [z]; rfl
  rw [Array.length_toList] at this
  omega
end Wri

namespace Add
open PySem PySem.Spec PyProof.Rows L2
/-! ### lists of tuples of flat items: what lies in them, and == of them -/
section
variable {X : Cx}
theorem rel_ref {a : Addr} {u : Value} (r : RelV (.ref a) u) : u = .ref a := by cases r; rfl
end
end Add

namespace Lay
/-! ### rows laid over one another -/
section
variable {W : Type} [DecidableEq W]
noncomputable abbrev Row (W : Type) := Int × Int × W
noncomputable def cnt (es : List Int) (d : Int) : Nat := (es.filter fun e => decide (e < d)).length
noncomputable abbrev ends (rs : List (Row W)) : List Int := rs.map fun r => r.2.1
noncomputable def left (rs : List (Row W)) (f : Int) : List (Row W) := rs.filterMap fun r => if r.1 < f then some (r.1, min r.2.1 (f - 1), r.2.2) else none
noncomputable def right (rs : List (Row W)) (l : Int) : List (Row W) := rs.filterMap fun r => if l < r.2.1 then some (max r.1 (l + 1), r.2.1, r.2.2) else none
noncomputable def over (rs : List (Row W)) (f l : Int) (w : W) : List (Row W) := left rs f ++ (f, l, w) :: right rs l
/-! those that touch and have one word made one -/
noncomputable def jn1 (told : List (Row W)) (r : Row W) : List (Row W) := match told.getLast? with
  | some t => if t.2.2 = r.2.2 ∧ t.2.1 + 1 = r.1 then told.dropLast ++ [(t.1, r.2.1, r.2.2)] else told ++ [r]
  | none => told ++ [r]
noncomputable def Nx (r s : Row W) : Prop := r.2.1 < s.1 ∧ (s.1 = r.2.1 + 1 → r.2.2 ≠ s.2.2)
noncomputable def jn (rs : List (Row W)) : List (Row W) := rs.foldl jn1 []
noncomputable def lay (rs : List (Row W)) : List (Row W) := rs.foldl (fun laid r => over laid r.1 r.2.1 r.2.2) []
noncomputable def ov (rs : List (Row W)) : List (Row W) := jn (lay rs)
end
end Lay

namespace Srt
open PySem PySem.W PyProof.Rows
/-! ### the tree of questions that a sort asks: right for any order -/
section
variable {n : Nat} {r : Nat → Nat → Bool}
noncomputable abbrev at' (p : Array Nat) (i : Nat) : Nat := p.getD i 0
end
end Srt

namespace Srt
open PySem PySem.W PySem.Calls PyProof.Rows
section
variable {prog : Program} {w : World} {A : Around} {E : Value → Shared → Prop} {s : Shared}
end
end Srt
namespace Add
open PySem PySem.Spec PyProof.Rows L2 Srt PySem.W
/-! ### sorted(list of pairs of whole numbers) -/
section
variable {X : Cx} {pins : List (Addr × Obj)} {σ : L2.St} {H : Hp} {s : Shared}
end
end Add

namespace Mrg
/-! ### stretches merged -/
noncomputable abbrev S2 := Int × Int
noncomputable def inB (rs : List S2) (d : Int) : Bool := rs.any fun r => decide (r.1 ≤ d) && decide (d ≤ r.2)
noncomputable def mg1 (told : List S2) (r : S2) : List S2 := match told.getLast? with
  | some t => if r.1 ≤ t.2 + 1 then told.dropLast ++ [(t.1, if r.2 > t.2 then r.2 else t.2)] else told ++ [r]
  | none => told ++ [r]
noncomputable def mg (rs : List S2) : List S2 := rs.foldl mg1 []
end Mrg

namespace Add
open PySem PySem.Spec PyProof.Rows L2
/-! ### for at, x in enumerate(list) -/
/-- two of the iterator's own objects have turned -/
theorem turned2 {X : Cx} {pins : List (Addr × Obj)} {σ : L2.St} {H : Hp} {s : Shared} {h' : Heap} {t' : Nat} {e it : Addr} (I : Inv X pins σ H s) (k : ∀ b o, b ≠ e → b ≠ it → s.heap.get? b = some o → h'.get? b = some o) (f1 : FpOk X pins H e) (f2 : FpOk X pins H it) :
    Inv X pins σ H { s with heap := h', toks := t' } := by
  have n1 : ∀ b u, H b = some u → b ≠ e := fun b u q z => by rw [z, f1.1] at q; cases q
  have n2 : ∀ b u, H b = some u → b ≠ it := fun b u q z => by rw [z, f2.1] at q; cases q
  have out : ∀ b, b ∉ [e, it] → b ≠ e ∧ b ≠ it := fun b hb => ⟨fun z => hb (by simp [z]), fun z => hb (by simp [z])⟩
  refine I.step (g' := s.gens) (d' := s.drawn) (ch := [e, it]) (fun b hb => ?_) (fun b o _ _ hc q _ => k b o (out b hc).1 (out b hc).2 q) (fun b o _ _ hc q _ => ⟨o.slots, k b o (out b hc).1 (out b hc).2 q⟩) (fun _ _ _ _ n => n)
    (fun b o hc q => ⟨o, k b o (out b hc).1 (out b hc).2 q⟩) (fun _ _ q => q) (fun _ _ _ q => q) (fun b ps q => ⟨#[], by rw [q]; simp⟩) (fun m hm => ?_) (fun b u q => ?_) I.bare
  · rcases List.mem_cons.mp hb with rfl | hb
    · exact ⟨f1.2.2.2.1, f1.2.1, f1.2.2.2.2.1, f1.2.2.2.2.2⟩
    · cases List.mem_singleton.mp hb
      exact ⟨f2.2.2.2.1, f2.2.1, f2.2.2.2.2.1, f2.2.2.2.2.2⟩
  · obtain ⟨o, es, ep, ho, r⟩ := hm
    exact ⟨o, es, ep, k _ o (Ne.symm f1.2.1) (Ne.symm f2.2.1) ho, r⟩
  · refine (I.hok b u q).stay (fun c v hc z => k c v ?_ ?_ z) (fun _ z => z) fun _ _ z => z
    · rcases hc with rfl | hc
      · exact n1 _ u q
      · exact n1 c _ hc
    · rcases hc with rfl | hc
      · exact n2 _ u q
      · exact n2 c _ hc
noncomputable def Ite (K : PySem.W.Frag) (a : Addr) : It :=
  ⟨fun i H => ∃ xs x, SqL K H a xs ∧ xs[i]? = some x, fun i H x H' => ∀ xs, SqL K H a xs → ∃ y t, xs[i]? = some y ∧ H t = none ∧ x = .ref t ∧ H' = upd H t (.tup [.int i, y]), fun i H => ∃ xs, SqL K H a xs ∧ xs.length ≤ i⟩
theorem fp_upd {X : Cx} {pins : List (Addr × Obj)} {H : Hp} {b t : Addr} {o : HO} (f : FpOk X pins H b) (ne : b ≠ t) : FpOk X pins (L2.upd H t o) b := ⟨by rw [upd_ne ne]; exact f.1, f.2⟩
theorem turn_enum {P : Program} {w : World} {K : PySem.W.Frag} {es : List Expr} {kk pos} (a e it : Addr) (hne : e ≠ it) : Turn P w K (.Tuple es kk pos) (Ite K a) [e, it] e (fun i h => ∃ old, IsEnum h e it i old ∧ h.IsListIter it a i) where
  mem := by simp
  obj := fun i h st b hb => by
    obtain ⟨old, h1, o, h2, c, d⟩ := st
    rcases List.mem_cons.mp hb with rfl | hb
    · exact ⟨_, h1, fun v z => by cases z⟩
    · cases List.mem_singleton.mp hb
      exact ⟨o, h2, fun v z => by rw [d] at z; cases z⟩
  keep := fun i h h' st k => by
    obtain ⟨old, h1, h2⟩ := st
    exact ⟨old, k e (by simp) _ h1, h2.at fun o q => k it (by simp) o q⟩
  item := by
    intro X hP hw hK hc i pins s σ H E I hf st hg
    subst hP hw hK
    obtain ⟨old, he, hit⟩ := st
    obtain ⟨xs, x, hq, hx⟩ := hg
    obtain ⟨its, rv, p, hz⟩ := I.list hq
    obtain ⟨u, hu, ru⟩ := rv.get hx
    have f1 := hf e (by simp)
    have f2 := hf it (by simp)
    refine wpAny_pyNext_enum_item he hit p.isList (x := u) (by simpa using hu) hne fun h1 ho hit1 ht hsz keep => ⟨_, rfl, ?_⟩
    refine wpAny_letOwnedTupleGo_enum ho fun h2 he2 sb => ?_
    replace sb : Heap.SameBut e h1 h2 := sb
    have hel : e < s.heap.objs.size := Heap.lt_size he
    obtain ⟨oi, hoi, _⟩ := id hit
    have hil : it < s.heap.objs.size := Heap.lt_size hoi
    have ht2 : h2.get? s.heap.objs.size = some { cls := .type "tuple", data := .seq #[.int i s.toks, u] } := (sb.2 _ (Nat.ne_of_gt hel)).trans ht
    have hfr : H s.heap.objs.size = none := I.hok.fresh (Nat.le_refl _)
    have I1 := I.laid (a := s.heap.objs.size) (o := .tup [.int i, x]) (h' := s.heap.push { cls := .type "tuple", data := .seq #[.int i s.toks, u] }) (t' := s.toks) (fun b o q => Heap.get?_push_of_some _ q) (Nat.le_refl _) ⟨show 2 ≤ sizeLine by rw [sizeLine_eq]; decide, [.int i s.toks, u], .cons ⟨_, rfl⟩ (.cons ru .nil), ⟨_, Heap.get?_push_size _ rfl, rfl, _, rfl⟩⟩
    have I2 := turned2 (h' := h2) (t' := s.toks + 1) I1 (fun b o n1 n2 q => by
      by_cases z : b = s.heap.objs.size
      · subst z
        rw [Heap.get?_push_size _ rfl] at q
        cases q
        exact ht2
      · rw [Heap.get?_push_ne _ _ _ z] at q
        exact (sb.2 b n1).trans (keep b o n1 n2 q)) (fp_upd f1 (Nat.ne_of_lt hel)) (fp_upd f2 (Nat.ne_of_lt hil))
    refine ⟨.ref s.heap.objs.size, _, I2, rfl, fun ys hy => ?_, ⟨u, he2, hit1.at fun o q => (sb.2 it (Ne.symm hne)).trans q⟩, fun b hb => ?_⟩
    · rw [I.list_inj hy hq]
      exact ⟨x, _, hx, hfr, rfl, rfl⟩
    · rcases List.mem_cons.mp hb with rfl | hb
      · rw [upd_ne (Nat.ne_of_lt hel)]; exact f1.1
      · cases List.mem_singleton.mp hb
        rw [upd_ne (Nat.ne_of_lt hil)]; exact f2.1
  done := by
    intro X hP hw hK hc i pins s σ H E I hf st hg
    subst hP hw hK
    obtain ⟨old, he, hit⟩ := st
    obtain ⟨xs, hq, hx⟩ := hg
    obtain ⟨its, rv, p, hz⟩ := I.list hq
    have hl := rv.length
    have f1 := hf e (by simp)
    have f2 := hf it (by simp)
    exact wpAny_pyNext_enum_end (I.ok.hd hc) he hit p.isList (by simp; omega) fun h' eb => ⟨rfl, turned2 (t' := s.toks) I (fun b o n1 n2 q => eb b o n2 q) f1 f2⟩
  self := fun A i s Q E st h => by
    obtain ⟨old, he, hit⟩ := st
    exact wpAny_pyIter_enum he h
noncomputable def iEnum (K : PySem.W.Frag) (ta : TA) : TI := fun σ H R => ta σ H fun vs H1 => ∃ a xs, vs = [.ref a] ∧ H1 a = some (.lst xs) ∧ R (Ite K a) H1
theorem boot_enum : bootBuiltins "enumerate" = some (.type "enumerate") := by decide +kernel
theorem pi_enum {X : Cx} {es : List Expr} {kk : _} {pos' : Pos} {a : Expr} {ta : TA} {p pos : Pos} (hg : Gl X "enumerate") (hm : X.mg "enumerate" = none) (ha : PA X [a] ta) (hs : starEach [a] X.env = [(false, eval a X.env)] := by rfl) : PI X (.Tuple es kk pos') (.Call (.Name "enumerate" p) [a] [] pos) (iEnum X.K ta) := by
  intro pins s σ H R I h
  refine Call_ (ld_blt I hg hm boot_enum (PyProof.Rows.callWith_type1 (thn (ha pos pins s σ H _ I h) fun us s1 ⟨vs, H1, I1, r1, q1⟩ => ?_) hs rfl))
  obtain ⟨l, xs, e, hl, q⟩ := q1
  subst e
  obtain ⟨u, rfl, hu⟩ := vals1 r1
  cases rel_ref hu
  obtain ⟨z, its, n, rv, hz, e⟩ := I1.lstM hl
  refine call_enumerate_1 e fun h' he hit hsz keep => wpAny_pyIter_enum he ?_
  have I2 : Inv X pins σ H1 { s1 with heap := h' } := I1.kept (t' := s1.toks) keep
  refine ⟨s1.heap.objs.size + 1, [s1.heap.objs.size + 1, s1.heap.objs.size], _, _, H1, rfl, I2, turn_enum l _ _ (Nat.ne_of_gt (Nat.lt_succ_self _)), ⟨.none, he, hit⟩, fun b hb => ?_, q⟩
  rcases List.mem_cons.mp hb with rfl | hb
  · exact I1.fpOk (Nat.le_succ _) (I1.hok.fresh (Nat.le_succ _))
  · cases List.mem_singleton.mp hb
    exact I1.fpOk (Nat.le_refl _) (I1.hok.fresh (Nat.le_refl _))
/-- for at, x in enumerate(list): each turn a new tuple -/
theorem for_enum {K : PySem.W.Frag} {a : Addr} {xs : List V} {g : TG} {tb : TS} {D : Ends} {σ : L2.St} {H : Hp} (Pv : Nat → L2.St → Hp → Prop) (h0 : Pv 0 σ H) (hl : ∀ i σ H, i ≤ xs.length → Pv i σ H → SqL K H a xs)
    (hs : ∀ i x t σ H, xs[i]? = some x → Pv i σ H → H t = none → g (.ref t) σ (upd H t (.tup [.int i, x])) fun σ2 H2 => tb { D with nx := Pv (i + 1), ct := Pv (i + 1), bk := D.nx } σ2 H2) (hd : ∀ σ H, Pv xs.length σ H → D.nx σ H) :
    ∃ W : Nat → Nat → L2.St → Hp → Prop, (∃ m, W 0 m σ H) ∧ ∀ i m σ H, W i m σ H →
      ((Ite K a).stop i H ∧ D.nx σ H) ∨ ((Ite K a).go i H ∧ ∃ N : L2.St → Hp → Prop, (∀ σ' H', N σ' H' → ∃ m', m' < m ∧ W (i + 1) m' σ' H') ∧ ∀ x H', (Ite K a).yld i H x H' → g x σ H' fun σ2 H2 => tb { D with nx := N, ct := N, bk := D.nx } σ2 H2) := by
  refine ⟨fun i m σ H => m = xs.length - i ∧ i ≤ xs.length ∧ Pv i σ H, ⟨xs.length, by simp, Nat.zero_le _, h0⟩, ?_⟩
  rintro i m σ H ⟨rfl, hi, p⟩
  have hq := hl i σ H hi p
  by_cases hlt : i < xs.length
  · have ex : xs[i]? = some xs[i] := by simp [hlt]
    refine .inr ⟨⟨xs, xs[i], hq, ex⟩, Pv (i + 1), fun σ' H' n => ⟨xs.length - (i + 1), by omega, rfl, hlt, n⟩, fun x H' hy => ?_⟩
    obtain ⟨y, t, e1, ht, rfl, rfl⟩ := hy xs hq
    exact hs i y t σ H e1 p ht
  · have e : i = xs.length := by omega
    subst e
    exact .inl ⟨⟨xs, hq, Nat.le_refl _⟩, hd σ H p⟩
end Add

namespace Add
open PySem PySem.Spec PyProof.Rows L2
/-! ### any of a list of truths; a field within a comprehension's block -/
section
variable {X : Cx}
theorem gk_tup {K : PySem.W.Frag} {n : Nat} {t : TGs} (ht : ∀ xs σ' H' R R', (∀ σ3 H3, R σ3 H3 → R' σ3 H3) → t xs σ' H' R → t xs σ' H' R') (x : V) (σ' : L2.St) (H' : Hp) (R R' : L2.St → Hp → Prop) (h : ∀ σ3 H3, R σ3 H3 → R' σ3 H3) (z : gTup K n t x σ' H' R) : gTup K n t x σ' H' R' := by
  obtain ⟨a, xs, e, hq, hl, z⟩ := z
  exact ⟨a, xs, e, hq, hl, ht _ _ _ _ _ h z⟩
end
end Add

namespace Add
open PySem PySem.Spec PyProof.Rows L2
/-! ### defs with defaults -/
structure FunD (K : PySem.W.Frag) (x qual : Str) (st : Stmt) (f : Addr) (fd : FuncData) : Prop where
  ex : ∃ (oc dV kV doc pm cdv ct : Value) (od an : Option Addr) (osl : Array (Option Value)),
    fd = PySem.W.fnOf x qual (defArgs st) (defBody st) (defScope st) dV kV doc pm an cdv ct ∧ K.lookup f = some ⟨oc, od, .func fd, osl⟩ ∧ PySem.W.codeIn K cdv qual = true
  kp : PySem.W.keepIn K (.ref f) = true
section
variable {P : Program} {w : World} {K : PySem.W.Frag} {mg : Str → Option Value} {base : Heap}
theorem FunD.ok {x qual : Str} {st : Stmt} {f : Addr} {fd : FuncData} {N ps : List Str} {k : Nat} {sp : Sp} (F : FunD K x qual st f fd) (S : FnScope N ps (defScope st)) (len : ∀ vs H Q E, sp vs H Q E → vs.length = ps.length)
    (hbody : ∀ (cdv : Value) (A : Around) (outer : List Env) (s : Shared) (H : Hp) (vs : List V) (Q : VK) (E : XK), Room k (A.deeper (envOfC qual (defScope st) s.heap.objs.size f cdv)) → sp vs H Q E →
      ∃ t, PSs (cxOf CX0 P w K mg base N qual (defScope st) f cdv A outer s H E).nox (defBody st) t ∧ t { nx := fun _ H' => Q .non H', rt := Q } (start N vs) H) : FnOk P w K mg base CX0 (k + 1) f fd ps sp := by
  obtain ⟨oc, dV, kV, doc, pm, cdv, ct, od, an, osl, rfl, lk, hcd⟩ := F.ex
  refine fn_of lk hcd S len fun A outer s H vs Q E hr hsp => ?_
  obtain ⟨t, h, q⟩ := hbody cdv A outer s H vs Q E hr hsp
  exact ⟨t, h.nox, q⟩
theorem fund_mk {x qual : Str} {st : Stmt} {f : Addr} {oc : Value} {od an : Option Addr} {osl : Array (Option Value)} {dV kV doc pm cdv ct : Value} (l : K.lookup f = some ⟨oc, od, .func (PySem.W.fnOf x qual (defArgs st) (defBody st) (defScope st) dV kV doc pm an cdv ct), osl⟩)
    (c : PySem.W.codeIn K cdv qual = true) (k : PySem.W.keepIn K (.ref f) = true) : FunD K x qual st f (PySem.W.fnOf x qual (defArgs st) (defBody st) (defScope st) dV kV doc pm an cdv ct) := ⟨⟨oc, dV, kV, doc, pm, cdv, ct, od, an, osl, rfl, l, c⟩, k⟩
theorem bindsD {fd : FuncData} {ps : List Str} {ds : List Value} (h : ∀ us : List Value, (us ++ ds).length = ps.length → ∀ S, PySem.W.peek K S (bindArgs fd ⟨us, []⟩) = some (ps.zip (us ++ ds))) : Binds K fd ps ds := fun s us X hl => PySem.W.kp_binds X (h us hl)
end
structure MethD (K : PySem.W.Frag) (x qual : Str) (st : Stmt) (ps : List Str) (f : Addr) (fd : FuncData) : Prop where
  fn : FunD K x qual st f fd
  bd : Binds K fd ps []
  ty : PySem.W.typeIn K (.ref f) = some (.type "function")
end Add

namespace Add
open PySem PySem.Spec PyProof.Rows L2
/-! ### a op b op c op d; what lies in lists of tuples, mapped -/
section
variable {X : Cx} {a b c d : Expr} {ta tb tc td : TE} {pos : Pos}
end
theorem pg_tupC {X : Cx} {K : PySem.W.Frag} (hK : X.K = K) {es : List Expr} {kk : _} {pos : Pos} {t : TGs} {n : Nat} (hc : X.calm = true) (h : PGs X es t)
    (hn : (assignEach es X.env).length = n := by rfl) (hst : (assignEach es X.env).findIdx? (·.1) = none := by rfl) : PG X (.Tuple es kk pos) (gTup K n t) := by
  subst hK; exact pg_tup hc h hn hst
end Add
namespace Tab
open Mrg Lay
/-! ### patterns and tables -/
/-- a weekday or a day of the year that is free -/
noncomputable def fy (wk : List Int) (yr : List S2) (i : Int) : Bool := wk.contains (i % 7 + 1) || inB yr i
end Tab

namespace Add
open PySem PySem.Spec PyProof.Rows L2
/-! ### range(i, j), i and j of any size -/
section
variable {X : Cx} {tg : Expr}
end
end Add

namespace Rev
open PySem PyProof.Rows
/-! ### list(reversed(list)) -/
set_option maxRecDepth 100000
theorem no_len : typeLookup (.type "list_reverseiterator") "__len__" = pure none := by rw [typeLookup_type, builtinLookup_eq_fast]; kernel_rfl
theorem its_hint : typeLookup (.type "list_reverseiterator") "__length_hint__" = pure (some (.builtin "list_reverseiterator.__length_hint__")) := by rw [typeLookup_type, builtinLookup_eq_fast]; kernel_rfl
section
variable {prog : Program} {w : World} {A : Around} {s : Shared} {R : Result → Shared → Prop} {E : Value → Shared → Prop}
variable {I : Addr} {fp wr : List Addr} {G : Array GenState → Array GenState → Prop} {n : Nat} {P : Nat → Value → Prop} {St : Nat → Shared → Prop}
theorem hint_ok {x : Value} {Q : Bool → Shared → Prop} (hT : s.TypeIs x "list_reverseiterator") (h : Q false s) : wpAny (model prog w) A (Builtin.List.listLengthHint x) Q E s := by
  unfold Builtin.List.listLengthHint
  refine wpAny_bind (wpAny_specialOf hT no_len ?_)
  show wpAny _ A (specialOf x (Str.ofString "__length_hint__") >>= _) _ _ _
  refine wpAny_bind (wpAny_specialOf hT its_hint ?_)
  generalize hid : ("list_reverseiterator.__length_hint__" : String) = id0
  wp_delta
  rw [show splitId id0 = some ("list_reverseiterator", "__length_hint__") from by subst hid; decide +kernel]
  subst hid
  refine wpAny_bind (wpAny_isInstance (b := true) hT (by rw [isSubtype_type]; kernel_rfl) ?_)
  exact wpAny_pure h
theorem extend_ok (W : WalksS prog w A.in1 I fp wr G n P St) (hT : ∀ i s, St i s → s.TypeIs (.ref I) "list_reverseiterator") (S : Addr) (res : Value) (c₀ : Nat) (hst : St 0 s) (hSf : S ∉ fp) (hI : I ∈ fp)
    (hS : s.heap.get? S = some { cls := .type "list", data := .seq #[] c₀ })
    (hR : ∀ s' acc' c', Moved (S :: wr) G s s' → s'.heap.get? S = some { cls := .type "list", dict := none, data := .seq acc' c', slots := #[] } → ItemsOf P acc' n → R (.ok (.ret res)) s') (hn : n ≤ sizeLine) :
    wpAny (model prog w) A.in1 (Builtin.List.listExtendWith (.ref S) (.ref I) res)
      (fun fin s' => match fin with | .done f => R (.ok f) s' | .again c' => c'.quiet = true ∧ codeAny (model prog w) A c' R s') (fun e s' => R (.error e) s') s := by
  have hSI : S ≠ I := fun e => hSf (e ▸ hI)
  unfold Builtin.List.listExtendWith
  refine wpAny_bind (wpAny_typeOf (hT 0 _ hst) ?_)
  have h1 : Builtin.List.listSameRef (.ref S) (.ref I) = false := by simp [Builtin.List.listSameRef, hSI]
  have h2 : (Value.type "list_reverseiterator" == Value.type "list") = false := by decide
  have h3 : (Value.type "list_reverseiterator" == Value.type "tuple") = false := by decide
  simp only [h1, h2, h3, Bool.or_false, Bool.false_eq_true, if_false]
  refine wpAny_bind (W.self 0 _ _ _ hst ?_)
  refine wpAny_bind (wpAny_holding (hint_ok (hT 0 _ hst) ?_))
  rw [if_neg (by decide)]
  exact wpAny_pure ⟨plainId_quiet F.plain_extend_loop _, codeAny_extend_loopS W hn _ hSf _ n 0 _ _ _ rfl (Nat.zero_le _) hst hS (ItemsOf.nil P) fun s' acc' c' hm hS' hacc => hR s' acc' c' hm hS' hacc⟩
theorem init_ok (W : WalksS prog w A.in1 I fp wr G n P St) (hT : ∀ i s, St i s → s.TypeIs (.ref I) "list_reverseiterator") (S : Addr) (hst : St 0 s) (hSf : S ∉ fp) (hI : I ∈ fp)
    (hS : s.heap.get? S = some { cls := .type "list", data := .seq #[] })
    (hR : ∀ s' acc' c', Moved (S :: wr) G s s' → s'.heap.get? S = some { cls := .type "list", dict := none, data := .seq acc' c', slots := #[] } → ItemsOf P acc' n → R (.ok (.ret .none)) s') (hn : n ≤ sizeLine) :
    wpAny (model prog w) A.in1 (Builtin.«list.__init__» ⟨[.ref S, .ref I], []⟩)
      (fun fin s' => match fin with | .done f => R (.ok f) s' | .again c' => c'.quiet = true ∧ codeAny (model prog w) A c' R s') (fun e s' => R (.error e) s') s := by
  show wpAny _ A.in1 (Builtin.List.listItems (.ref S) >>= fun old => Builtin.List.listUpdate (.ref S) (fun _ => #[]) >>= fun _ => letGo old.toList.reverse >>= fun _ => Builtin.List.listExtendWith (.ref S) (.ref I) .none) _ _ s
  refine wpAny_bind ?_
  unfold Builtin.List.listItems
  refine wpAny_bind (wpAny_seqItems hS rfl (wpAny_pure ?_))
  refine wpAny_bind (wpAny_updateSeq hS rfl ?_)
  have hS2 := Heap.get?_update_self (Obj.mapSeq (fun _ => (#[] : Array Value))) hS rfl
  have oth : ∀ b o, b ≠ S → s.heap.get? b = some o → (s.heap.update S (Obj.mapSeq (fun _ => (#[] : Array Value)))).get? b = some o := fun b o hb e => (Heap.get?_update_other _ _ (Ne.symm hb)).trans e
  refine wpAny_bind (wpAny_letGo ?_)
  refine extend_ok W hT S .none _ (W.frame 0 s _ s.toks hst (Nat.le_refl _) fun b hb o e => oth b o (fun h => hSf (h ▸ hb)) e) hSf hI hS2 (fun s' acc' c' hm hS' hacc => ?_) hn
  exact hR s' acc' c' (Moved.trans W.gtrans ((Moved.refl W.grefl).then_heap (Nat.le_refl _) fun b o hb e => oth b o (fun h => hb (h ▸ List.mem_cons_self)) e) hm) hS' hacc
theorem list_ok {Q : Value → Shared → Prop} (W : WalksS prog w A.in1.in1 I fp wr G n P St) (hT : ∀ i s, St i s → s.TypeIs (.ref I) "list_reverseiterator") (hst : St 0 s) (hfp : ∀ b ∈ fp, b < s.heap.objs.size) (hI : I ∈ fp)
    (hQ : ∀ s' acc' c', Moved (s.heap.objs.size :: wr) G { s with heap := s.heap.push { cls := .type "list", data := .seq #[] } } s' →
      s'.heap.get? s.heap.objs.size = some { cls := .type "list", dict := none, data := .seq acc' c', slots := #[] } → ItemsOf P acc' n → Q (.ref s.heap.objs.size) s') (hn : n ≤ sizeLine) :
    wpAny (model prog w) A (call (.type "list") [.ref I]) Q E s := by
  have hSf : s.heap.objs.size ∉ fp := fun hm => Nat.lt_irrefl _ (hfp _ hm)
  refine callType_codes (Q₁ := fun obj s₁ => obj = .ref s.heap.objs.size ∧ s₁ = { s with heap := s.heap.push { cls := .type "list", data := .seq #[] } }) F.called_list (F.typeCall_list_1 _) F.entry_list_init (code_list_new _ ⟨rfl, rfl⟩) fun obj s₁ h₁ => ?_
  obtain ⟨rfl, rfl⟩ := h₁
  have hS : (s.heap.push { cls := .type "list", data := .seq #[] }).get? s.heap.objs.size = some { cls := .type "list", data := .seq #[] } := Heap.get?_push_size _ rfl
  exact ⟨⟨_, hS, rfl⟩, F.args_list_init_2 _ _, init_ok W hT _ (W.frame 0 s _ s.toks hst (Nat.le_refl _) fun b _ o e => Heap.get?_push_of_some _ e) hSf hI hS (fun s' acc' c' hm hS' hacc => ⟨rfl, hQ s' acc' c' hm hS' hacc⟩) hn⟩
end
end Rev
namespace Add
open PySem PySem.Spec PyProof.Rows L2
/-! ### the rule of list(reversed(list)) -/
theorem boot_reversed : bootBuiltins "reversed" = some (.type "reversed") := by decide +kernel
theorem vals_snoc {xs : List V} {us : List Value} {x : V} {u : Value} (h : Vals xs us) (r : RelV x u) : Vals (xs ++ [x]) (us ++ [u]) := by
  induction h with
  | nil => exact .cons r .nil
  | cons r' _ ih => exact .cons r' ih
theorem vals_rev {xs : List V} {us : List Value} (h : Vals xs us) : Vals xs.reverse us.reverse := by
  induction h with
  | nil => exact .nil
  | cons r _ ih => rw [List.reverse_cons, List.reverse_cons]; exact vals_snoc ih r
theorem items_rev {its : List Value} {acc : Array Value} (h : ItemsOf (fun i v => its.toArray[its.toArray.size - 1 - i]? = some v) acc its.toArray.size) : acc = its.reverse.toArray := by
  obtain ⟨h1, h2⟩ := h
  have e : acc.toList = its.reverse := by
    refine List.ext_getElem? fun i => ?_
    have hs : acc.size = its.length := by rw [h1]; simp
    by_cases c : i < its.length
    · have hi : i < acc.size := by omega
      have hg : acc[i]? = some acc[i] := Array.getElem?_eq_getElem hi
      have := h2 i _ hg
      rw [Array.getElem?_toList, hg, ← this, List.getElem?_reverse c]
      simp
    · rw [List.getElem?_eq_none (by rw [Array.length_toList]; omega), List.getElem?_eq_none (by rw [List.length_reverse]; omega)]
  rw [← e]
section
variable {X : Cx}
noncomputable def tLR (K : PySem.W.Frag) (t : TA) : TE := fun σ H Q => t σ H fun vs H1 => ∃ l ys, vs = [.ref l] ∧ SqL K H1 l ys ∧ ∀ q, H1 q = none → Q (.ref q) (upd H1 q (.lst ys.reverse))
theorem pe_listRev {e : Expr} {t : TA} {p p2 pos pos2 : Pos} (hca : X.calm = true) (hgl : Gl X "list") (hml : X.mg "list" = none) (hgr : Gl X "reversed") (hmr : X.mg "reversed" = none) (hbl : bootBuiltins "list" = some (.type "list")) (ha : PA X [e] t)
    (he : starEach [e] X.env = (false, eval e X.env) :: starEach [] X.env := by rfl) : PE X (.Call (.Name "list" p) [.Call (.Name "reversed" p2) [e] [] pos2] [] pos) (tLR X.K t) := by
  intro pins s σ H Q I h
  refine wpAny_Call_Name_kw (ld_blt I hgl hml hbl ?_)
  refine PyProof.Rows.callWith_type1 ?_ rfl rfl
  show wpAny _ _ (spliced ((false, eval (.Call (.Name "reversed" p2) [e] [] pos2) X.env) :: [])) _ _ s
  refine Calls.spliced_cons ?_
  refine wpAny_Call_Name_kw (ld_blt I hgr hmr boot_reversed ?_)
  refine PyProof.Rows.callWith_type1 (thn (ha pos2 pins s σ H _ I h) fun us s1 ⟨vs, H1, I1, r1, q1⟩ => ?_) he rfl
  obtain ⟨l, ys, rfl, hq, q⟩ := q1
  obtain ⟨u, rfl, rx⟩ := vals1 r1
  cases rx
  obtain ⟨its, r', pl, hz⟩ := I1.list hq
  refine call_reversed_list pl.isList (Calls.spliced_nil ?_)
  have hl1 := pl.isList
  have hll : l < s1.heap.objs.size := by obtain ⟨o, ho, _⟩ := hl1; exact Heap.lt_size ho
  have hh : X.A.handled = none := I.ok.hd hca
  have W := (Walks.listRev (prog := X.prog) (w := X.w) (A := X.A.in1.in1) hh s1.heap.objs.size l (Nat.ne_of_lt hll) its.toArray).toS
  refine Rev.list_ok W (fun i s st => st.2.1.typeIs) ⟨Nat.zero_le _, ?_, hl1.at fun o e => Heap.get?_push_of_some _ e⟩ (fun b hb => ?_) (by simp) (fun s' acc' c' hm hS' hacc => ?_) ?_
  · refine ⟨_, Heap.get?_push_size _ rfl, rfl, ?_⟩
    rw [show ((its.toArray.size : Nat) : Int) - 1 - ((0 : Nat) : Int) = (its.toArray.size : Int) - 1 by omega]
    rfl
  · show b < (s1.heap.push _).objs.size
    rw [Heap.size_push]
    rcases List.mem_cons.mp hb with z | z
    · rw [z]; exact Nat.lt_succ_self _
    · rw [List.mem_singleton.mp z]; exact Nat.lt_succ_of_lt hll
  · have sz : (s1.heap.push (revObj l ((its.toArray.size : Int) - 1))).objs.size = s1.heap.objs.size + 1 := Heap.size_push _ _
    have kp : ∀ b o, s1.heap.get? b = some o → s'.heap.get? b = some o := fun b o e => by
      have hb := Heap.lt_size e
      refine hm.heap b o (fun z => ?_) (Heap.get?_push_of_some _ (Heap.get?_push_of_some _ e))
      rcases List.mem_cons.mp z with z | z
      · rw [z] at hb
        exact absurd hb (by show ¬ ((s1.heap.push (revObj l ((its.toArray.size : Int) - 1))).objs.size < s1.heap.objs.size); rw [sz]; exact Nat.not_lt_of_le (Nat.le_succ _))
      · rw [List.mem_singleton.mp z] at hb
        exact Nat.lt_irrefl _ hb
    have es : s' = { s1 with heap := s'.heap, toks := s'.toks } := by
      have g1 := hm.gens
      have g2 := hm.drawn
      have g3 := hm.os
      cases s'
      cases s1
      simp_all
    have le : s1.heap.objs.size ≤ (s1.heap.push (revObj l ((its.toArray.size : Int) - 1))).objs.size := by rw [sz]; exact Nat.le_succ _
    rw [items_rev hacc] at hS'
    have new : ObjOk X.prog X.w (upd H1 (s1.heap.push (revObj l ((its.toArray.size : Int) - 1))).objs.size (.lst ys.reverse)) s'.heap (s1.heap.push (revObj l ((its.toArray.size : Int) - 1))).objs.size (.lst ys.reverse) :=
      ⟨by rw [List.length_reverse]; exact hz, its.reverse, c', vals_rev r', hS'⟩
    have I3 := I1.laid (t' := s'.toks) kp le new
    rw [← es] at I3
    exact ⟨.ref _, _, I3, rfl, q _ (I1.hok.fresh le)⟩
  · have := r'.length
    simp only [List.size_toArray]
    omega
end
end Add

namespace Lay
/-! ### runs of days, and the word of a day by its place -/
end Lay

namespace Add
open PySem PySem.Spec PyProof.Rows L2
/-! ### comprehensions whose elements are new tuples -/
end Add

namespace Add
open PySem PySem.Spec PyProof.Rows L2
/-! ### C(e, .., k = v): an own class made with keywords -/
section
variable {X : Cx} {CX : CXT} {k : Nat} {f C : Addr} {fd : FuncData} {ps ks : List Str} {sp : Sp} {E : XK} {x : Str} {p pos : Pos} {e : Expr} {es : List Expr} {kws : List Keyword} {t tk : TA} {g : List Value → List Value → List Value} {gV : List V → List V → List V}
end
/-- two given, the third left out (None), the fourth by its name -/
noncomputable def g21 {α : Type} (n : α) : List α → List α → List α
  | [a, b], [c] => [a, b, n, c]
  | _, _ => []
/-! ### != of lists whose items are lists alike, item by item: False -/
section
variable {X : Cx}
/-! ### (a, b, ..) = a list of that length -/
end
end Add

namespace Add
open PySem PySem.Spec PyProof.Rows L2
/-! ### xs += ys of lists; max of a list of ints; list(d) of a dict -/
section
variable {X : Cx}
noncomputable def ipL : TIp := fun x y H Q => ∃ l b xs zs, x = .ref l ∧ y = .ref b ∧ H l = some (.lst xs) ∧ H b = some (.lst zs) ∧ xs.length + zs.length ≤ sizeLine ∧ Q (.ref l) (upd H l (.lst (xs ++ zs)))
theorem fills_list_iadd : fillsInplaceSlot (.type "list") "add" (Operator.Add == .Add) = pure false := by
  unfold fillsInplaceSlot
  show (typeLookup (.type "list") (dunderI "add") >>= fun fi => pure (fi.isSome && !isSeqSlot fi)) = pure false
  rw [F.slot_list_iadd.lookup]
  rfl
theorem seq_list_iadd : seqSlot? (.type "list") (dunderI "add") = pure (some (.builtin "list.__iadd__")) := PySem.seqSlot_of F.slot_list_iadd.lookup (by decide +kernel)
theorem ip_ext : PIp X .Add ipL := by
  intro pins s σ H x y v u Q I rx ry h
  obtain ⟨l, b, xs, zs, rfl, rfl, hH, hB, hz, q⟩ := h
  cases rx
  cases ry
  obtain ⟨z, its, n, r, hl, e⟩ := I.lstM hH
  obtain ⟨z2, its2, n2, r2, hl2, e2⟩ := I.lstM hB
  have hsz : its.toArray.size + its2.toArray.size ≤ sizeLine := by rw [List.size_toArray, List.size_toArray]; omega
  have hlong : ¬ (!its.toArray.isEmpty && Builtin.List.listTooLong (its.toArray.size + its2.toArray.size)) = true := by
    rw [notLongL hsz, Bool.and_false]
    exact Bool.false_ne_true
  unfold inplaceOp
  refine wpAny_holding ?_
  have ta : s.TypeIs (.ref l) "list" := ⟨_, e, rfl⟩
  have tb : s.TypeIs (.ref b) "list" := ⟨_, e2, rfl⟩
  refine wpAny_bind (wpAny_typeOf ta (wpAny_bind (wpAny_of_eq fills_list_iadd ?_)))
  show wpAny _ _ (if false = true then _ else _) _ _ s
  rw [if_neg Bool.false_ne_true]
  refine wpAny_bind (wpAny_binaryOp1_none (nm := "add") ta tb noFill_list_add ?_)
  refine wpAny_bind (wpAny_of_eq seq_list_iadd ?_)
  refine wpAny_bind (wpAny_rule ?_)
  refine call_meets F.slot_list_iadd ta F.entry_list_iadd (F.args_list_iadd_2 _ _)
    (AutoSeq1.list___iadd___list_list_0 l its.toArray n b its2.toArray n2 hlong (by rw [List.size_toArray]; omega) (by omega)) ⟨e, e2, ?_⟩
  refine ⟨.ref l, _, I.lset (its' := its ++ its2) hH e (by simp) (r.append r2) ?_, rfl, q⟩
  rw [List.length_append]
  omega
end
/-! ### comprehensions whose elements are new objects -/
/-- all but lists stays -/
noncomputable def KeepN (H H' : Hp) : Prop := ∀ b o, (∀ l, o ≠ .lst l) → H b = some o → H' b = some o
theorem KeepN.of {H H' : Hp} (s : Same H H') : KeepN H H' := fun b o _ e => s b o e
theorem KeepN.upd {H : Hp} {p : Addr} {xs : List V} {o : HO} (h : H p = some (.lst xs)) : KeepN H (L2.upd H p o) := fun b u n e => by
  rw [upd_ne (fun z => by rw [z, h] at e; cases e; exact n _ rfl)]
  exact e
end Add

namespace Add
open PySem PySem.Spec PyProof.Rows L2
/-! ### o.m(..) where o is an object of one of some classes; isinstance with an own class -/
section
variable {X : Cx} {CX : CXT} {ι : Type} {k : ι → Nat} {f C : ι → Addr} {fd : ι → FuncData} {ps : ι → List Str} {sp : ι → Sp} {dvs : List V} {ds : List Value} {E : XK} {m : Str} {pos apos : Pos} {e o : Expr} {es : List Expr} {ta : TE} {t : TA}
end
section
variable {X : Cx}
end
section
variable {K : PySem.W.Frag} {C : Addr}
end
/-! ### for x in reversed(a list) -/
section
variable {X : Cx} {tg : Expr}
end
end Add

namespace Add
open PySem PySem.Spec PyProof.Rows L2
/-! ### isinstance with a tuple of built-in kinds; sorted of texts -/
section
variable {X : Cx}
theorem strs_are : ∀ {ss : List Str} {its : List Value}, Vals (ss.map V.str) its → StrsAre its ss
  | [], _, .nil => .nil
  | y :: ss, _, .cons a r => by
    obtain ⟨t, rfl⟩ := a
    exact .cons y t (strs_are r)
theorem are_strs : ∀ {ss : List Str} {its : List Value}, StrsAre its ss → Vals (ss.map V.str) its
  | [], _, .nil => .nil
  | _ :: _, _, .cons y t h => .cons ⟨t, rfl⟩ (are_strs h)
theorem op_notB : OpR X (compareOp .IsNot) (fun x y H Q => ∃ b c : Bool, x = .bl b ∧ y = .bl c ∧ Q (.bl (b != c)) H) := by
  intro pins s σ H x y v u Q I rx ry h
  obtain ⟨b, c, rfl, rfl, q⟩ := h
  cases rx
  cases ry
  exact PyProof.Rows.isnot_bool ⟨.bl (b != c), H, I, rfl, q⟩
end
end Add

namespace Add
open PySem PySem.Spec PyProof.Rows L2
/-! ### the place of a text in a list; != of tuples whose items are flat or lists of flat tuples -/
section
variable {X : Cx}
/-- the first place of a text -/
noncomputable def rIndexS : V → List V → Hp → VK → Prop := fun x vs H Q => ∃ (l : Addr) (ss : List Str) (k : Str) (j : Nat), x = .ref l ∧ vs = [.str k] ∧ H l = some (.lst (ss.map V.str)) ∧ ss[j]? = some k ∧ (∀ m, m < j → ss[m]? ≠ some k) ∧ Q (.int (j : Int)) H
theorem are_at {its : List Value} {ss : List Str} (r : StrsAre its ss) : ∀ {m : Nat} {z : Str}, ss[m]? = some z → ∃ t, its[m]? = some (.str z t) := by
  induction r with
  | nil => intro m z h; cases h
  | cons y t _ ih =>
    intro m z h
    cases m with
    | zero => cases h; exact ⟨_, rfl⟩
    | succ m => exact ih h
theorem are_len {its : List Value} {ss : List Str} (r : StrsAre its ss) : its.length = ss.length := by
  induction r with
  | nil => rfl
  | cons _ _ _ ih => rw [List.length_cons, List.length_cons, ih]
theorem mt_indexS : MtR X "list.index" rIndexS := by
  intro pins s σ H x vs v us Q I rx rv h
  obtain ⟨l, ss, k, j, rfl, rfl, hH, hj, hno, q⟩ := h
  cases rx
  obtain ⟨u, rfl, ru⟩ := rv.one
  obtain ⟨t, rfl⟩ := ru
  obtain ⟨z, its, n, r, hl, e⟩ := I.lstM hH
  have sa := strs_are r
  have la := are_len sa
  obtain ⟨hjl, _⟩ := List.getElem?_eq_some_iff.mp hj
  rw [List.length_map, sizeLine_eq] at z
  have at' : ∀ {m : Nat} (hm : m < its.toArray.size) {y : Str}, ss[m]? = some y → isStrOf k its.toArray[m] = (y == k) := fun {m} hm {y} h => by
    obtain ⟨t', e'⟩ := are_at sa h
    have : its.toArray[m] = .str y t' := by
      have h2 : its[m]? = some its[m] := by simp
      rw [h2] at e'
      simpa using Option.some.inj e'
    rw [this]; rfl
  refine call_meets F.slot_list_index ⟨_, e, rfl⟩ F.entry_list_index (F.args_list_index_2 _ _)
    (SeqAt.list_indexAt l its.toArray n _ _ (.str k t) (isStrOf k) j (by rw [List.size_toArray]; omega) (by omega) ?_ ?_) ⟨e, fun y hy => (eq_isStrOf k t sa y (by simpa using hy)).at _ _, ?_⟩
  · rw [at' _ hj]; exact beq_self_eq_true k
  · intro m hm hlt
    obtain ⟨y, hy⟩ : ∃ y, ss[m]? = some y := ⟨_, List.getElem?_eq_getElem (by omega)⟩
    rw [at' hm hy]
    cases eb : y == k with
    | false => rfl
    | true => rw [eq_of_beq eb] at hy; exact absurd hy (hno m hlt)
  · exact ⟨.int (j : Int), H, I.tok _, ⟨_, rfl⟩, q⟩
end
/-! ### a list of new lists, each of one tuple -/
section
end
end Add

namespace Add
open PySem PySem.Spec PyProof.Rows L2
/-! ### for x, y in zip(list, tuple): the steps of zip over any two that are drawn from -/
section
variable {prog : Program} {w : World} {A : Around} {E : Value → Shared → Prop} {s : Shared}
theorem nextOf_tup {it t : Addr} {i : Nat} {items : Array Value} {x : Value} {Q : Value → Shared → Prop} (hi : s.heap.IsTupleIter it t i) (ht : s.heap.IsTuple t items) (hx : items[i]? = some x)
    (hQ : ∀ h', h'.IsTupleIter it t (i + 1) → Heap.SameBut it s.heap h' → Q x { s with heap := h' }) : wpAny (model prog w) A (Builtin.SmallTypes.nextOf (.ref it)) Q E s := by
  obtain ⟨o, ho, hc, hd⟩ := id hi
  obtain ⟨_, hol, _, _, hdl⟩ := ht
  unfold Builtin.SmallTypes.nextOf
  refine wpAny_bind (wpAny_callSpecial?_slot (name := Str.ofString "__next__") hi.typeIs F.slot_tuple_iterator_next (wpAny_call_entry F.slot_tuple_iterator_next hi.typeIs F.entry_tuple_iterator_next ?_ (F.args_tuple_iterator_next_1 _)))
  show wpAny _ _ (field (.ref it) 0 >>= _) _ _ s
  refine wpAny_bind (wpAny_field ho hd (x := .ref t) rfl ?_)
  show wpAny _ _ (if (Value.ref t == Value.none) = true then _ else _) _ _ s
  rw [if_neg (show ¬ ((Value.ref t == Value.none) = true) from Bool.false_ne_true)]
  show wpAny _ _ (field (.ref it) 1 >>= _) _ _ s
  refine wpAny_bind (wpAny_field ho hd (x := .int i 0) rfl ?_)
  show wpAny _ _ (seqItems? (.ref t) >>= _) _ _ s
  refine wpAny_bind (wpAny_seqItems hol hdl ?_)
  simp only [Int.toNat_natCast, hx]
  exact wpAny_bind (wpAny_setField ho hd (by simp) (wpAny_pure ⟨x, rfl, wpAny_pure (hQ _ ⟨_, Heap.get?_update_self _ ho (Obj.isFreed_of_fields (Obj.data_mapFields hd _)), (Obj.cls_mapFields ..).trans hc, by rw [Obj.data_mapFields hd]; simp [rawInt]⟩ (Heap.SameBut.update ..))⟩))
theorem nextOf_tupEnd {it t : Addr} {i : Nat} {items : Array Value} {Q : Value → Shared → Prop} (hh : A.handled = none) (hi : s.heap.IsTupleIter it t i) (ht : s.heap.IsTuple t items) (hx : items[i]? = none)
    (hE : ∀ h' e, Heap.ExtBut it s.heap h' → (∃ o, h'.get? e = some o ∧ o.cls = .type "StopIteration") → E (.ref e) { s with heap := h' }) : wpAny (model prog w) A (Builtin.SmallTypes.nextOf (.ref it)) Q E s := by
  obtain ⟨o, ho, hc, hd⟩ := id hi
  obtain ⟨_, hol, _, _, hdl⟩ := ht
  unfold Builtin.SmallTypes.nextOf
  refine wpAny_bind (wpAny_callSpecial?_slot (name := Str.ofString "__next__") hi.typeIs F.slot_tuple_iterator_next (wpAny_call_entry F.slot_tuple_iterator_next hi.typeIs F.entry_tuple_iterator_next ?_ (F.args_tuple_iterator_next_1 _)))
  show wpAny _ _ (field (.ref it) 0 >>= _) _ _ s
  refine wpAny_bind (wpAny_field ho hd (x := .ref t) rfl ?_)
  show wpAny _ _ (if (Value.ref t == Value.none) = true then _ else _) _ _ s
  rw [if_neg (show ¬ ((Value.ref t == Value.none) = true) from Bool.false_ne_true)]
  show wpAny _ _ (field (.ref it) 1 >>= _) _ _ s
  refine wpAny_bind (wpAny_field ho hd (x := .int i 0) rfl ?_)
  show wpAny _ _ (seqItems? (.ref t) >>= _) _ _ s
  refine wpAny_bind (wpAny_seqItems hol hdl ?_)
  simp only [Int.toNat_natCast, hx]
  refine wpAny_bind (wpAny_rule (wpAny_bind (wpAny_setField ho hd (by simp) ?_)))
  show wpAny _ _ (newExc (.type "StopIteration") [] >>= _) _ _ _
  refine wpAny_bind ?_
  simp only [newExc, newTuple]
  refine wpAny_bind (wpAny_newObj_type (wpAny_bind (m := firstArgMember _ _) (wpAny_of_eq (a := Value.none) (by first | rfl | (simp only [firstArgMember]; rfl)) (wpAny_newObj_type ?_ (by size_fits)))) (by size_fits))
  exact wpAny_raiseNew_none hh (hE _ _ (((Heap.SameBut.update ..).extBut.push _).push _) ⟨_, Heap.get?_push_size _ rfl, rfl⟩)
theorem draws_tup (hh : A.handled = none) (it t : Addr) (ne : t ≠ it) (items : Array Value) : Draws prog w A it [it, t] items.size (fun i v => items[i]? = some v) (fun i h => h.IsTupleIter it t i ∧ h.IsTuple t items) where
  live := fun _ _ st => let ⟨o, ho, _⟩ := st.1; ⟨o, ho⟩
  frame := fun _ _ _ ⟨⟨o, ho, r⟩, ⟨q, hq, r2⟩⟩ hk => ⟨⟨o, hk it (by simp) o ho, r⟩, ⟨q, hk t (by simp) q hq, r2⟩⟩
  item := fun i s Q E hi st hQ => nextOf_tup st.1 st.2 (x := items[i]) (by simp [hi]) fun h' h1 h2 => hQ _ h' s.toks (by simp [hi]) ⟨h1, st.2.extBut h2.extBut ne⟩ h2
  done := fun s Q E st hE => nextOf_tupEnd hh st.1 st.2 (by simp) hE
end
/-- the zip's own objects lie apart from what the two are drawn from -/
structure Zap (z TI TO i1 i2 : Addr) (f1 f2 : List Addr) : Prop where
  tz : TI ≠ z
  oz : TO ≠ z
  to : TI ≠ TO
  m1 : i1 ∈ f1
  m2 : i2 ∈ f2
  z1 : z ∉ f1
  z2 : z ∉ f2
  o1 : TO ∉ f1
  o2 : TO ∉ f2
  t1 : TI ∉ f1
  t2 : TI ∉ f2
  x1 : i1 ∉ f2
  x2 : i2 ∉ f1
noncomputable def ZipSt (z TI TO i1 i2 : Addr) (S1 S2 : Nat → Heap → Prop) (f0 : Value) (k : Nat) (h : Heap) : Prop := IsZip h z TI TO f0 ∧ IsPair h TI (.ref i1) (.ref i2) ∧ (∃ a b, IsPair h TO a b) ∧ S1 k h ∧ S2 k h
section
variable {prog : Program} {w : World} {A : Around} {E : Value → Shared → Prop} {s : Shared} {z TI TO i1 i2 : Addr} {f1 f2 : List Addr} {n n2 k : Nat} {P1 P2 : Nat → Value → Prop} {S1 S2 : Nat → Heap → Prop}
theorem zip_item {Q : Value → Shared → Prop} (D1 : Draws prog w A i1 f1 n P1 S1) (D2 : Draws prog w A i2 f2 n2 P2 S2) (ap : Zap z TI TO i1 i2 f1 f2) (st : ZipSt z TI TO i1 i2 S1 S2 .none k s.heap) (hk : k < n) (hk2 : k < n2)
    (hQ : ∀ h' tk x y, P1 k x → P2 k y → ZipSt z TI TO i1 i2 S1 S2 (rawInt s.heap.objs.size) (k + 1) h' → IsPair h' s.heap.objs.size x y → (∀ c o, c ≠ z → c ≠ TO → c ≠ i1 → c ≠ i2 → s.heap.get? c = some o → h'.get? c = some o) → Q (.ref s.heap.objs.size) { s with heap := h', toks := tk }) :
    wpAny (model prog w) A (Builtin.«zip.__next__» ⟨[.ref z], []⟩) (fun fin s' => ∃ v, fin = .done (.ret v) ∧ Q v s') E s := by
  obtain ⟨hz, hTI, ⟨a, b, hTO⟩, h1, h2⟩ := st
  have n1 : ∀ b ∈ f1, b ≠ z ∧ b ≠ TO ∧ b ≠ i2 := fun b hb => ⟨fun e => ap.z1 (e ▸ hb), fun e => ap.o1 (e ▸ hb), fun e => ap.x2 (e ▸ hb)⟩
  have m2 : ∀ b ∈ f2, b ≠ z ∧ b ≠ TO ∧ b ≠ i1 := fun b hb => ⟨fun e => ap.z2 (e ▸ hb), fun e => ap.o2 (e ▸ hb), fun e => ap.x1 (e ▸ hb)⟩
  have zi1 : z ≠ i1 := fun e => (n1 i1 ap.m1).1 e.symm
  have zi2 : z ≠ i2 := fun e => (m2 i2 ap.m2).1 e.symm
  have oi1 : TO ≠ i1 := fun e => (n1 i1 ap.m1).2.1 e.symm
  have oi2 : TO ≠ i2 := fun e => (m2 i2 ap.m2).2.1 e.symm
  have ti1 : TI ≠ i1 := fun e => ap.t1 (e ▸ ap.m1)
  have ti2 : TI ≠ i2 := fun e => ap.t2 (e ▸ ap.m2)
  show wpAny _ _ (field (.ref z) 2 >>= _) _ _ _
  refine wpAny_bind (wpAny_field hz rfl (x := .bool false) rfl ?_)
  show wpAny _ _ (field (.ref z) 3 >>= _) _ _ _
  refine wpAny_bind (wpAny_field hz rfl (x := .ref TI) rfl (wpAny_bind (wpAny_seqItems hTI rfl ?_)))
  show wpAny _ _ (Builtin.SmallTypes.ownedTupleIsFree (.ref z) >>= _) _ _ _
  refine wpAny_bind ?_
  unfold Builtin.SmallTypes.ownedTupleIsFree
  refine wpAny_bind (wpAny_field hz rfl (x := .none) rfl (wpAny_pure ?_))
  simp only [if_true]
  refine wpAny_bind (wpAny_rule (wpAny_bind (wpAny_field hz rfl (x := .ref TO) rfl (wpAny_bind (wpAny_setField_rec hz (by simp) fun h3 hz3 b3 => wpAny_bind ?_)))))
  have z3 : IsZip h3 z TI TO .ellipsis := hz3
  simp only [List.zipIdx_cons, List.zipIdx_nil, List.forIn_cons, List.forIn_nil]
  refine wpAny_bind (wpAny_bind (wpAny_onRaise (wpAny_bind (D1.item k _ _ _ hk (D1.frame _ _ _ h1 fun b hb o e => b3.extBut b o (n1 b hb).1 e) fun x h4 tk px s4 b4 => wpAny_pure ?_))))
  have o4 : IsPair h4 TO a b := b4.extBut _ _ oi1 (b3.extBut _ _ ap.oz hTO)
  refine wpAny_bind (wpAny_seqItems o4 rfl (wpAny_bind (wpAny_updateSeq_pair o4 fun h5 ho5 b5 => wpAny_bind (wpAny_letGo (wpAny_pure ?_)))))
  have o5 : IsPair h5 TO x b := ho5
  refine wpAny_bind (wpAny_bind (wpAny_onRaise (wpAny_bind (D2.item k _ _ _ hk2 (D2.frame _ _ _ h2 fun b hb o e => b5.extBut b o (m2 b hb).2.1 (b4.extBut b o (m2 b hb).2.2 (b3.extBut b o (m2 b hb).1 e))) fun y h6 tk2 py s6 b6 => wpAny_pure ?_))))
  have o6 : IsPair h6 TO x b := b6.extBut _ _ oi2 o5
  refine wpAny_bind (wpAny_seqItems o6 rfl (wpAny_bind (wpAny_updateSeq_pair o6 fun h7 ho7 b7 => wpAny_bind (wpAny_letGo (wpAny_pure (wpAny_pure ?_))))))
  have o7 : IsPair h7 TO x y := ho7
  have sz : h7.objs.size = s.heap.objs.size := by rw [b7.1, b6.1, b5.1, b4.1, b3.1]
  have kp : ∀ c o, c ≠ z → c ≠ TO → c ≠ i1 → c ≠ i2 → s.heap.get? c = some o → h7.get? c = some o := fun c o c1 c2 c3 c4 e => b7.extBut _ _ c2 (b6.extBut _ _ c4 (b5.extBut _ _ c2 (b4.extBut _ _ c3 (b3.extBut _ _ c1 e))))
  have z7 : IsZip h7 z TI TO .ellipsis := b7.extBut _ _ ap.oz.symm (b6.extBut _ _ zi2 (b5.extBut _ _ ap.oz.symm (b4.extBut _ _ zi1 z3)))
  refine wpAny_bind (wpAny_seqItems o7 rfl (wpAny_bind (wpAny_newTuple (wpAny_bind ?_))))
  unfold Builtin.SmallTypes.ownedTupleHandOut
  refine wpAny_bind (wpAny_setField_rec (Heap.get?_push_of_some _ z7) (by simp) fun h8 hz8 b8 => ?_)
  have z8 : IsZip h8 z TI TO (rawInt h7.objs.size) := hz8
  refine wpAny_setField_rec z8 (by simp) fun h9 hz9 b9 => wpAny_pure ⟨_, rfl, ?_⟩
  have z9 : IsZip h9 z TI TO (rawInt h7.objs.size) := hz9
  have up : ∀ c o, c ≠ z → h7.get? c = some o → h9.get? c = some o := fun c o c1 e => b9.extBut _ _ c1 (b8.extBut _ _ c1 (Heap.get?_push_of_some _ e))
  have zl : z < h7.objs.size := Heap.lt_size z7
  have p9 : IsPair h9 h7.objs.size x y := b9.extBut _ _ (Nat.ne_of_gt zl) (b8.extBut _ _ (Nat.ne_of_gt zl) (Heap.get?_push_size _ rfl))
  show Q (.ref h7.objs.size) _
  rw [sz] at z9 p9 ⊢
  refine hQ h9 _ x y px py ⟨z9, up _ _ ap.tz (kp _ _ ap.tz ap.to ti1 ti2 hTI), ⟨x, y, up _ _ ap.oz o7⟩, ?_, ?_⟩ p9 fun c o c1 c2 c3 c4 e => up c o c1 (kp c o c1 c2 c3 c4 e)
  · exact D1.frame _ _ _ s4 fun b hb o e => up b o (n1 b hb).1 (b7.extBut _ _ (n1 b hb).2.1 (b6.extBut _ _ (n1 b hb).2.2 (b5.extBut _ _ (n1 b hb).2.1 e)))
  · exact D2.frame _ _ _ s6 fun b hb o e => up b o (m2 b hb).1 (b7.extBut _ _ (m2 b hb).2.1 e)
theorem zip_end {Q : Fin → Shared → Prop} (D1 : Draws prog w A i1 f1 n P1 S1) (m1 : i1 ∈ f1) (z1 : z ∉ f1) (st : ZipSt z TI TO i1 i2 S1 S2 .none n s.heap)
    (hE : ∀ h' e, (∀ c o, c ≠ z → c ≠ TO → c ≠ i1 → c ≠ i2 → s.heap.get? c = some o → h'.get? c = some o) → (∃ o, h'.get? e = some o ∧ o.cls = .type "StopIteration") → E (.ref e) { s with heap := h' }) :
    wpAny (model prog w) A (Builtin.«zip.__next__» ⟨[.ref z], []⟩) Q E s := by
  obtain ⟨hz, hTI, ⟨a, b, hTO⟩, h1, h2⟩ := st
  have n1 : ∀ b ∈ f1, b ≠ z := fun b hb e => z1 (e ▸ hb)
  show wpAny _ _ (field (.ref z) 2 >>= _) _ _ _
  refine wpAny_bind (wpAny_field hz rfl (x := .bool false) rfl ?_)
  show wpAny _ _ (field (.ref z) 3 >>= _) _ _ _
  refine wpAny_bind (wpAny_field hz rfl (x := .ref TI) rfl (wpAny_bind (wpAny_seqItems hTI rfl ?_)))
  show wpAny _ _ (Builtin.SmallTypes.ownedTupleIsFree (.ref z) >>= _) _ _ _
  refine wpAny_bind ?_
  unfold Builtin.SmallTypes.ownedTupleIsFree
  refine wpAny_bind (wpAny_field hz rfl (x := .none) rfl (wpAny_pure ?_))
  simp only [if_true]
  refine wpAny_bind (wpAny_rule (wpAny_bind (wpAny_field hz rfl (x := .ref TO) rfl (wpAny_bind (wpAny_setField_rec hz (by simp) fun h3 hz3 b3 => wpAny_bind ?_)))))
  have z3 : IsZip h3 z TI TO .ellipsis := hz3
  simp only [List.zipIdx_cons, List.zipIdx_nil, List.forIn_cons, List.forIn_nil]
  refine wpAny_bind (wpAny_bind (wpAny_onRaise (wpAny_bind (D1.done _ _ _ (D1.frame _ _ _ h1 fun b hb o e => b3.extBut b o (n1 b hb) e) fun h4 e b4 he => ?_))))
  obtain ⟨oe, hoe, hce⟩ := he
  have z4 : IsZip h4 z TI TO .ellipsis := b4 _ _ (fun e => n1 i1 m1 e.symm) z3
  have ez : e ≠ z := fun q => by subst q; rw [z4] at hoe; cases hoe; simp at hce
  exact wpAny_setField_rec z4 (by simp) fun h5 _ b5 => hE h5 e (fun c o c1 _ c3 _ q => b5.extBut _ _ c1 (b4 _ _ c3 (b3.extBut _ _ c1 q))) ⟨oe, b5.extBut _ _ ez hoe, hce⟩
theorem next_zip {Q : Option Value → Shared → Prop} (D1 : Draws prog w A.in1 i1 f1 n P1 S1) (D2 : Draws prog w A.in1 i2 f2 n2 P2 S2) (ap : Zap z TI TO i1 i2 f1 f2) (st : ZipSt z TI TO i1 i2 S1 S2 .none k s.heap) (hk : k < n) (hk2 : k < n2)
    (hQ : ∀ h' tk x y, P1 k x → P2 k y → ZipSt z TI TO i1 i2 S1 S2 (rawInt s.heap.objs.size) (k + 1) h' → IsPair h' s.heap.objs.size x y → (∀ c o, c ≠ z → c ≠ TO → c ≠ i1 → c ≠ i2 → s.heap.get? c = some o → h'.get? c = some o) → Q (some (.ref s.heap.objs.size)) { s with heap := h', toks := tk }) :
    wpAny (model prog w) A (pyNext (.ref z)) Q E s := by
  have hT : s.TypeIs (.ref z) "zip" := ⟨_, st.1, rfl⟩
  unfold pyNext
  exact wpAny_bind (wpAny_attempt (wpAny_callSpecial?_slot (name := Str.ofString "__next__") hT F.slot_zip_next (wpAny_call_entry F.slot_zip_next hT F.entry_zip_next (zip_item D1 D2 ap st hk hk2 fun h' tk x y a1 a2 a3 a4 a5 => wpAny_pure (hQ h' tk x y a1 a2 a3 a4 a5)) (F.args_zip_next_1 _))))
theorem next_zipEnd {Q : Option Value → Shared → Prop} (D1 : Draws prog w A.in1 i1 f1 n P1 S1) (m1 : i1 ∈ f1) (z1 : z ∉ f1) (st : ZipSt z TI TO i1 i2 S1 S2 .none n s.heap)
    (hQ : ∀ h', (∀ c o, c ≠ z → c ≠ TO → c ≠ i1 → c ≠ i2 → s.heap.get? c = some o → h'.get? c = some o) → Q none { s with heap := h' }) : wpAny (model prog w) A (pyNext (.ref z)) Q E s := by
  have hT : s.TypeIs (.ref z) "zip" := ⟨_, st.1, rfl⟩
  unfold pyNext
  refine wpAny_bind (wpAny_attempt (wpAny_callSpecial?_slot (name := Str.ofString "__next__") hT F.slot_zip_next (wpAny_call_entry F.slot_zip_next hT F.entry_zip_next (zip_end D1 m1 z1 st fun h' e kp he => ?_) (F.args_zip_next_1 _))))
  obtain ⟨o, ho, hc⟩ := he
  exact wpAny_bind (wpAny_isInstance (T := "StopIteration") (b := true) ⟨o, ho, hc⟩ isSubtype_stop (wpAny_pure (hQ _ kp)))
end
/-- some of the iterator's own objects have turned -/
theorem turnedL {X : Cx} {pins : List (Addr × Obj)} {σ : L2.St} {H : Hp} {s : Shared} {h' : Heap} {t' : Nat} {ch : List Addr} (I : Inv X pins σ H s) (k : ∀ b o, b ∉ ch → s.heap.get? b = some o → h'.get? b = some o) (f : ∀ b ∈ ch, FpOk X pins H b) : Inv X pins σ H { s with heap := h', toks := t' } := by
  refine I.step (g' := s.gens) (d' := s.drawn) (ch := ch) (fun b hb => ⟨(f b hb).2.2.2.1, (f b hb).2.1, (f b hb).2.2.2.2.1, (f b hb).2.2.2.2.2⟩) (fun b o _ _ hc q _ => k b o hc q) (fun b o _ _ hc q _ => ⟨o.slots, k b o hc q⟩) (fun _ _ _ _ n => n)
    (fun b o hc q => ⟨o, k b o hc q⟩) (fun _ _ q => q) (fun _ _ _ q => q) (fun b ps q => ⟨#[], by rw [q]; simp⟩) (fun m hm => ?_) (fun b u q => ?_) I.bare
  · obtain ⟨o, es, ep, ho, r⟩ := hm
    exact ⟨o, es, ep, k _ o (fun z => (f _ z).2.1 rfl) ho, r⟩
  · refine (I.hok b u q).stay (fun c v hc z => k c v (fun m => ?_) z) (fun _ z => z) fun _ _ z => z
    rcases hc with rfl | hc
    · rw [(f _ m).1] at q; cases q
    · rw [(f c m).1] at hc; cases hc
theorem fp_neT {X : Cx} {pins : List (Addr × Obj)} {σ : L2.St} {H : Hp} {s : Shared} {a b : Addr} {xs : List V} (I : Inv X pins σ H s) (f : FpOk X pins H b) (h : SqT X.K H a xs) : a ≠ b := fun e => by
  subst e
  rcases h with h | ⟨o, its, n, hk, _⟩
  · have := f.1
    rcases h with h | ⟨u, h⟩ <;> (rw [this] at h; cases h)
  · have hb := I.ok.mod.kin a o hk
    rcases f.2.2.2.1 with z | z
    · exact I.ok.noex a o hb z
    · exact absurd (Nat.lt_of_lt_of_le (Heap.lt_size hb) (Nat.le_trans I.ok.bsz z)) (Nat.lt_irrefl _)
noncomputable def Itz (K : PySem.W.Frag) (a b : Addr) : It :=
  ⟨fun i H => ∃ xs ys, SqL K H a xs ∧ SqT K H b ys ∧ xs.length = ys.length ∧ i < xs.length,
   fun i H x H' => ∀ xs ys, SqL K H a xs → SqT K H b ys → ∃ y1 y2 t, xs[i]? = some y1 ∧ ys[i]? = some y2 ∧ H t = none ∧ x = .ref t ∧ H' = upd H t (.tup [y1, y2]),
   fun i H => ∃ xs, SqL K H a xs ∧ xs.length = i⟩
theorem fp_upd' {X : Cx} {pins : List (Addr × Obj)} {H : Hp} {b t : Addr} {o : HO} (f : FpOk X pins H b) (ne : b ≠ t) : FpOk X pins (L2.upd H t o) b := ⟨by rw [upd_ne ne]; exact f.1, f.2⟩
theorem turn_zip {P : Program} {w : World} {K : PySem.W.Frag} {es : List Expr} {kk pos} (l t z TI TO i1 i2 : Addr) (nd : [z, TI, TO, i1, i2].Nodup) :
    Turn P w K (.Tuple es kk pos) (Itz K l t) [z, TI, TO, i1, i2] z (fun i h => IsZip h z TI TO .none ∧ IsPair h TI (.ref i1) (.ref i2) ∧ (∃ a b, IsPair h TO a b) ∧ h.IsListIter i1 l i ∧ h.IsTupleIter i2 t i) where
  mem := by simp
  obj := fun i h st b hb => by
    obtain ⟨h1, h2, ⟨_, _, h3⟩, ⟨o4, h4, _, d4⟩, ⟨o5, h5, _, d5⟩⟩ := st
    simp only [List.mem_cons, List.not_mem_nil, or_false] at hb
    rcases hb with rfl | rfl | rfl | rfl | rfl
    · exact ⟨_, h1, fun v z => by cases z⟩
    · exact ⟨_, h2, fun v z => by cases z⟩
    · exact ⟨_, h3, fun v z => by cases z⟩
    · exact ⟨o4, h4, fun v z => by rw [d4] at z; cases z⟩
    · exact ⟨o5, h5, fun v z => by rw [d5] at z; cases z⟩
  keep := fun i h h' st k => by
    obtain ⟨h1, h2, ⟨a, b, h3⟩, ⟨o4, h4, r4⟩, ⟨o5, h5, r5⟩⟩ := st
    exact ⟨k z (by simp) _ h1, k TI (by simp) _ h2, ⟨a, b, k TO (by simp) _ h3⟩, ⟨o4, k i1 (by simp) _ h4, r4⟩, ⟨o5, k i2 (by simp) _ h5, r5⟩⟩
  item := by
    intro X hP hw hK hc i pins s σ H E I hf st hg
    subst hP hw hK
    obtain ⟨hz, hTI, hTO, h1, h2⟩ := st
    obtain ⟨xs, ys, hq, ht, hl, hi⟩ := hg
    obtain ⟨its, rv, p, _⟩ := I.list hq
    obtain ⟨jts, rw', p2, _⟩ := I.tuple ht
    have l1 := rv.length
    have l2 := rw'.length
    have hh : X.A.in1.handled = none := I.ok.hd hc
    have nl : l ≠ i1 := fun e => by
      obtain ⟨o, g, c, _⟩ := h1
      obtain ⟨o', g', c', _⟩ := p.isList
      rw [e, g] at g'; cases g'; rw [c] at c'; simp at c'
    have nlz : l ∉ [z, TI, TO, i1, i2] := fun e => by
      obtain ⟨o', g', c', _⟩ := p.isList
      simp only [List.mem_cons, List.not_mem_nil, or_false] at e
      rcases e with e | e | e | e | e
      · rw [e, hz] at g'; cases g'; simp at c'
      · rw [e, hTI] at g'; cases g'; simp at c'
      · obtain ⟨_, _, h3⟩ := hTO
        rw [e, h3] at g'; cases g'; simp at c'
      · exact nl e
      · obtain ⟨o, g, c, _⟩ := h2
        rw [e, g] at g'; cases g'; rw [c] at c'; simp at c'
    have ntz : t ∉ [z, TI, TO, i1, i2] := fun e => fp_neT I (hf t e) ht rfl
    simp only [List.nodup_cons, List.mem_cons, List.not_mem_nil, or_false, not_or] at nd nlz ntz
    obtain ⟨⟨a1, a2, a3, a4⟩, ⟨a5, a6, a7⟩, ⟨a8, a9⟩, a10, _⟩ := nd
    obtain ⟨c1, c2, c3, c4, c5⟩ := nlz
    obtain ⟨d1, d2, d3, d4, d5⟩ := ntz
    have ap : Zap z TI TO i1 i2 [i1, l] [i2, t] := by
      constructor <;> simp only [List.mem_cons, List.not_mem_nil, or_false, not_or, ne_eq] <;> first | exact .inl rfl | exact .inl trivial | (refine ⟨?_, ?_⟩ <;> (intro e; first | exact a1 e | exact a2 e | exact a3 e | exact a4 e | exact a5 e | exact a6 e | exact a7 e | exact a8 e | exact a9 e | exact a10 e | exact a10 e.symm | exact c1 e.symm | exact c2 e.symm | exact c3 e.symm | exact c5 e.symm | exact d1 e.symm | exact d2 e.symm | exact d3 e.symm | exact d4 e.symm)) | (intro e; first | exact a1 e.symm | exact a2 e.symm | exact a5 e)
    refine next_zip (Draws.list hh i1 l nl its.toArray) (draws_tup hh i2 t d5 jts.toArray) ap ⟨hz, hTI, hTO, ⟨h1, p.isList⟩, ⟨h2, p2⟩⟩ (k := i) (by simp; omega) (by simp; omega) fun h' tk u v px py st' hp kp => ⟨_, rfl, ?_⟩
    refine wpAny_letOwnedTupleGo_zip st'.1 fun h3 hz3 sb => ?_
    replace sb : Heap.SameBut z h' h3 := sb
    obtain ⟨x, hx⟩ : ∃ x, xs[i]? = some x := ⟨_, List.getElem?_eq_getElem hi⟩
    obtain ⟨y, hy⟩ : ∃ y, ys[i]? = some y := ⟨_, List.getElem?_eq_getElem (by omega)⟩
    obtain ⟨u', hu, ru⟩ := rv.get hx
    obtain ⟨v', hv, rv'⟩ := rw'.get hy
    obtain rfl : u = u' := by
      have px : its.toArray[i]? = some u := px
      simp only [List.getElem?_toArray] at px
      rw [hu] at px; exact (Option.some.inj px).symm
    obtain rfl : v = v' := by
      have py : jts.toArray[i]? = some v := py
      simp only [List.getElem?_toArray] at py
      rw [hv] at py; exact (Option.some.inj py).symm
    have lt : ∀ b ∈ [z, TI, TO, i1, i2], b < s.heap.objs.size := fun b hb => by
      obtain ⟨_, _, h3⟩ := hTO
      obtain ⟨_, g1, _⟩ := h1
      obtain ⟨_, g2, _⟩ := h2
      simp only [List.mem_cons, List.not_mem_nil, or_false] at hb
      rcases hb with rfl | rfl | rfl | rfl | rfl
      · exact Heap.lt_size hz
      · exact Heap.lt_size hTI
      · exact Heap.lt_size h3
      · exact Heap.lt_size g1
      · exact Heap.lt_size g2
    have zl : z < s.heap.objs.size := Heap.lt_size hz
    have hp3 : IsPair h3 s.heap.objs.size u v := (sb.2 _ (Nat.ne_of_gt zl)).trans hp
    have hfr : H s.heap.objs.size = none := I.hok.fresh (Nat.le_refl _)
    have I1 := I.laid (a := s.heap.objs.size) (o := .tup [x, y]) (h' := s.heap.push { cls := .type "tuple", data := .seq #[u, v] }) (t' := s.toks) (fun b o q => Heap.get?_push_of_some _ q) (Nat.le_refl _) ⟨show 2 ≤ sizeLine by rw [sizeLine_eq]; decide, [u, v], .cons ru (.cons rv' .nil), ⟨_, Heap.get?_push_size _ rfl, rfl, _, rfl⟩⟩
    have I2 := turnedL (ch := [z, TI, TO, i1, i2]) (h' := h3) (t' := tk) I1 (fun b o n q => by
      simp only [List.mem_cons, List.not_mem_nil, or_false, not_or] at n
      by_cases e : b = s.heap.objs.size
      · subst e
        rw [Heap.get?_push_size _ rfl] at q
        cases q
        exact hp3
      · rw [Heap.get?_push_ne _ _ _ e] at q
        exact (sb.2 b n.1).trans (kp b o n.1 n.2.2.1 n.2.2.2.1 n.2.2.2.2 q)) (fun b hb => fp_upd' (hf b hb) (Nat.ne_of_lt (lt b hb)))
    obtain ⟨_, s2, ⟨a', b', s3⟩, ⟨s4, _⟩, ⟨s5, _⟩⟩ := st'
    refine ⟨.ref s.heap.objs.size, _, I2, rfl, fun xs' ys' hx' hy' => ?_, ⟨hz3, (sb.2 _ (Ne.symm a1)).trans s2, ⟨a', b', (sb.2 _ (Ne.symm a2)).trans s3⟩, s4.at fun o q => (sb.2 _ (Ne.symm a3)).trans q, ?_⟩, fun b hb => ?_⟩
    · rw [I.list_inj hx' hq, I.tuple_inj hy' ht]
      exact ⟨x, y, _, hx, hy, hfr, rfl, rfl⟩
    · obtain ⟨o5, g5, r5⟩ := s5
      exact ⟨o5, (sb.2 _ (Ne.symm a4)).trans g5, r5⟩
    · rw [upd_ne (Nat.ne_of_lt (lt b hb))]; exact (hf b hb).1
  done := by
    intro X hP hw hK hc i pins s σ H E I hf st hg
    subst hP hw hK
    obtain ⟨hz, hTI, hTO, h1, h2⟩ := st
    obtain ⟨xs, hq, hi⟩ := hg
    obtain ⟨its, rv, p, _⟩ := I.list hq
    have l1 := rv.length
    have hh : X.A.in1.handled = none := I.ok.hd hc
    have nl : l ≠ i1 := fun e => by
      obtain ⟨o, g, c, _⟩ := h1
      obtain ⟨o', g', c', _⟩ := p.isList
      rw [e, g] at g'; cases g'; rw [c] at c'; simp at c'
    have ei : i = its.toArray.size := by simp; omega
    subst ei
    have nz : z ∉ [i1, l] := fun e => by
      rcases List.mem_cons.mp e with e | e
      · obtain ⟨o, g, c, _⟩ := h1
        rw [← e, hz] at g; cases g; simp at c
      · obtain ⟨o', g', c', _⟩ := p.isList
        rw [← List.mem_singleton.mp e, hz] at g'; cases g'; simp at c'
    refine next_zipEnd (S2 := fun k h => h.IsTupleIter i2 t k) (Draws.list hh i1 l nl its.toArray) (by simp) nz ⟨hz, hTI, hTO, ⟨h1, p.isList⟩, h2⟩ fun h' kp => ⟨rfl, turnedL (ch := [z, TI, TO, i1, i2]) (t' := s.toks) I (fun b o n q => ?_) hf⟩
    simp only [List.mem_cons, List.not_mem_nil, or_false, not_or] at n
    exact kp b o n.1 n.2.2.1 n.2.2.2.1 n.2.2.2.2 q
  self := fun A i s Q E st h => wpAny_pyIter_zip st.1 h
section
noncomputable abbrev zl1 (h : Heap) (l : Addr) : Heap := h.push { cls := .type "list_iterator", data := .fields #[.ref l, .int 0 0] }
noncomputable abbrev zl2 (h : Heap) (l t : Addr) : Heap := (zl1 h l).push { cls := .type "tuple_iterator", data := .fields #[.ref t, .int 0 0] }
noncomputable abbrev zl3 (h : Heap) (l t : Addr) : Heap := (zl2 h l t).push { cls := .type "tuple", data := .seq #[.ref h.objs.size, .ref (zl1 h l).objs.size] }
noncomputable abbrev zl4 (h : Heap) (l t : Addr) : Heap := (zl3 h l t).push { cls := .type "tuple", data := .seq #[.none, .none] }
noncomputable abbrev zl5 (h : Heap) (l t : Addr) : Heap := (zl4 h l t).push { cls := .type "zip", data := .fields #[.none, .bool false, .bool false, .ref (zl2 h l t).objs.size, .ref (zl3 h l t).objs.size] }
theorem zip_made (l t : Addr) (xs ys : Array Value) : Meets (Builtin.«zip.__new__» ⟨[.type "zip", .ref l, .ref t], []⟩) (fun _ R s => s.heap.IsList l xs ∧ s.heap.IsTuple t ys ∧ R (.ok (.ret (.ref (zl4 s.heap l t).objs.size))) { s with heap := zl5 s.heap l t }) :=
  .of_wp fun prog w A R s h => by
    obtain ⟨hp, g, d, tk, os⟩ := s
    obtain ⟨h1, h2, h⟩ := h
    have hsub := sub_zip
    have hL1 : Heap.IsList (Shared.heap ⟨hp, g, d, tk, os⟩) l xs := h1
    have hL2 : Heap.IsTuple (Shared.heap ⟨zl1 hp l, g, d, tk, os⟩) t ys := Heap.IsTuple.push h2 _
    wp_walk using wpAny_pyIter_list hL1, wpAny_pyIter_tuple hL2
    exact ⟨_, rfl, h⟩
theorem call_zipT {prog : Program} {w : World} {A : Around} {E : Value → Shared → Prop} {s : Shared} {l t : Addr} {xs ys : Array Value} {Q : Value → Shared → Prop} (h1 : s.heap.IsList l xs) (h2 : s.heap.IsTuple t ys)
    (h : ∀ h', IsZip h' (s.heap.objs.size + 4) (s.heap.objs.size + 2) (s.heap.objs.size + 3) .none → IsPair h' (s.heap.objs.size + 2) (.ref s.heap.objs.size) (.ref (s.heap.objs.size + 1)) → IsPair h' (s.heap.objs.size + 3) .none .none →
      h'.IsListIter s.heap.objs.size l 0 → h'.IsTupleIter (s.heap.objs.size + 1) t 0 → (∀ c o, s.heap.get? c = some o → h'.get? c = some o) → Q (.ref (s.heap.objs.size + 4)) { s with heap := h' }) : wpAny (model prog w) A (call (.type "zip") [.ref l, .ref t]) Q E s := by
  refine callType_new F.called_zip (by decide) (F.typeCall_zip_2 _ _) (F.newCall_zip_2 _ _) (fun obj => F.args_object_init_3 obj _ _) F.entry_zip_new (zip_made l t xs ys) ⟨h1, h2, ?_⟩
  have y1 : (zl1 s.heap l).objs.size = s.heap.objs.size + 1 := Heap.size_push ..
  have y2 : (zl2 s.heap l t).objs.size = s.heap.objs.size + 2 := by rw [Heap.size_push, y1]
  have y3 : (zl3 s.heap l t).objs.size = s.heap.objs.size + 3 := by rw [Heap.size_push, y2]
  have y4 : (zl4 s.heap l t).objs.size = s.heap.objs.size + 4 := by rw [Heap.size_push, y3]
  have up : ∀ {h : Heap} {c : Addr} {o o' : Obj}, h.get? c = some o → (h.push o').get? c = some o := fun e => Heap.get?_push_of_some _ e
  have g5 : (zl5 s.heap l t).get? (zl4 s.heap l t).objs.size = some _ := Heap.get?_push_size _ rfl
  have g4 : (zl5 s.heap l t).get? (zl3 s.heap l t).objs.size = some _ := up (Heap.get?_push_size _ rfl)
  have g3 : (zl5 s.heap l t).get? (zl2 s.heap l t).objs.size = some _ := up (up (Heap.get?_push_size _ rfl))
  have g2 : (zl5 s.heap l t).get? (zl1 s.heap l).objs.size = some _ := up (up (up (Heap.get?_push_size _ rfl)))
  have g1 : (zl5 s.heap l t).get? s.heap.objs.size = some _ := up (up (up (up (Heap.get?_push_size _ rfl))))
  rw [y2, y3, y4] at g5
  rw [y1, y2] at g3
  rw [y3] at g4
  rw [y1] at g2
  show _ ∧ _
  rw [y4]
  exact ⟨⟨_, g5, rfl⟩, h _ g5 g3 g4 ⟨_, g1, rfl, rfl⟩ ⟨_, g2, rfl, rfl⟩ fun c o e => up (up (up (up (up e))))⟩
end
noncomputable def iZip (K : PySem.W.Frag) (ta : TA) : TI := fun σ H R => ta σ H fun vs H1 => ∃ a b xs ys, vs = [.ref a, .ref b] ∧ H1 a = some (.lst xs) ∧ SqT K H1 b ys ∧ R (Itz K a b) H1
theorem boot_zip' : bootBuiltins "zip" = some (.type "zip") := by decide +kernel
theorem pi_zip {X : Cx} {es : List Expr} {kk : _} {pos' : Pos} {a b : Expr} {ta : TA} {p pos : Pos} (hg : Gl X "zip") (hm : X.mg "zip" = none) (ha : PA X [a, b] ta) (hs : starEach [a, b] X.env = (false, eval a X.env) :: starEach [b] X.env := by rfl) (hb : (backTo pos (starEach [b] X.env)).any (·.1) = false := by rfl) : PI X (.Tuple es kk pos') (.Call (.Name "zip" p) [a, b] [] pos) (iZip X.K ta) := by
  intro pins s σ H R I h
  refine Call_ (ld_blt I hg hm boot_zip' (PyProof.Rows.callWith_type1 (thn (ha pos pins s σ H _ I h) fun us s1 ⟨vs, H1, I1, r1, q1⟩ => ?_) hs hb))
  obtain ⟨l, t, xs, ys, e, hl, ht, q⟩ := q1
  subst e
  obtain ⟨u, v, rfl, hu, hv⟩ := Vals.two r1
  cases rel_ref hu
  cases rel_ref hv
  obtain ⟨z, its, n, rv, hz, e⟩ := I1.lstM hl
  obtain ⟨jts, _, p2, _⟩ := I1.tuple ht
  refine call_zipT ⟨_, e, rfl, n, rfl⟩ p2 fun h' a1 a2 a3 a4 a5 keep => wpAny_pyIter_zip a1 ?_
  have I2 : Inv X pins σ H1 { s1 with heap := h' } := I1.kept (t' := s1.toks) keep
  refine ⟨s1.heap.objs.size + 4, [s1.heap.objs.size + 4, s1.heap.objs.size + 2, s1.heap.objs.size + 3, s1.heap.objs.size, s1.heap.objs.size + 1], _, _, H1, rfl, I2, turn_zip l t _ _ _ _ _ (by simp), ⟨a1, a2, ⟨_, _, a3⟩, a4, a5⟩, fun b hb => ?_, q⟩
  have lb : s1.heap.objs.size ≤ b := by
    simp only [List.mem_cons, List.not_mem_nil, or_false] at hb
    rcases hb with rfl | rfl | rfl | rfl | rfl <;> first | exact Nat.le_add_right _ _ | exact Nat.le_refl _
  exact I1.fpOk lb (I1.hok.fresh lb)
end Add

namespace Add
open PySem PySem.Spec PyProof.Rows L2
/-! ### list(dict.values()); how often a text stands in a list -/
section
variable {X : Cx}
theorem vals_kv {kvs : List (Key × V)} {vs : List (Key × Value)} (h : KV kvs vs) : Vals (kvs.map (·.2)) (vs.map (·.2)) := by
  induction h with
  | nil => exact .nil
  | cons r _ ih => exact .cons r.2 ih
noncomputable def tLV (te : TE) : TE := fun σ H Q => te σ H fun x H1 => ∃ (d : Addr) (kvs : List (Key × V)), x = .ref d ∧ H1 d = some (.dK kvs) ∧ ∀ q, H1 q = none → Q (.ref q) (upd H1 q (.lst (kvs.map (·.2))))
theorem pe_listVals {e : Expr} {te : TE} {p apos cpos pos : Pos} (hca : X.calm = true) (hgl : Gl X "list") (hml : X.mg "list" = none) (hbl : bootBuiltins "list" = some (.type "list")) (he : PE X e te)
    (hbase : attributeBase e "values" X.env (eval e X.env) = eval e X.env := by rfl) (hline : (apos.endLine == cpos.line) = true := by rfl) : PE X (.Call (.Name "list" p) [.Call (.Attribute e "values" apos) [] [] cpos] [] pos) (tLV te) := by
  intro pins s σ H Q I h
  refine wpAny_Call_Name_kw (ld_blt I hgl hml hbl ?_)
  refine PyProof.Rows.callWith_type1 ?_ rfl rfl
  show wpAny _ _ (spliced ((false, eval (.Call (.Attribute e "values" apos) [] [] cpos) X.env) :: [])) _ _ s
  refine Calls.spliced_cons ?_
  refine wpAny_Call_method0_late hbase hline (thn (he pins s σ H _ I h) fun v s1 ⟨x, H1, I1, r1, q1⟩ => ?_)
  obtain ⟨d, kvs, rfl, hd, q⟩ := q1
  cases r1
  obtain ⟨z, lo, vs, kv, hD⟩ := dk_of I1.hok hd
  refine ⟨"dict", "dict.values", PySem.F.plainAttrs_dict, PySem.F.slot_dict_values, PySem.F.type_dict_values, hD.typeIs, ?_, Calls.callWith_builtin rfl (PySem.evalArgs_none ?_)⟩
  · exact hD.mapOf.noDict
  refine call_meetsIn PySem.F.slot_dict_values hD.typeIs PySem.F.entry_dict_values (PySem.F.args_dict_values_1 _) (meets_dict_values (mixKind X.prog X.w) d lo) ⟨⟨vs, hD⟩, ?_⟩
  refine Calls.spliced_nil ?_
  obtain ⟨ep, hat⟩ := hD.dictAt
  have I2 : Inv X pins σ H1 { s1 with heap := s1.heap.push { cls := .type "dict_values", data := .fields #[.ref d] } } := I1.kept (t' := s1.toks) fun b o q => Heap.get?_push_of_some _ q
  refine PySem.W.kdl_call (PySem.W.kdl_values (knd := mixKind X.prog X.w) (kvs := vs) (ep := ep)) (I.ok.hd hca) ⟨⟨_, Heap.get?_push_size _ rfl, rfl, rfl⟩, hat.push _⟩ (by rw [← kv.length]; exact z) fun h' tk acc c kp e ia => ?_
  have ea : acc.toList = vs.map (·.2) := List.ext_getElem? fun j => by
    rw [List.getElem?_map]
    by_cases hj : j < vs.length
    · have hja : j < acc.size := by rw [ia.1]; exact hj
      have g : acc[j]? = some acc[j] := Array.getElem?_eq_getElem hja
      obtain ⟨k, hk⟩ := ia.2 j _ g
      rw [Array.getElem?_toList, g, hk]; rfl
    · rw [List.getElem?_eq_none (by rw [Array.length_toList, ia.1]; omega), List.getElem?_eq_none (by omega)]; rfl
  have rv : Vals (kvs.map (·.2)) acc.toList := by rw [ea]; exact vals_kv kv
  exact ⟨.ref (s1.heap.push { cls := .type "dict_values", data := .fields #[.ref d] }).objs.size, _, I2.laid (t' := tk) kp (Nat.le_refl _) (show ObjOk X.prog X.w _ h' _ (.lst (kvs.map (·.2))) from ⟨by rw [List.length_map]; exact z, acc.toList, c, rv, by simpa using e⟩), rfl, q _ (I2.hok.fresh (Nat.le_refl _))⟩
noncomputable def rCountS : V → List V → Hp → VK → Prop := fun x vs H Q => ∃ (l : Addr) (ss : List Str) (k : Str), x = .ref l ∧ vs = [.str k] ∧ H l = some (.lst (ss.map V.str)) ∧ Q (.int (ss.count k : Nat)) H
theorem count_in (k : Str) : ∀ ys : List Str, countIn (.str k) (ys.map PyData.str) = ((ys.count k : Nat) : Int)
  | [] => rfl
  | y :: ys => by
    have ih := count_in k ys
    show (if same (.str y) (.str k) then 1 else 0) + countIn (.str k) (ys.map PyData.str) = _
    rw [ih, List.count_cons]
    have e : same (.str y) (.str k) = (y == k) := rfl
    rw [e]
    cases y == k
    · simp
    · simp; omega
theorem mt_countS : MtR X "list.count" rCountS := by
  intro pins s σ H x vs v us Q I rx rv h
  obtain ⟨l, ss, k, rfl, rfl, hH, q⟩ := h
  cases rx
  obtain ⟨u, rfl, ru⟩ := rv.one
  obtain ⟨t, rfl⟩ := ru
  obtain ⟨z, its, n, r, hl, e⟩ := I.lstM hH
  refine count_list_strs (vs := its) ⟨_, e, rfl, n, rfl⟩ (strs_are r) ?_
  exact ⟨.int (ss.count k : Nat), H, I.tok _, ⟨_, by rw [count_in]⟩, q⟩
end
end Add

namespace Add
open PySem PySem.Spec PyProof.Rows L2
/-! ### except (C, D, ..): a clause of several classes of which none is the error's -/
theorem forIn_ok {M : Model} {A : Around} {E : Value → Shared → Prop} {s : Shared} {β : Type} {f : Value → β → Sem (ForInStep β)} {b : β} : ∀ {cs : List Value}, (∀ c ∈ cs, ∀ Q : ForInStep β → Shared → Prop, Q (.yield b) s → wpAny M A (f c b) Q E s) → ∀ {Q : β → Shared → Prop}, Q b s → wpAny M A (forIn cs b f) Q E s
  | [], _, _, h => by rw [List.forIn_nil]; exact wpAny_pure h
  | c :: cs, hf, Q, h => by
    rw [List.forIn_cons]
    exact wpAny_bind (hf c List.mem_cons_self _ (forIn_ok (fun d hd => hf d (List.mem_cons_of_mem _ hd)) h))
theorem exm_no {M : Model} {K : PySem.W.Frag} {cls : Value} {tp e : Addr} {h : Heap} {cs : List Value} (X : K.In h) (LT : PySem.W.Looks M h (typeOf (.ref e)) cls) (hp : h.get? tp = some { cls := .type "tuple", data := .seq cs.toArray }) (hx : ∀ c ∈ cs, PySem.W.exmOne K cls c = some false) :
    PySem.W.Looks M h (excMatches (.ref e) (.ref tp)) false := by
  intro A Q E s k₀ q
  obtain ⟨hh, g, d, tk, os⟩ := s
  have k : ∀ b o, h.get? b = some o → hh.get? b = some o := k₀
  have LT0 : PySem.W.Looks M h (isInstance (.ref tp) (.type "tuple")) true := ((PySem.W.Looks.ld hp).andThen .now).andThen (PySem.W.Looks.of_pure isSubtype_tuple_tuple)
  have LT := LT.keeps k
  have LT0 := LT0.keeps k
  have hp' := k _ _ hp
  unfold excMatches
  refine wpAny_bind (LT0.at ?_)
  dsimp only
  rw [if_pos rfl]
  first
    | refine wpAny_bind (wpAny_seqItems hp' rfl ?_)
    | refine wpAny_bind (wpAny_bind (wpAny_seqItems hp' rfl (wpAny_pure ?_)))
  dsimp only [Option.getD_some, Option.getD]
  refine wpAny_bind (wpAny_pure (wpAny_bind (forIn_ok (fun c hc Q hq => ?_) ?_)))
  · obtain ⟨e1, _⟩ := PySem.W.exm_cls (M := M) X (hx c (by simpa using hc))
    refine wpAny_bind ((e1.keeps k).at ?_)
    simp only [Bool.not_true, Bool.false_eq_true, if_false]
    exact wpAny_pure hq
  · refine wpAny_bind (LT.at (wpAny_bind (forIn_ok (fun c hc Q hq => ?_) ?_)))
    · obtain ⟨_, S1⟩ := PySem.W.exm_cls (M := M) X (hx c (by simpa using hc))
      refine wpAny_bind ((S1.keeps k).at ?_)
      simp only [Bool.false_eq_true, if_false]
      exact wpAny_pure hq
    · exact wpAny_pure q
noncomputable def PCs (X : Cx) (es : List Expr) (us : List Value) : Prop := ∀ (e : Value) (E : Value → Shared → Prop) (pos : Pos) (pins : List (Addr × Obj)) (s : Shared) (σ : L2.St) (H : Hp) (Q : List Value → Shared → Prop), Inv X pins σ H s → Q us s →
  wpAny (model X.prog X.w) (X.A.mark (some e)) (spliced (backTo pos (starEach es X.env))) Q E s
section
variable {X : Cx} {t : Expr} {es : List Expr} {c : Value} {us : List Value} {rest : List ExceptHandler} {tr : TH} {body : List Stmt} {pos pos' : Pos}
theorem pcs_nil : PCs X [] [] := fun _ _ _ _ _ _ _ _ _ h => Calls.spliced_nil h
theorem pcs_cons (hc : PC X t c) (hr : PCs X es us) (hs : starEach (t :: es) X.env = (false, eval t X.env) :: starEach es X.env := by rfl) : PCs X (t :: es) (c :: us) := by
  intro e E pos pins s σ H Q I h
  rw [hs]
  show wpAny _ _ (spliced ((false, eval t X.env) :: backTo pos (starEach es X.env))) _ _ s
  exact Calls.spliced_cons (hc e E pins s σ H _ I (hr e E pos pins s σ H _ I h))
noncomputable def hNo (K : PySem.W.Frag) (cs : List Value) (rest : TH) : TH := fun D σ x C od H => (cs.length ≤ sizeLine ∧ ∀ c ∈ cs, PySem.W.exmOne K (.ref C) c = some false) ∧ rest D σ x C od H
theorem ph_no {x1} (hc : PCs X es us) (hr : PH X rest tr) : PH X (.ExceptHandler (some (.Tuple es x1 pos')) none body pos :: rest) (hNo X.K us tr) := by
  intro pins s σ H D x C od I fl has h
  obtain ⟨⟨hz, hx⟩, h⟩ := h
  refine wpAny_handleBy_cons (codeAny_handlers_test (wpAny_Tuple_spliced (hc (.ref x) _ pos' pins s σ H _ I ⟨hz, ?_⟩))) (by intro q; cases q)
  have I2 : Inv X pins σ H { s with heap := s.heap.push { cls := .type "tuple", data := .seq us.toArray } } := I.kept (t' := s.toks) fun b o q => Heap.get?_push_of_some _ q
  have fl2 : FlyT X pins H (s.heap.push { cls := .type "tuple", data := .seq us.toArray }) x C od := by
    obtain ⟨e, vs, sl, T, oT, ts, h1, h2, h3, h4, h5, h6⟩ := fl
    exact ⟨e, vs, sl, T, oT, ts, Heap.get?_push_of_some _ h1, h2, Heap.get?_push_of_some _ h3, h4, h5, h6⟩
  refine (exm_no I2.kIn (fly_ty fl2) (Heap.get?_push_size _ rfl) hx).here ?_
  exact hr pins _ σ H D x C od I2 fl2 has h
end
end Add

namespace Add
open PySem PySem.Spec PyProof.Rows L2
/-! ### [f x y for x, y in zip(list, tuple)] -/
theorem comp_zip {K : PySem.W.Frag} {js : List (Option Nat)} {g : TG} {te : TE} {σ : L2.St} {H : Hp} {Q : VK} {a b : Addr} {xs ys : List V} (zs : List V) (Sv : L2.St → Prop) (hx : SqL K H a xs) (hy : SqT K H b ys) (le : xs.length = ys.length) (lz : zs.length = xs.length) (hz : xs.length ≤ sizeLine) (h0 : Sv (compSt js σ))
    (step : ∀ (i : Nat) (x y z : V) (t : Addr) (σ' : L2.St) (H' : Hp) (R : L2.St → VK), xs[i]? = some x → ys[i]? = some y → zs[i]? = some z → Same H H' → H' t = some (.tup [x, y]) → Sv σ' → (∀ σ3 H5, Sv σ3 → Same H' H5 → R σ3 z H5) → g (.ref t) σ' H' fun σ3 H3 => te σ3 H3 (R σ3))
    (gk : ∀ (x : V) (σ' : L2.St) (H' : Hp) (R R' : L2.St → Hp → Prop), (∀ σ3 H3, R σ3 H3 → R' σ3 H3) → g x σ' H' R → g x σ' H' R')
    (fin : ∀ p H', H p = none → Same H H' → H' p = some (.lst zs) → Q (.ref p) H') : tCompR js g tNoIf te σ Q (Itz K a b) H := by
  intro p hp
  refine ⟨fun i m σ' H' => m = xs.length - i ∧ i ≤ xs.length ∧ Sv σ' ∧ Same H H' ∧ H' p = some (.lst (zs.take i)), ⟨xs.length, by simp, Nat.zero_le _, h0, same_add (Same.refl H) hp, by rw [upd_same]; rfl⟩, ?_⟩
  rintro i m σ' H' ⟨rfl, hi, hv, sm, hh⟩
  have qx := sm.seq hx
  have qy := seqT_same sm hy
  by_cases hlt : i < xs.length
  · obtain ⟨z, ez⟩ : ∃ z, zs[i]? = some z := ⟨_, List.getElem?_eq_getElem (by omega)⟩
    refine .inr ⟨⟨xs, ys, qx, qy, le, hlt⟩, fun σ2 H2 => Sv σ2 ∧ Same H H2 ∧ H2 p = some (.lst (zs.take (i + 1))), fun σ2 H2 ⟨a, b, c⟩ => ⟨xs.length - (i + 1), by omega, rfl, hlt, a, b, c⟩, fun x H2 hy => ?_⟩
    obtain ⟨y1, y2, t, e1, e2, ht, rfl, rfl⟩ := hy xs ys qx qy
    have st : Same H' (upd H' t (.tup [y1, y2])) := same_add (Same.refl H') ht
    refine gk _ _ _ _ _ (fun σ3 H3 z => ?_) (step i y1 y2 z t σ' _ (fun σ3 v H5 => ∃ ys, H5 p = some (.lst ys) ∧ ys.length < sizeLine ∧ (Sv σ3 ∧ Same H (upd H5 p (.lst (ys ++ [v]))) ∧ upd H5 p (.lst (ys ++ [v])) p = some (.lst (zs.take (i + 1))))) e1 e2 ez (sm.trans st) upd_same hv fun σ3 H5 hs3 s5 => ?_)
    · exact z
    · refine ⟨_, s5 _ _ (st _ _ hh), ?_, hs3, same_add (sm.trans (st.trans s5)) hp, ?_⟩
      · rw [List.length_take]; omega
      · rw [upd_same, List.take_add_one, ez]; rfl
  · have e : i = xs.length := by omega
    subst e
    refine .inl ⟨⟨xs, qx, rfl⟩, ?_⟩
    rw [List.take_of_length_le (by omega)] at hh
    exact fin p _ hp sm hh
end Add

namespace Add
open PySem PySem.Spec PyProof.Rows L2
/-! ### a text as a test; the length of a dict -/
section
variable {X : Cx}
noncomputable def tBS (t : TE) : TT := fun σ H Q => t σ H fun x H1 => ∃ y : Str, x = .str y ∧ y.length ≤ sizeLine ∧ Q (decide (y.length ≠ 0)) H1
theorem pt_valS {e : Expr} {t : TE} (h : PE X e t) (he : ∀ whole, isTrue e X.env whole = (do let v ← whole; standAt e.pos; holding [v] (truthy v)) := by intro _; rfl) : PT X e (tBS t) := by
  intro pins s σ H Q I hw
  refine isTrue_plain (thn (h pins s σ H _ I hw) fun v s1 ⟨x, H1, I1, r1, q1⟩ => ?_) (he _)
  obtain ⟨y, rfl, hy, q⟩ := q1
  obtain ⟨t', rfl⟩ := r1
  have hs : sizeLine = 16777216 := sizeLine_eq
  refine PySem.P.truthy_str (by omega) ?_
  have e : ((y.length : Int) != 0) = decide (y.length ≠ 0) := by
    rw [Bool.eq_iff_iff, bne_iff_ne, decide_eq_true_eq]; omega
  rw [e]
  exact ⟨H1, I1.tok _, q⟩
theorem call_lenD {X : Cx} : CallR X (.builtin "len") (fun xs H Q => ∃ (d : Addr) (kvs : List (Key × V)), xs = [.ref d] ∧ H d = some (.dK kvs) ∧ Q (.int kvs.length) H) := by
  intro pins s σ H xs us Q I r h
  obtain ⟨d, kvs, rfl, hd, q⟩ := h
  obtain ⟨u, rfl, rx⟩ := vals1 r
  cases rx
  obtain ⟨z, lo, vs, kv, hD⟩ := dk_of I.hok hd
  have hs : sizeLine = 16777216 := sizeLine_eq
  refine PySem.call_len_dict lo hD (by rw [← kv.length]; omega) ?_
  exact ⟨.int kvs.length, H, I.tok _, ⟨_, by rw [kv.length]⟩, q⟩
end
end Add

namespace Add
open PySem PySem.Spec PyProof.Rows L2
/-! ### sorted of texts: the same for all lists of the same texts -/
noncomputable def leS (a b : Str) : Prop := a.cps.toList ≤ b.cps.toList
theorem rising_pw : ∀ {l : List Str} {x : Str}, risingS x l = true → (x :: l).Pairwise leS
  | [], x, _ => List.pairwise_cons.mpr ⟨fun _ h => absurd h List.not_mem_nil, .nil⟩
  | y :: r, x, h => by
    have h : (!ltCps y.cps.toList x.cps.toList && risingS y r) = true := h
    rw [Bool.and_eq_true] at h
    have ih := rising_pw h.2
    have h1 : leS x y := by
      have e : ltCps y.cps.toList x.cps.toList = false := by cases q : ltCps y.cps.toList x.cps.toList with | false => rfl | true => rw [q] at h; cases h.1
      rw [ltCps_eq] at e
      exact List.not_lt.mp (of_decide_eq_false e)
    refine List.pairwise_cons.mpr ⟨fun z hz => ?_, ih⟩
    rcases List.mem_cons.mp hz with rfl | hz
    · exact h1
    · exact List.le_trans h1 ((List.pairwise_cons.mp ih).1 z hz)
theorem sorted_pw {l : List Str} (h : sortedS l = true) : l.Pairwise leS := by
  cases l with
  | nil => exact .nil
  | cons x r => exact rising_pw h
theorem srt_uniq {l m : List Str} (h1 : l.Pairwise leS) (h2 : m.Pairwise leS) (p : l.Perm m) : l = m := List.Perm.eq_of_pairwise (le := leS) (fun a b _ _ x y => by
  have e := List.le_antisymm x y
  cases a; cases b
  simp only at e
  exact congrArg Str.mk (Array.toList_inj.mp e)) h1 h2 p
section
variable {X : Cx}
theorem call_sortedU : CallR X (.builtin "sorted") (fun xs H Q => ∃ (p : Addr) (ss : List Str), xs = [.ref p] ∧ SqL X.K H p (ss.map V.str) ∧ ss.length < 64 ∧ ∀ (q : Addr) (ss' : List Str), H q = none → ss'.Perm ss → ss'.Pairwise leS → Q (.ref q) (upd H q (.lst (ss'.map V.str)))) := by
  intro pins s σ H xs vs Q I r h
  obtain ⟨p, ss, rfl, hq, h64, q⟩ := h
  obtain ⟨u, rfl, hu⟩ := vals1 r
  cases rel_ref hu
  obtain ⟨its, rv, pl, hz⟩ := I.list hq
  have l1 := rv.length
  rw [List.length_map] at l1
  refine sorted_strs pl.isList (strs_are rv) (by omega) fun out ss' ha hp hs => ?_
  obtain ⟨e, he⟩ := sortedAll_at s.heap its out
  refine ⟨.ref (s.heap.objs.size + 1), upd H (s.heap.objs.size + 1) (.lst (ss'.map V.str)), I.laid (t' := s.toks) (fun b u e => sortedAll_old e) (Nat.le_succ _) ?_, rfl, q _ ss' (I.hok.fresh (Nat.le_succ _)) hp (sorted_pw hs)⟩
  have hl := hp.length_eq
  refine ⟨by rw [List.length_map, hl]; exact Nat.le_of_lt (small1000 (by omega)), out.toList, e, are_strs ha, ?_⟩
  exact he
end
end Add


namespace K47
open PySem L2 Add
/-! the text by places -/
noncomputable def top (i : Nat) : Stmt := PySem.Challenge.pw_termcourt_k47_rings_told.main.body.getD i (.Pass ⟨0, 0, 0, 0⟩)
noncomputable abbrev sRingInit : Stmt := inClass (top 10) 0
noncomputable abbrev sUntaken : Stmt := top 18
noncomputable abbrev sHangingOrder : Stmt := top 17
noncomputable abbrev sIsFigure : Stmt := top 22
noncomputable abbrev sIsWrittenNumber : Stmt := top 21
noncomputable abbrev sNumber : Stmt := top 20
noncomputable abbrev sIsSmallLetter : Stmt := top 28
noncomputable abbrev sIsName : Stmt := top 27
noncomputable abbrev sBookInit : Stmt := inClass (top 35) 0
noncomputable abbrev sLinesOf : Stmt := top 37
noncomputable abbrev sValueOf : Stmt := top 39
noncomputable abbrev sRowOf : Stmt := top 38
noncomputable abbrev sRuleInit : Stmt := inClass (top 24) 0
noncomputable abbrev sReadTerm : Stmt := top 41
noncomputable abbrev sReadRow : Stmt := top 40
noncomputable abbrev sSettleNames : Stmt := top 45
noncomputable abbrev sReadBook : Stmt := top 36
noncomputable abbrev sLawCellAt : Stmt := top 48
noncomputable abbrev sLawWords : Stmt := top 49
noncomputable abbrev sLawBase : Stmt := top 50
noncomputable abbrev sLawHasRing : Stmt := top 51
noncomputable abbrev sLawRules : Stmt := top 52
noncomputable abbrev sLawText : Stmt := top 53
noncomputable abbrev sLawTold : Stmt := top 54
noncomputable abbrev sLawIsRing : Stmt := top 55
noncomputable abbrev sBookHanging : Stmt := inClass (top 35) 2
noncomputable abbrev sLawInOrder : Stmt := top 56
noncomputable abbrev sLawRight : Stmt := top 57
noncomputable abbrev sLaw : Stmt := top 58
structure DefAt (K : PySem.W.Frag) (mg : Str → Option Value) (x : Str) (st : Stmt) (ps : List Str) (f : Addr) (fd : FuncData) : Prop where
  fn : Fun K x x st f fd
  mgx : mg x = some (.ref f)
  bd : Binds K fd ps []
noncomputable abbrev Pd (K : PySem.W.Frag) (x : Str) (st : Stmt) (f : Addr) : Prop := ∃ (oc : Value) (od : Option Addr) (kV doc pm : Value) (an : Option Addr) (cdv ct : Value) (osl : Array (Option Value)), PySem.W.nsIn K mainGlobals x = some (some (.ref f)) ∧ K.lookup f = some ⟨oc, od, .func (PySem.W.fnOf x x (defArgs st) (defBody st) (defScope st) .none kV doc pm an cdv ct), osl⟩ ∧ PySem.W.codeIn K cdv x = true ∧ PySem.W.keepIn K (.ref f) = true
noncomputable abbrev Pm (K : PySem.W.Frag) (C : Addr) (x q : Str) (st : Stmt) (f : Addr) : Prop := ∃ (oc : Value) (od : Option Addr) (kV doc pm : Value) (an : Option Addr) (cdv ct : Value) (osl : Array (Option Value)), PySem.W.findIn K (.ref C) x = some (some (.ref f)) ∧ PySem.W.typeIn K (.ref f) = some (.type "function") ∧ K.lookup f = some ⟨oc, od, .func (PySem.W.fnOf x q (defArgs st) (defBody st) (defScope st) .none kV doc pm an cdv ct), osl⟩ ∧ PySem.W.codeIn K cdv q = true ∧ PySem.W.keepIn K (.ref f) = true
theorem pd_of {K : PySem.W.Frag} {x : Str} {st : Stmt} {f : Addr} {oc : Value} {od : Option Addr} {kV doc pm : Value} {an : Option Addr} {cdv ct : Value} {osl : Array (Option Value)} (a : PySem.W.nsIn K mainGlobals x = some (some (.ref f))) (l : K.lookup f = some ⟨oc, od, .func (PySem.W.fnOf x x (defArgs st) (defBody st) (defScope st) .none kV doc pm an cdv ct), osl⟩) (c : PySem.W.codeIn K cdv x = true) (k : PySem.W.keepIn K (.ref f) = true) : Pd K x st f := ⟨oc, od, kV, doc, pm, an, cdv, ct, osl, a, l, c, k⟩
theorem pm_of {K : PySem.W.Frag} {C : Addr} {x q : Str} {st : Stmt} {f : Addr} {oc : Value} {od : Option Addr} {kV doc pm : Value} {an : Option Addr} {cdv ct : Value} {osl : Array (Option Value)} (a : PySem.W.findIn K (.ref C) x = some (some (.ref f))) (t : PySem.W.typeIn K (.ref f) = some (.type "function")) (l : K.lookup f = some ⟨oc, od, .func (PySem.W.fnOf x q (defArgs st) (defBody st) (defScope st) .none kV doc pm an cdv ct), osl⟩) (c : PySem.W.codeIn K cdv q = true) (k : PySem.W.keepIn K (.ref f) = true) : Pm K C x q st f := ⟨oc, od, kV, doc, pm, an, cdv, ct, osl, a, t, l, c, k⟩
theorem pd_mk {K : PySem.W.Frag} {h : Heap} {mg : Str → Option Value} {x : Str} {st : Stmt} {f : Addr} (X : K.In h) (G : h.Ns mainGlobals mg) (p : Pd K x st f) {ps : List Str} (b : ∀ (kV doc pm : Value) (an : Option Addr) (cdv ct : Value) (us : List Value), us.length = ps.length → bindArgs (PySem.W.fnOf x x (defArgs st) (defBody st) (defScope st) .none kV doc pm an cdv ct) ⟨us, []⟩ = pure (ps.zip us)) : ∃ fd, DefAt K mg x st ps f fd := by
  obtain ⟨oc, od, kV, doc, pm, an, cdv, ct, osl, a, l, c, k⟩ := p
  have F := fun_mk (st := st) l c k
  exact ⟨_, F, PySem.W.mg_of X G a, F.binds b⟩
theorem pm_mk {K : PySem.W.Frag} {C : Addr} {x q : Str} {st : Stmt} {f : Addr} (p : Pm K C x q st f) {ps : List Str} (b : ∀ (kV doc pm : Value) (an : Option Addr) (cdv ct : Value) (us : List Value), us.length = ps.length → bindArgs (PySem.W.fnOf x q (defArgs st) (defBody st) (defScope st) .none kV doc pm an cdv ct) ⟨us, []⟩ = pure (ps.zip us)) : ∃ fd, MethAt K x q st ps f fd := by
  obtain ⟨oc, od, kV, doc, pm, an, cdv, ct, osl, a, t, l, c, k⟩ := p
  have F := fun_mk (st := st) l c k
  exact ⟨_, F, F.binds b, t⟩
theorem arg1 {p : List Value → Prop} (h : ∀ x0, p [x0]) : ∀ us, us.length = 1 → p us := fun us hl => by obtain ⟨x, rfl⟩ := List.length_eq_one_iff.mp hl; exact h x
theorem argS {p : List Value → Prop} {n : Nat} (h : ∀ x t, t.length = n → p (x :: t)) : ∀ us, us.length = n + 1 → p us := fun us hl => by obtain ⟨x, t, rfl⟩ := List.exists_cons_of_length_eq_add_one hl; exact h x t (Nat.succ.inj hl)
theorem arg2 {p : List Value → Prop} (h : ∀ x0 x1, p [x0, x1]) : ∀ us, us.length = 2 → p us := argS fun x => arg1 (h x)
theorem arg3 {p : List Value → Prop} (h : ∀ x0 x1 x2, p [x0, x1, x2]) : ∀ us, us.length = 3 → p us := argS fun x => arg2 (h x)
set_option genInjectivity false
set_option genSizeOf false
set_option genSizeOfSpec false
structure Adr where
  fRingInit : Addr
  gRingInit : FuncData
  fUntaken : Addr
  gUntaken : FuncData
  fHangingOrder : Addr
  gHangingOrder : FuncData
  fIsFigure : Addr
  gIsFigure : FuncData
  fIsWrittenNumber : Addr
  gIsWrittenNumber : FuncData
  fNumber : Addr
  gNumber : FuncData
  fIsSmallLetter : Addr
  gIsSmallLetter : FuncData
  fIsName : Addr
  gIsName : FuncData
  fBookInit : Addr
  gBookInit : FuncData
  fLinesOf : Addr
  gLinesOf : FuncData
  fValueOf : Addr
  gValueOf : FuncData
  fRowOf : Addr
  gRowOf : FuncData
  fRuleInit : Addr
  gRuleInit : FuncData
  fReadTerm : Addr
  gReadTerm : FuncData
  fReadRow : Addr
  gReadRow : FuncData
  fSettleNames : Addr
  gSettleNames : FuncData
  fReadBook : Addr
  gReadBook : FuncData
  fLawCellAt : Addr
  gLawCellAt : FuncData
  fLawWords : Addr
  gLawWords : FuncData
  fLawBase : Addr
  gLawBase : FuncData
  fLawHasRing : Addr
  gLawHasRing : FuncData
  fLawRules : Addr
  gLawRules : FuncData
  fLawText : Addr
  gLawText : FuncData
  fLawTold : Addr
  gLawTold : FuncData
  fLawIsRing : Addr
  gLawIsRing : FuncData
  fBookHanging : Addr
  gBookHanging : FuncData
  fLawInOrder : Addr
  gLawInOrder : FuncData
  fLawRight : Addr
  gLawRight : FuncData
  fLaw : Addr
  gLaw : FuncData
  cAdrift : Addr
  cBook : Addr
  cCourtError : Addr
  cFull : Addr
  cNoAct : Addr
  cNoDay : Addr
  cNoName : Addr
  cNoRow : Addr
  cNoRule : Addr
  cNoTable : Addr
  cNoTerm : Addr
  cParted : Addr
  cRing : Addr
  cRule : Addr
  cTwice : Addr
  cUnfit : Addr
  tUNITS : Addr
  tFORMS : Addr
  tFORMS_0 : Addr
  tFORMS_1 : Addr
  tFORMS_2 : Addr
  tFORMS_3 : Addr
  tFORMS_4 : Addr
  tFORMS_5 : Addr
  tFORMS_6 : Addr
structure Txt (K : PySem.W.Frag) (mg : Str → Option Value) (a : Adr) : Prop where
  dRingInit : MethAt K "__init__" "Ring.__init__" sRingInit ["self", "names"] a.fRingInit a.gRingInit
  dUntaken : DefAt K mg "untaken" sUntaken ["name", "bases", "taken"] a.fUntaken a.gUntaken
  dHangingOrder : DefAt K mg "hanging_order" sHangingOrder ["rules"] a.fHangingOrder a.gHangingOrder
  dIsFigure : DefAt K mg "is_figure" sIsFigure ["sign"] a.fIsFigure a.gIsFigure
  dIsWrittenNumber : DefAt K mg "is_written_number" sIsWrittenNumber ["text", "most_figures"] a.fIsWrittenNumber a.gIsWrittenNumber
  dNumber : DefAt K mg "number" sNumber ["text", "most"] a.fNumber a.gNumber
  dIsSmallLetter : DefAt K mg "is_small_letter" sIsSmallLetter ["sign"] a.fIsSmallLetter a.gIsSmallLetter
  dIsName : DefAt K mg "is_name" sIsName ["thing"] a.fIsName a.gIsName
  dBookInit : MethAt K "__init__" "Book.__init__" sBookInit ["self", "rules"] a.fBookInit a.gBookInit
  dLinesOf : DefAt K mg "lines_of" sLinesOf ["text"] a.fLinesOf a.gLinesOf
  dValueOf : DefAt K mg "value_of" sValueOf ["word", "asked"] a.fValueOf a.gValueOf
  dRowOf : DefAt K mg "row_of" sRowOf ["line"] a.fRowOf a.gRowOf
  dRuleInit : MethD K "__init__" "Rule.__init__" sRuleInit ["self", "name", "who", "owes", "opens", "base", "many", "unit", "still"] a.fRuleInit a.gRuleInit
  dReadTerm : DefAt K mg "read_term" sReadTerm ["told", "at", "row"] a.fReadTerm a.gReadTerm
  dReadRow : DefAt K mg "read_row" sReadRow ["told", "at", "row"] a.fReadRow a.gReadRow
  dSettleNames : DefAt K mg "settle_names" sSettleNames ["told", "at", "row"] a.fSettleNames a.gSettleNames
  dReadBook : DefAt K mg "read_book" sReadBook ["text"] a.fReadBook a.gReadBook
  dLawCellAt : DefAt K mg "_law_cell_at" sLawCellAt ["_law_script", "_law_k"] a.fLawCellAt a.gLawCellAt
  dLawWords : DefAt K mg "_law_words" sLawWords ["_law_cell", "_law_many"] a.fLawWords a.gLawWords
  dLawBase : DefAt K mg "_law_base" sLawBase ["_law_cell", "_law_k", "_law_many"] a.fLawBase a.gLawBase
  dLawHasRing : DefAt K mg "_law_has_ring" sLawHasRing ["_law_bases"] a.fLawHasRing a.gLawHasRing
  dLawRules : DefAt K mg "_law_rules" sLawRules ["_law_names", "_law_bases"] a.fLawRules a.gLawRules
  dLawText : DefAt K mg "_law_text" sLawText ["_law_names", "_law_bases"] a.fLawText a.gLawText
  dLawTold : DefAt K mg "_law_told" sLawTold ["_law_way", "_law_names", "_law_bases"] a.fLawTold a.gLawTold
  dLawIsRing : DefAt K mg "_law_is_ring" sLawIsRing ["_law_found", "_law_names", "_law_bases"] a.fLawIsRing a.gLawIsRing
  dBookHanging : MethAt K "hanging" "Book.hanging" sBookHanging ["self"] a.fBookHanging a.gBookHanging
  dLawInOrder : DefAt K mg "_law_in_order" sLawInOrder ["_law_names", "_law_bases"] a.fLawInOrder a.gLawInOrder
  dLawRight : DefAt K mg "_law_right" sLawRight ["_law_names", "_law_bases", "_law_way"] a.fLawRight a.gLawRight
  dLaw : DefAt K mg "law" sLaw ["_law_script"] a.fLaw a.gLaw
  e_RuleInit_8 : Binds K a.gRuleInit ["self", "name", "who", "owes", "opens", "base", "many", "unit", "still"] [.none]
  m_Adrift : mg "Adrift" = some (.ref a.cAdrift)
  m_Book : mg "Book" = some (.ref a.cBook)
  c_Book : Cls K a.cBook
  k_Book : Mk K a.cBook a.fBookInit
  n_Book : xNo K a.cBook ["name", "who", "owes", "opens", "base", "many", "unit", "still", "ends", "anew", "longer", "yields", "order", "by_name", "names"] = true
  t_dBookHanging : Meth K a.cBook "hanging" a.fBookHanging
  m_CourtError : mg "CourtError" = some (.ref a.cCourtError)
  b_CourtError : XBase K a.cCourtError
  m_Full : mg "Full" = some (.ref a.cFull)
  m_NoAct : mg "NoAct" = some (.ref a.cNoAct)
  m_NoDay : mg "NoDay" = some (.ref a.cNoDay)
  m_NoName : mg "NoName" = some (.ref a.cNoName)
  m_NoRow : mg "NoRow" = some (.ref a.cNoRow)
  m_NoRule : mg "NoRule" = some (.ref a.cNoRule)
  m_NoTable : mg "NoTable" = some (.ref a.cNoTable)
  m_NoTerm : mg "NoTerm" = some (.ref a.cNoTerm)
  m_Parted : mg "Parted" = some (.ref a.cParted)
  m_Ring : mg "Ring" = some (.ref a.cRing)
  x_Ring : XA K a.cRing (some (.ref a.fRingInit))
  n_Ring : xNo K a.cRing ["name", "who", "owes", "opens", "base", "many", "unit", "still", "ends", "anew", "longer", "yields", "order", "by_name", "names"] = true
  k_Ring : xKits K a.cRing [Value.ref a.cCourtError, Value.type "ValueError"] [true, true] = true
  m_Rule : mg "Rule" = some (.ref a.cRule)
  c_Rule : Cls K a.cRule
  k_Rule : Mk K a.cRule a.fRuleInit
  n_Rule : xNo K a.cRule ["name", "who", "owes", "opens", "base", "many", "unit", "still", "ends", "anew", "longer", "yields", "order", "by_name", "names"] = true
  m_Twice : mg "Twice" = some (.ref a.cTwice)
  m_Unfit : mg "Unfit" = some (.ref a.cUnfit)
  r_Ring : XRaise K a.cRing
  h_Ring_Adrift : PySem.W.exmOne K (.ref a.cRing) (.ref a.cAdrift) = some false
  h_Ring_Full : PySem.W.exmOne K (.ref a.cRing) (.ref a.cFull) = some false
  h_Ring_NoAct : PySem.W.exmOne K (.ref a.cRing) (.ref a.cNoAct) = some false
  h_Ring_NoDay : PySem.W.exmOne K (.ref a.cRing) (.ref a.cNoDay) = some false
  h_Ring_NoName : PySem.W.exmOne K (.ref a.cRing) (.ref a.cNoName) = some false
  h_Ring_NoRow : PySem.W.exmOne K (.ref a.cRing) (.ref a.cNoRow) = some false
  h_Ring_NoRule : PySem.W.exmOne K (.ref a.cRing) (.ref a.cNoRule) = some false
  h_Ring_NoTable : PySem.W.exmOne K (.ref a.cRing) (.ref a.cNoTable) = some false
  h_Ring_NoTerm : PySem.W.exmOne K (.ref a.cRing) (.ref a.cNoTerm) = some false
  h_Ring_Parted : PySem.W.exmOne K (.ref a.cRing) (.ref a.cParted) = some false
  h_Ring_Ring : PySem.W.exmOne K (.ref a.cRing) (.ref a.cRing) = some true
  h_Ring_Twice : PySem.W.exmOne K (.ref a.cRing) (.ref a.cTwice) = some false
  h_Ring_Unfit : PySem.W.exmOne K (.ref a.cRing) (.ref a.cUnfit) = some false
  n_ValueError : mg "ValueError" = none
  n_all : mg "all" = none
  n_enumerate : mg "enumerate" = none
  n_int : mg "int" = none
  n_isinstance : mg "isinstance" = none
  n_len : mg "len" = none
  n_list : mg "list" = none
  n_range : mg "range" = none
  n_reversed : mg "reversed" = none
  n_sorted : mg "sorted" = none
  n_str : mg "str" = none
  n_zip : mg "zip" = none
  g_LONGEST_NAME : ∃ t, mg "LONGEST_NAME" = some (.int 8 t)
  g_MOST_ROWS : ∃ t, mg "MOST_ROWS" = some (.int 40 t)
  g_MOST_TERMS : ∃ t, mg "MOST_TERMS" = some (.int 6 t)
  g_UNITS : mg "UNITS" = some (.ref a.tUNITS)
  s_UNITS : ∀ H, SqT K H a.tUNITS [.str (Str.ofString "days"), .str (Str.ofString "weeks"), .str (Str.ofString "court")]
  g_FORMS : mg "FORMS" = some (.ref a.tFORMS)
  s_FORMS : ∀ H, SqT K H a.tFORMS [.ref a.tFORMS_0, .ref a.tFORMS_1, .ref a.tFORMS_2, .ref a.tFORMS_3, .ref a.tFORMS_4, .ref a.tFORMS_5, .ref a.tFORMS_6]
  s_FORMS_0 : ∀ H, SqT K H a.tFORMS_0 [.str (Str.ofString "term"), .str (Str.ofString "NAME"), .str (Str.ofString "of"), .str (Str.ofString "NAME"), .str (Str.ofString "due"), .str (Str.ofString "NAME"), .str (Str.ofString "from"), .str (Str.ofString "NAME"), .int 40, .str (Str.ofString "UNIT")]
  s_FORMS_1 : ∀ H, SqT K H a.tFORMS_1 [.str (Str.ofString "term"), .str (Str.ofString "NAME"), .str (Str.ofString "of"), .str (Str.ofString "NAME"), .str (Str.ofString "due"), .str (Str.ofString "NAME"), .str (Str.ofString "behind"), .str (Str.ofString "NAME"), .int 40, .str (Str.ofString "UNIT")]
  s_FORMS_2 : ∀ H, SqT K H a.tFORMS_2 [.str (Str.ofString "ends"), .str (Str.ofString "NAME"), .str (Str.ofString "NAME")]
  s_FORMS_3 : ∀ H, SqT K H a.tFORMS_3 [.str (Str.ofString "anew"), .str (Str.ofString "NAME"), .str (Str.ofString "NAME")]
  s_FORMS_4 : ∀ H, SqT K H a.tFORMS_4 [.str (Str.ofString "longer"), .str (Str.ofString "NAME"), .str (Str.ofString "NAME"), .int 20, .str (Str.ofString "times"), .int 3]
  s_FORMS_5 : ∀ H, SqT K H a.tFORMS_5 [.str (Str.ofString "still"), .str (Str.ofString "NAME"), .str (Str.ofString "NAME"), .str (Str.ofString "NAME")]
  s_FORMS_6 : ∀ H, SqT K H a.tFORMS_6 [.str (Str.ofString "yields"), .str (Str.ofString "NAME"), .str (Str.ofString "NAME")]
theorem boot_ValueError : bootBuiltins "ValueError" = some (.type "ValueError") := by decide +kernel
theorem boot_all : bootBuiltins "all" = some (.builtin "all") := by decide +kernel
theorem boot_int : bootBuiltins "int" = some (.type "int") := by decide +kernel
theorem boot_isinstance : bootBuiltins "isinstance" = some (.builtin "isinstance") := by decide +kernel
theorem boot_len : bootBuiltins "len" = some (.builtin "len") := by decide +kernel
theorem boot_list : bootBuiltins "list" = some (.type "list") := by decide +kernel
theorem boot_sorted : bootBuiltins "sorted" = some (.builtin "sorted") := by decide +kernel
theorem boot_str : bootBuiltins "str" = some (.type "str") := by decide +kernel
theorem scRingInit : FnScope ["self", "names"] ["self", "names"] (defScope sRingInit) := ⟨rfl, rfl, rfl, by decide +kernel, rfl, by decide +kernel, by decide +kernel⟩
theorem scUntaken : FnScope ["name", "bases", "taken", "path", "above"] ["name", "bases", "taken"] (defScope sUntaken) := ⟨rfl, rfl, rfl, by decide +kernel, rfl, by decide +kernel, by decide +kernel⟩
theorem scHangingOrder : FnScope ["rules", "bases", "rule", "taken"] ["rules"] (defScope sHangingOrder) := ⟨rfl, rfl, rfl, by decide +kernel, rfl, by decide +kernel, by decide +kernel⟩
theorem scIsFigure : FnScope ["sign"] ["sign"] (defScope sIsFigure) := ⟨rfl, rfl, rfl, by decide +kernel, rfl, by decide +kernel, by decide +kernel⟩
theorem scIsWrittenNumber : FnScope ["text", "most_figures"] ["text", "most_figures"] (defScope sIsWrittenNumber) := ⟨rfl, rfl, rfl, by decide +kernel, rfl, by decide +kernel, by decide +kernel⟩
theorem scNumber : FnScope ["text", "most", "written"] ["text", "most"] (defScope sNumber) := ⟨rfl, rfl, rfl, by decide +kernel, rfl, by decide +kernel, by decide +kernel⟩
theorem scIsSmallLetter : FnScope ["sign"] ["sign"] (defScope sIsSmallLetter) := ⟨rfl, rfl, rfl, by decide +kernel, rfl, by decide +kernel, by decide +kernel⟩
theorem scIsName : FnScope ["thing"] ["thing"] (defScope sIsName) := ⟨rfl, rfl, rfl, by decide +kernel, rfl, by decide +kernel, by decide +kernel⟩
theorem scBookInit : FnScope ["self", "rules", "rule"] ["self", "rules"] (defScope sBookInit) := ⟨rfl, rfl, rfl, by decide +kernel, rfl, by decide +kernel, by decide +kernel⟩
theorem scLinesOf : FnScope ["text"] ["text"] (defScope sLinesOf) := ⟨rfl, rfl, rfl, by decide +kernel, rfl, by decide +kernel, by decide +kernel⟩
theorem scValueOf : FnScope ["word", "asked"] ["word", "asked"] (defScope sValueOf) := ⟨rfl, rfl, rfl, by decide +kernel, rfl, by decide +kernel, by decide +kernel⟩
theorem scRowOf : FnScope ["line", "words", "form", "row"] ["line"] (defScope sRowOf) := ⟨rfl, rfl, rfl, by decide +kernel, rfl, by decide +kernel, by decide +kernel⟩
theorem scRuleInit : FnScope ["self", "name", "who", "owes", "opens", "base", "many", "unit", "still"] ["self", "name", "who", "owes", "opens", "base", "many", "unit", "still"] (defScope sRuleInit) := ⟨rfl, rfl, rfl, by decide +kernel, rfl, by decide +kernel, by decide +kernel⟩
theorem scReadTerm : FnScope ["told", "at", "row", "name", "opens", "base", "rule"] ["told", "at", "row"] (defScope sReadTerm) := ⟨rfl, rfl, rfl, by decide +kernel, rfl, by decide +kernel, by decide +kernel⟩
theorem scReadRow : FnScope ["told", "at", "row"] ["told", "at", "row"] (defScope sReadRow) := ⟨rfl, rfl, rfl, by decide +kernel, rfl, by decide +kernel, by decide +kernel⟩
theorem scSettleNames : FnScope ["told", "at", "row", "rule"] ["told", "at", "row"] (defScope sSettleNames) := ⟨rfl, rfl, rfl, by decide +kernel, rfl, by decide +kernel, by decide +kernel⟩
theorem scReadBook : FnScope ["text", "told", "rows", "at", "line", "row"] ["text"] (defScope sReadBook) := ⟨rfl, rfl, rfl, by decide +kernel, rfl, by decide +kernel, by decide +kernel⟩
theorem scLawCellAt : FnScope ["_law_script", "_law_k"] ["_law_script", "_law_k"] (defScope sLawCellAt) := ⟨rfl, rfl, rfl, by decide +kernel, rfl, by decide +kernel, by decide +kernel⟩
theorem scLawWords : FnScope ["_law_cell", "_law_many", "_law_some", "_law_size", "_law_at", "_law_primes", "_law_stem", "_law_k", "_law_words_here", "_law_turn", "_law_word"] ["_law_cell", "_law_many"] (defScope sLawWords) := ⟨rfl, rfl, rfl, by decide +kernel, rfl, by decide +kernel, by decide +kernel⟩
theorem scLawBase : FnScope ["_law_cell", "_law_k", "_law_many"] ["_law_cell", "_law_k", "_law_many"] (defScope sLawBase) := ⟨rfl, rfl, rfl, by decide +kernel, rfl, by decide +kernel, by decide +kernel⟩
theorem scLawHasRing : FnScope ["_law_bases", "_law_k", "_law_at", "_law_turn"] ["_law_bases"] (defScope sLawHasRing) := ⟨rfl, rfl, rfl, by decide +kernel, rfl, by decide +kernel, by decide +kernel⟩
theorem scLawRules : FnScope ["_law_names", "_law_bases", "_law_rules_here", "_law_k"] ["_law_names", "_law_bases"] (defScope sLawRules) := ⟨rfl, rfl, rfl, by decide +kernel, rfl, by decide +kernel, by decide +kernel⟩
theorem scLawText : FnScope ["_law_names", "_law_bases", "_law_rows", "_law_k", "_law_way"] ["_law_names", "_law_bases"] (defScope sLawText) := ⟨rfl, rfl, rfl, by decide +kernel, rfl, by decide +kernel, by decide +kernel⟩
theorem scLawTold : FnScope ["_law_way", "_law_names", "_law_bases", "_law_found", "e"] ["_law_way", "_law_names", "_law_bases"] (defScope sLawTold) := ⟨rfl, rfl, rfl, by decide +kernel, rfl, by decide +kernel, by decide +kernel⟩
theorem scLawIsRing : FnScope ["_law_found", "_law_names", "_law_bases", "_law_ring", "_law_k", "_law_base_here"] ["_law_found", "_law_names", "_law_bases"] (defScope sLawIsRing) := ⟨rfl, rfl, rfl, by decide +kernel, rfl, by decide +kernel, by decide +kernel⟩
theorem scBookHanging : FnScope ["self"] ["self"] (defScope sBookHanging) := ⟨rfl, rfl, rfl, by decide +kernel, rfl, by decide +kernel, by decide +kernel⟩
theorem scLawInOrder : FnScope ["_law_names", "_law_bases", "_law_found", "_law_k"] ["_law_names", "_law_bases"] (defScope sLawInOrder) := ⟨rfl, rfl, rfl, by decide +kernel, rfl, by decide +kernel, by decide +kernel⟩
theorem scLawRight : FnScope ["_law_names", "_law_bases", "_law_way", "_law_found"] ["_law_names", "_law_bases", "_law_way"] (defScope sLawRight) := ⟨rfl, rfl, rfl, by decide +kernel, rfl, by decide +kernel, by decide +kernel⟩
theorem scLaw : FnScope ["_law_script", "_law_many", "_law_names", "_law_bases", "_law_first", "_law_k", "_law_cut"] ["_law_script"] (defScope sLaw) := ⟨rfl, rfl, rfl, by decide +kernel, rfl, by decide +kernel, by decide +kernel⟩

seal PySem.Sem.wp

open Add Lay Mrg Tab
theorem iteD {c A B : Prop} [Decidable c] (hc : c) (h : A) : if decide c = true then A else B := by rw [if_pos (decide_eq_true hc)]; exact h
theorem iteDn {c A B : Prop} [Decidable c] (hc : ¬ c) (h : B) : if decide c = true then A else B := by rw [decide_eq_false hc]; exact h
theorem iteND {c A B : Prop} [Decidable c] (hc : c) (h : B) : if (!decide c) = true then A else B := by rw [decide_eq_true hc]; exact h
theorem same_upd {H : Hp} {p : Addr} {o : HO} (hp : H p = none) : Same H (upd H p o) := fun b u e => by rw [upd_ne (ne_of_none e hp)]; exact e
theorem fits {n : Nat} (h : n ≤ 100000) : n ≤ sizeLine := by rw [sizeLine_eq]; omega
theorem lt1000 {xs : List V} (h : xs.length ≤ 90000) : xs.length < sizeLine := by rw [sizeLine_eq]; omega
theorem fit0 : ([] : List V).length ≤ sizeLine := fits (by decide)
theorem fit2 (x y : V) : [x, y].length ≤ sizeLine := fits (show 2 ≤ 100000 by decide)
theorem fit3 (x y z : V) : [x, y, z].length ≤ sizeLine := fits (show 3 ≤ 100000 by decide)
theorem atI_of {vs : List V} {k : Int} {j : Nat} {v : V} (h : vs[j]? = some v) (e : k = (j : Int)) : atI vs k = some v := by rw [e]; exact atI_nat h
theorem cut_drop (vs : List V) (b : Nat) (h : b ≤ vs.length) : cutV vs (some (b : Int)) none = vs.drop b := by
  unfold cutV
  have e1 : HT.sIx vs.length vs.length none = vs.length := rfl
  have e2 : HT.sIx vs.length 0 (some (b : Int)) = b := by
    simp only [HT.sIx]
    split <;> omega
  rw [e1, e2]
  rw [List.take_of_length_le (by rw [List.length_drop]; omega)]
theorem iteNN {c A B : Prop} [Decidable c] (hc : ¬ c) (h : A) : if (!decide c) = true then A else B := by rw [decide_eq_false hc]; exact h
noncomputable def cell (ns : List Int) (k : Int) : Int := ns.getD k.toNat 0
theorem atI_cell {ns : List Int} {k : Int} (h0 : 0 ≤ k) (h : k < ((ns.map V.int).length : Int)) : atI (ns.map V.int) k = some (V.int (cell ns k)) := by
  rw [List.length_map] at h
  have hk : k.toNat < ns.length := (Int.toNat_lt h0).mpr h
  refine atI_of (j := k.toNat) ?_ (Int.toNat_of_nonneg h0).symm
  rw [List.getElem?_map, List.getElem?_eq_getElem hk]
  unfold cell
  rw [List.getD_eq_getElem?_getD, List.getElem?_eq_getElem hk]
  rfl
theorem cell_out {ns : List Int} {k : Int} (h : ¬ k < ((ns.map V.int).length : Int)) : cell ns k = 0 := by
  rw [List.length_map] at h
  unfold cell
  rw [List.getD_eq_getElem?_getD, List.getElem?_eq_none (Int.ofNat_le.mp (Int.le_trans (Int.not_lt.mp h) (Int.self_le_toNat k)))]
  rfl
noncomputable def spCell (K : PySem.W.Frag) : Sp := fun vs H Q _ => ∃ (a : Addr) (ns : List Int) (k : Int), vs = [.ref a, .int k] ∧ SqL K H a (ns.map V.int) ∧ 0 ≤ k ∧ Q (.int (cell ns k)) H

theorem inV_strs (x : Str) (xs : List Str) : inV (.str x) (xs.map V.str) = xs.contains x := by
  unfold inV
  rw [List.any_map, List.contains_eq_any_beq]
  congr 1
  funext y
  show (y == x) = (x == y)
  rw [Bool.eq_iff_iff, beq_iff_eq, beq_iff_eq]
  exact eq_comm
theorem flat_strs (xs : List Str) : (xs.map V.str).all flatV = true := by rw [List.all_map]; exact List.all_eq_true.mpr fun _ _ => rfl
noncomputable def nm (nms : List Str) (k : Nat) : Str := nms.getD k Str.empty
noncomputable def bo (bs : List (Option Nat)) (k : Nat) : Option Nat := bs.getD k none
theorem nm_at {nms : List Str} {k : Nat} (h : k < nms.length) : nms[k]? = some (nm nms k) := by
  unfold nm
  rw [List.getD_eq_getElem?_getD, List.getElem?_eq_getElem h]
  rfl
theorem bo_at {bs : List (Option Nat)} {k : Nat} (h : k < bs.length) : bs[k]? = some (bo bs k) := by
  unfold bo
  rw [List.getD_eq_getElem?_getD, List.getElem?_eq_getElem h]
  rfl
theorem nm_inj {nms : List Str} (nd : nms.Nodup) {j k : Nat} (hj : j < nms.length) (hk : k < nms.length) (e : nm nms j = nm nms k) : j = k := by
  have a := nm_at hj
  rw [e, ← nm_at hk] at a
  exact (List.getElem?_inj hj nd).mp a
noncomputable def encO : Option Nat → V
  | none => .non
  | some b => .int (b : Int)
noncomputable def encN (nms : List Str) : Option Nat → V
  | none => .non
  | some b => .str (nm nms b)
noncomputable def DicOk (kvs : List (Key × V)) (nms : List Str) (bs : List (Option Nat)) : Prop := ∀ k < nms.length, valV kvs (.inr (nm nms k)) = some (encN nms (bo bs k))
/-- all but x stays -/
noncomputable def SameBut (x : Addr) (H H' : Hp) : Prop := ∀ b o, b ≠ x → H b = some o → H' b = some o
theorem SameBut.of {x : Addr} {H H' : Hp} (s : Same H H') : SameBut x H H' := fun b o _ e => s b o e
theorem SameBut.trans {x : Addr} {H H1 H2 : Hp} (a : SameBut x H H1) (b : SameBut x H1 H2) : SameBut x H H2 := fun c o n e => b c o n (a c o n e)
theorem SameBut.set {x : Addr} {H H' : Hp} {o : HO} (a : SameBut x H H') : SameBut x H (upd H' x o) := fun b u n e => by rw [upd_ne n]; exact a b u n e
theorem SameBut.made {x dx : Addr} {H H' : Hp} {o u : HO} (a : SameBut x (upd (upd H dx u) x o) H') (hx : H x = none) (hd : H dx = none) : Same H H' := fun b v e =>
  a b v (ne_of_none e hx) (by rw [upd_ne (ne_of_none e hx), upd_ne (ne_of_none e hd)]; exact e)
theorem SameBut.free {x q : Addr} {H H' : Hp} (b : SameBut x H H') (n : q ≠ x) (h : H' q = none) : H q = none := by
  cases e : H q with
  | none => rfl
  | some o => rw [b q o n e] at h; cases h
theorem lk_same (f : Str) (v : V) (fs : List (Str × V)) : (putF f v fs).lookup f = some v := (lookup_putF f f v fs).trans (if_pos rfl)
theorem lk_ne {f g : Str} (v : V) {fs : List (Str × V)} {o : Option V} (n : g ≠ f) (h : fs.lookup g = o) : (putF f v fs).lookup g = o := ((lookup_putF f g v fs).trans (if_neg n)).trans h
theorem ln_put {f : Str} {v : V} {fs : List (Str × V)} {n : Nat} (h : fs.length ≤ n) : (putF f v fs).length ≤ n + 1 := Nat.le_trans (length_putF f v fs) (Nat.succ_le_succ h)
theorem dic_put {kvs : List (Key × V)} {nms : List Str} {bs : List (Option Nat)} {i : Nat} (nd : nms.Nodup) (hi : i < nms.length) (h : ∀ k < i, valV kvs (.inr (nm nms k)) = some (encN nms (bo bs k))) : ∀ k < i + 1, valV (putK kvs (.inr (nm nms i)) (encN nms (bo bs i))) (.inr (nm nms k)) = some (encN nms (bo bs k)) := fun k hk => by
  rw [valV_put]
  by_cases e : k = i
  · subst e
    rw [if_pos rfl]
  · rw [if_neg (fun z => e (nm_inj nd (by omega) hi (Sum.inr.inj z)))]
    exact h k (by omega)
theorem nmV {nms : List Str} {k : Nat} (h : k < nms.length) : (nms.map V.str)[k]? = some (.str (nm nms k)) := by rw [List.getElem?_map, nm_at h]; rfl
theorem boV {bs : List (Option Nat)} {k : Nat} (h : k < bs.length) : (bs.map encO)[k]? = some (encO (bo bs k)) := by rw [List.getElem?_map, bo_at h]; rfl
theorem rb {n : Nat} (h : n ≤ 1000) : -2 ^ 62 ≤ (n : Int) ∧ (n : Int) < 2 ^ 62 := by omega

noncomputable abbrev bfs (po pd : Addr) : List (Str × V) := [(Str.ofString "order", .ref po), (Str.ofString "by_name", .ref pd)]
theorem put1 (f : Str) (u : V) : putF f u [] = [(f, u)] := rfl
theorem put2 {f g : Str} (u v : V) (h : f ≠ g) : putF g v [(f, u)] = [(f, u), (g, v)] := by unfold putF; rw [if_neg h]; rfl
noncomputable abbrev az : Str := Str.ofString "abcdefghijklmnopqrstuvwxyz"
theorem az_len : az.length = 26 := by decide +kernel
theorem az_list : az.cps.toList = (List.range 26).map (fun j => 97 + j) := by decide +kernel
theorem az_at {j : Nat} (h : j < 26) : atI az.cps.toList (j : Int) = some (97 + j) := atI_nat (by rw [az_list, List.getElem?_map, List.getElem?_range h]; rfl)
theorem cat_len (x y : Str) : (x ++ y).length = x.length + y.length := by
  show (x ++ y).cps.size = _
  rw [Str.cps_append, Array.size_append]; rfl
noncomputable def wdL (L : List Nat) (n c : Nat) : List Nat := L.take n ++ c :: L.drop (n + 1)
theorem word_eq {st : Str} {n c : Nat} (h : n + 1 ≤ st.length) : Txt.slice st none (some (n : Int)) ++ (⟨#[c]⟩ : Str) ++ Txt.slice st (some ((n : Int) + 1)) none = ⟨(wdL st.cps.toList n c).toArray⟩ := by
  have hl : st.cps.toList.length = st.length := Array.length_toList
  have e1 : Txt.slice st none (some (n : Int)) = ⟨((st.cps.toList.drop 0).take ((n : Int) - 0).toNat).toArray⟩ := PySem.StrLaws.sliceText_to ⟨Int.natCast_nonneg n, by omega⟩
  have e2 : Txt.slice st (some ((n : Int) + 1)) none = ⟨((st.cps.toList.drop ((n : Int) + 1).toNat).take ((st.cps.toList.length : Int) - ((n : Int) + 1)).toNat).toArray⟩ := PySem.StrLaws.sliceText_from ⟨by omega, by omega⟩
  have e3 : ((n : Int) + 1).toNat = n + 1 := by omega
  rw [e1, e2, e3, List.take_of_length_le (l := st.cps.toList.drop (n + 1)) (by rw [List.length_drop]; omega)]
  apply Str.ext'
  rw [Str.cps_append, Str.cps_append]
  show ((st.cps.toList.drop 0).take ((n : Int) - 0).toNat).toArray ++ #[c] ++ (st.cps.toList.drop (n + 1)).toArray = _
  unfold wdL
  rw [List.drop_zero, show ((n : Int) - 0).toNat = n by omega]
  simp
theorem cut_eq {L : List Nat} {n c : Nat} (h : n < L.length) : Txt.slice ⟨(wdL L n c).toArray⟩ none (some ((n : Int) + 1)) = ⟨(L.take n ++ [c]).toArray⟩ := by
  have lt : (L.take n).length = n := by rw [List.length_take]; omega
  have e1 : Txt.slice ⟨(wdL L n c).toArray⟩ none (some ((n : Int) + 1)) = ⟨(((wdL L n c).toArray.toList.drop 0).take ((n : Int) + 1 - 0).toNat).toArray⟩ := PySem.StrLaws.sliceText_to ⟨by omega, by
    show (n : Int) + 1 ≤ ((wdL L n c).toArray.toList.length : Int)
    rw [List.toList_toArray]
    unfold wdL
    rw [List.length_append, List.length_cons, lt]
    omega⟩
  rw [e1, List.toList_toArray, List.drop_zero, show ((n : Int) + 1 - 0).toNat = n + 1 by omega]
  unfold wdL
  rw [List.take_append, lt, List.take_of_length_le (Nat.le_trans (Nat.le_of_eq lt) (Nat.le_succ n)), show n + 1 - n = 1 by omega]
  rfl
/-- the sign of the k-th word, and the word -/
noncomputable def sgn (t : Int) (e k : Nat) : Nat := 97 + ((t + ((k / (1 + e) : Nat) : Int)) % 26).toNat
noncomputable def wdS (L : List Nat) (n e : Nat) (t : Int) (k : Nat) : Str := if e = 1 ∧ k % 2 = 1 then ⟨(L.take n ++ [sgn t e k]).toArray⟩ else ⟨(wdL L n (sgn t e k)).toArray⟩
theorem mk_inj {x y : List Nat} (h : (⟨x.toArray⟩ : Str) = ⟨y.toArray⟩) : x = y := by
  have := congrArg (fun z : Str => z.cps.toList) h
  simpa using this
theorem wdL_inj {L : List Nat} {n c d : Nat} (h : wdL L n c = wdL L n d) : c = d := by
  unfold wdL at h
  exact (List.cons.inj (List.append_cancel_left h)).1
theorem sgn_inj {t : Int} {e k j : Nat} (he : e ≤ 1) (hk : k < 7) (hj : j < 7) (h : sgn t e k = sgn t e j) : k / (1 + e) = j / (1 + e) := by
  have h : (t + ((k / (1 + e) : Nat) : Int)) % 26 = (t + ((j / (1 + e) : Nat) : Int)) % 26 := by unfold sgn at h; omega
  have a : k / (1 + e) ≤ k := Nat.div_le_self _ _
  have b : j / (1 + e) ≤ j := Nat.div_le_self _ _
  generalize k / (1 + e) = x at *
  generalize j / (1 + e) = y at *
  omega
theorem wdS_inj {L : List Nat} {n e : Nat} {t : Int} (he : e ≤ 1) (hn : n + 1 + e ≤ L.length) {k j : Nat} (hk : k < 7) (hj : j < 7) (h : wdS L n e t k = wdS L n e t j) : k = j := by
  have lt : (L.take n).length = n := by rw [List.length_take]; omega
  have ld : (L.drop (n + 1)).length = L.length - (n + 1) := List.length_drop
  have key : sgn t e k = sgn t e j ∧ (e = 1 → k % 2 = j % 2) := by
    unfold wdS at h
    by_cases c1 : e = 1 ∧ k % 2 = 1
    · rw [if_pos c1] at h
      by_cases c2 : e = 1 ∧ j % 2 = 1
      · rw [if_pos c2] at h
        exact ⟨(List.cons.inj (List.append_cancel_left (mk_inj h))).1, fun _ => by omega⟩
      · rw [if_neg c2] at h
        have hl := congrArg List.length (mk_inj h)
        unfold wdL at hl
        rw [List.length_append, List.length_append, List.length_cons, List.length_cons, List.length_nil, ld] at hl
        omega
    · rw [if_neg c1] at h
      by_cases c2 : e = 1 ∧ j % 2 = 1
      · rw [if_pos c2] at h
        have hl := congrArg List.length (mk_inj h)
        unfold wdL at hl
        rw [List.length_append, List.length_append, List.length_cons, List.length_cons, List.length_nil, ld] at hl
        omega
      · rw [if_neg c2] at h
        exact ⟨wdL_inj (mk_inj h), fun z => by omega⟩
  have q := sgn_inj he hk hj key.1
  rcases (by omega : e = 0 ∨ e = 1) with z | z
  · rw [z] at q
    simpa using q
  · have := key.2 z
    rw [z] at q
    omega
theorem wds_nd {L : List Nat} {n e : Nat} {t : Int} (he : e ≤ 1) (hn : n + 1 + e ≤ L.length) {m : Nat} (hm : m ≤ 6) : ((List.range m).map (wdS L n e t)).Nodup := by
  rw [List.nodup_iff_pairwise_ne, List.pairwise_map]
  refine (List.Pairwise.and_mem.mp (List.nodup_iff_pairwise_ne.mp List.nodup_range)).imp fun {a b} h z => ?_
  have h1 := List.mem_range.mp h.1
  have h2 := List.mem_range.mp h.2.1
  exact h.2.2 (wdS_inj he hn (by omega) (by omega) z)
theorem sizeB (c : Int) : 1 + c % 2 ≤ 1 + c % 2 + c / 2 % (8 - c % 2) ∧ 1 + c % 2 + c / 2 % (8 - c % 2) ≤ 8 := by
  rcases (by omega : c % 2 = 0 ∨ c % 2 = 1) with e | e <;> rw [e]
  · rw [show (8 : Int) - 0 = 8 from rfl]; omega
  · rw [show (8 : Int) - 1 = 7 from rfl]; omega
noncomputable def prL : List Int := [100003, 100019, 100043, 100049, 100057, 100069, 100103, 100109]
theorem pr_at {k : Nat} (h : k < 8) : ∃ p : Int, 0 < p ∧ (prL.map V.int)[k]? = some (V.int p) := by
  rcases (by omega : k = 0 ∨ k = 1 ∨ k = 2 ∨ k = 3 ∨ k = 4 ∨ k = 5 ∨ k = 6 ∨ k = 7) with e | e | e | e | e | e | e | e <;> subst e <;> exact ⟨_, by decide, rfl⟩

noncomputable def spLaw (K : PySem.W.Frag) : Sp := fun vs H Q _ => ∃ (a : Addr) (ns : List Int), vs = [.ref a] ∧ SqL K H a (ns.map V.int) ∧ ns.length ≤ 63 ∧ ∀ H', Q (.bl true) H'
/-! rings: f k is what k hangs on -/
section
variable {f : Nat → Option Nat} {n : Nat}
noncomputable def itN (f : Nat → Option Nat) : Nat → Option Nat → Option Nat
  | 0, o => o
  | _ + 1, none => none
  | t + 1, some k => itN f t (f k)
noncomputable def Root (f : Nat → Option Nat) (k : Nat) : Prop := ∃ t, itN f t (some k) = none
theorem itN_none (t : Nat) : itN f t none = none := by cases t <;> rfl
theorem itN_up {t t' : Nat} {o : Option Nat} (h : itN f t o = none) (le : t ≤ t') : itN f t' o = none := by
  induction t generalizing t' o with
  | zero => rw [show o = none from h]; exact itN_none _
  | succ t ih =>
    cases o with
    | none => exact itN_none _
    | some k =>
      obtain ⟨t', rfl⟩ : ∃ x, t' = x + 1 := ⟨t' - 1, by omega⟩
      exact ih (o := f k) h (by omega)
theorem itN_succ (t : Nat) (o : Option Nat) : itN f (t + 1) o = (itN f t o).bind f := by
  induction t generalizing o with
  | zero => cases o <;> rfl
  | succ t ih =>
    cases o with
    | none => rfl
    | some k => exact ih (f k)
theorem no_root {is : List Nat} (h : ∀ k ∈ is, ∃ b, f k = some b ∧ b ∈ is) : ∀ k ∈ is, ¬ Root f k := by
  have w : ∀ t, ∀ k ∈ is, itN f t (some k) ≠ none := by
    intro t
    induction t with
    | zero => exact fun k _ z => nomatch z
    | succ t ih =>
      intro k hk z
      obtain ⟨b, e, hb⟩ := h k hk
      refine ih b hb ?_
      have z : itN f t (f k) = none := z
      rw [e] at z; exact z
  rintro k hk ⟨t, ht⟩
  exact w t k hk ht
/-- each hangs on the next one, the last one on o -/
noncomputable def Ch (f : Nat → Option Nat) (is : List Nat) (o : Option Nat) : Prop := ∀ i k, is[i]? = some k → f k = (is ++ o.toList)[i + 1]?
theorem Ch.snoc {is : List Nat} {j : Nat} (h : Ch f is (some j)) : Ch f (is ++ [j]) (f j) := by
  intro i k e
  by_cases c : i < is.length
  · rw [List.getElem?_append_left c] at e
    rw [h i k e]
    exact (List.getElem?_append_left (by show i + 1 < (is ++ [j]).length; rw [List.length_append, List.length_singleton]; omega)).symm
  · have l : i < (is ++ [j]).length := (List.getElem?_eq_some_iff.mp e).1
    rw [List.length_append, List.length_singleton] at l
    obtain rfl : i = is.length := by omega
    rw [List.getElem?_append_right (Nat.le_refl _), Nat.sub_self] at e
    cases e
    rw [List.getElem?_append_right (by rw [List.length_append, List.length_singleton]; omega), List.length_append, List.length_singleton, Nat.sub_self]
    cases f j <;> rfl
/-- none twice, each hanging on the next, the last on the first -/
structure Rg (f : Nat → Option Nat) (n : Nat) (r : List Nat) : Prop where
  ne : r ≠ []
  nd : r.Nodup
  lt : ∀ k ∈ r, k < n
  nx : ∀ i k, r[i]? = some k → f k = r[(i + 1) % r.length]?
theorem ch_rg {is : List Nat} {j i0 : Nat} (h : Ch f is (some j)) (nd : is.Nodup) (lt : ∀ k ∈ is, k < n) (e : is[i0]? = some j) : Rg f n (is.drop i0) := by
  have l0 := (List.getElem?_eq_some_iff.mp e).1
  have ll : (is.drop i0).length = is.length - i0 := List.length_drop
  refine ⟨fun z => ?_, (List.drop_sublist _ _).nodup nd, fun k hk => lt k (List.mem_of_mem_drop hk), fun i k ek => ?_⟩
  · rw [z] at ll; have : 0 = is.length - i0 := ll; omega
  · have li := (List.getElem?_eq_some_iff.mp ek).1
    rw [ll] at li
    rw [List.getElem?_drop] at ek
    rw [h _ k ek, ll]
    by_cases c : i + 1 < is.length - i0
    · rw [Nat.mod_eq_of_lt c, List.getElem?_drop, List.getElem?_append_left (by omega), Nat.add_assoc]
    · rw [show i + 1 = is.length - i0 by omega, Nat.mod_self, List.getElem?_drop, show i0 + 0 = i0 from rfl, e, List.getElem?_append_right (by omega), show i0 + i + 1 - is.length = 0 by omega]; rfl
/-- each stands behind what it hangs on -/
noncomputable def Od (f : Nat → Option Nat) (os : List Nat) : Prop := ∀ p k, os[p]? = some k → ∀ b, f k = some b → b ∈ os.take p
theorem od_it {os : List Nat} (h : Od f os) : ∀ p k, os[p]? = some k → itN f (p + 1) (some k) = none := by
  intro p
  induction p using Nat.strongRecOn with
  | ind p ih =>
    intro k e
    show itN f p (f k) = none
    cases eb : f k with
    | none => exact itN_none _
    | some b =>
      obtain ⟨q, hq, rfl⟩ := List.getElem_of_mem (h p k e b eb)
      rw [List.length_take] at hq
      have e2 : os[q]? = some (os.take p)[q] := by rw [List.getElem_take]; exact List.getElem?_eq_getElem (by omega)
      exact itN_up (ih q (by omega) _ e2) (by omega)
theorem od_app {os is : List Nat} {o : Option Nat} (h : Od f os) (c : Ch f is o) (ho : ∀ j, o = some j → j ∈ os) : Od f (os ++ is.reverse) := by
  intro p k e b eb
  by_cases hp : p < os.length
  · rw [List.getElem?_append_left hp] at e
    have := h p k e b eb
    rw [List.take_append_of_le_length (by omega)]
    exact this
  · rw [List.getElem?_append_right (by omega)] at e
    have lp := (List.getElem?_eq_some_iff.mp e).1
    rw [List.length_reverse] at lp
    rw [List.getElem?_reverse lp] at e
    have g := c _ k e
    rw [eb] at g
    rw [List.take_append, List.mem_append]
    by_cases z : is.length - 1 - (p - os.length) + 1 < is.length
    · rw [List.getElem?_append_left z] at g
      right
      rw [List.mem_iff_getElem?]
      refine ⟨is.length - 1 - (is.length - 1 - (p - os.length) + 1), ?_⟩
      rw [List.getElem?_take_of_lt (by omega), List.getElem?_reverse (by omega), show is.length - 1 - (is.length - 1 - (is.length - 1 - (p - os.length) + 1)) = is.length - 1 - (p - os.length) + 1 by omega]
      exact g.symm
    · rw [List.getElem?_append_right (by omega), show is.length - 1 - (p - os.length) + 1 - is.length = 0 by omega] at g
      left
      rw [List.take_of_length_le (by omega)]
      refine ho b ?_
      cases o with
      | none => cases g
      | some j => exact g.symm
theorem nd_le {l : List Nat} (nd : l.Nodup) (lt : ∀ k ∈ l, k < n) : l.length ≤ n := by
  induction n generalizing l with
  | zero =>
    cases l with
    | nil => exact Nat.le_refl _
    | cons a l => exact absurd (lt a List.mem_cons_self) (Nat.not_lt_zero _)
  | succ n ih =>
    have h := ih (l := l.erase n) (nd.erase n) (fun k hk => by
      have h1 := lt k (List.mem_of_mem_erase hk)
      have h2 : k ≠ n := fun z => by rw [z] at hk; exact nd.not_mem_erase hk
      omega)
    by_cases m : n ∈ l
    · rw [List.length_erase_of_mem m] at h; omega
    · rw [List.erase_of_not_mem m] at h; omega
end
structure Wr (nms : List Str) (bs : List (Option Nat)) : Prop where
  nd : nms.Nodup
  len : bs.length = nms.length
  sm : nms.length ≤ 6
  ok : ∀ k b, bo bs k = some b → b < nms.length
theorem keep_same {H H' : Hp} {x : Addr} {o0 : HO} (hx : H x = none) (keep : ∀ b o, b ≠ x → upd H x o0 b = some o → H' b = some o) : Same H H' := fun b o e => keep b o (ne_of_none e hx) (by rw [upd_ne (ne_of_none e hx)]; exact e)
noncomputable def spIL (K : PySem.W.Frag) : Sp := fun vs H Q _ => ∃ (x C l : Addr) (zs : List V) (ini : Option Value), vs = [.ref x, .ref l] ∧ H x = some (exO x C none true) ∧ SqL K H l zs ∧ XA K C ini ∧ PySem.W.findIn K (.ref C) "names" = some none ∧
  ∀ (dx l' : Addr) (H' : Hp), H dx = none → H l' = none → (∀ b o, b ≠ x → H b = some o → H' b = some o) → H' x = some (exO x C (some dx) true) → H' dx = some (exD dx [("names", .ref l')]) → H' l' = some (.lst zs) → Q .non H'

/-- a Ring is let out -/
noncomputable def OutR (a : Adr) (nms : List Str) (bs : List (Option Nat)) (H : Hp) (E : XK) : Prop := ∀ (x d l : Addr) (H' : Hp) (r : List Nat), Same H H' → H' x = some (exO x a.cRing (some d) false) → H' d = some (exD d [("names", .ref l)]) → H' l = some (.lst ((r.map (nm nms)).map V.str)) → Rg (bo bs) nms.length r → E (.ref x) (some d) H'
theorem OutR.same {a : Adr} {nms : List Str} {bs : List (Option Nat)} {H H' : Hp} {E : XK} (o : OutR a nms bs H E) (s : Same H H') : OutR a nms bs H' E := fun x d l H2 r z => o x d l H2 r (s.trans z)
noncomputable def spUn7 (a : Adr) : Sp := fun vs H Q E => ∃ (d t : Addr) (kvs : List (Key × V)) (nms : List Str) (bs : List (Option Nat)) (os : List Nat) (k : Nat), vs = [.str (nm nms k), .ref d, .ref t] ∧ H d = some (.dK kvs) ∧ H t = some (.lst ((os.map (nm nms)).map V.str)) ∧ Wr nms bs ∧ (∀ j ∈ os, j < nms.length) ∧ k < nms.length ∧ DicOk kvs nms bs ∧
  (∀ (q : Addr) (H' : Hp) (is : List Nat) (o : Option Nat), H q = none → Same H H' → H' q = some (.lst ((is.map (nm nms)).map V.str)) → Ch (bo bs) is o → is.Nodup → (∀ j ∈ is, j < nms.length ∧ j ∉ os) → (is ++ o.toList)[0]? = some k → (∀ j, o = some j → j ∈ os) → Q (.ref q) H') ∧ OutR a nms bs H E
theorem nm_mem {nms : List Str} {os : List Nat} {j : Nat} (nd : nms.Nodup) (lt : ∀ k ∈ os, k < nms.length) (hj : j < nms.length) : (os.map (nm nms)).contains (nm nms j) = true ↔ j ∈ os := by
  rw [List.contains_iff_mem, List.mem_map]
  constructor
  · rintro ⟨k, hk, e⟩
    rw [← nm_inj nd (lt k hk) hj e]; exact hk
  · exact fun h => ⟨j, h, rfl⟩
theorem nm_ix {nms : List Str} {os : List Nat} {j : Nat} (nd : nms.Nodup) (lt : ∀ k ∈ os, k < nms.length) (hj : j < nms.length) (ndo : os.Nodup) (h : j ∈ os) : ∃ i : Nat, os[i]? = some j ∧ (os.map (nm nms))[i]? = some (nm nms j) ∧ ∀ m, m < i → (os.map (nm nms))[m]? ≠ some (nm nms j) := by
  obtain ⟨i, hi, e⟩ := List.getElem_of_mem h
  have e : os[i]? = some j := by rw [List.getElem?_eq_getElem hi, e]
  refine ⟨i, e, by rw [List.getElem?_map, e]; rfl, fun m hm z => ?_⟩
  rw [List.getElem?_map] at z
  cases em : os[m]? with
  | none => rw [em] at z; cases z
  | some k =>
    rw [em] at z
    have := nm_inj nd (lt k (List.mem_of_getElem? em)) hj (Option.some.inj z)
    rw [this, ← e] at em
    have := (List.getElem?_inj (by omega) ndo).mp em
    omega

/-- a rule's object: name and base -/
noncomputable def Ru (C : Addr) (H : Hp) (v : V) (x : Str) (b : V) : Prop := ∃ (p dx : Addr) (fs : List (Str × V)), v = .ref p ∧ H p = some (.ins C dx fs) ∧ fs.lookup (Str.ofString "name") = some (.str x) ∧ fs.lookup (Str.ofString "base") = some b
theorem Ru.keep {C : Addr} {H H' : Hp} {v : V} {x : Str} {b : V} (h : Ru C H v x b) (k : KeepN H H') : Ru C H' v x b := by
  obtain ⟨p, dx, fs, e, h1, h2⟩ := h
  exact ⟨p, dx, fs, e, k _ _ (fun l z => by cases z) h1, h2⟩
theorem Ru.same {C : Addr} {H H' : Hp} {v : V} {x : Str} {b : V} (h : Ru C H v x b) (s : Same H H') : Ru C H' v x b := h.keep (KeepN.of s)
noncomputable def Rus (C : Addr) (H : Hp) (us : List V) (nms : List Str) (bs : List (Option Nat)) : Prop := us.length = nms.length ∧ ∀ (j : Nat) (y : V), us[j]? = some y → Ru C H y (nm nms j) (encN nms (bo bs j))
theorem Rus.same {C : Addr} {H H' : Hp} {us : List V} {nms : List Str} {bs : List (Option Nat)} (h : Rus C H us nms bs) (s : Same H H') : Rus C H' us nms bs := ⟨h.1, fun j y e => (h.2 j y e).same s⟩
noncomputable def spRI7 (a : Adr) : Sp := fun vs H Q _ => ∃ (x dx : Addr) (nx w o op b m u s : V), vs = [.ref x, nx, w, o, op, b, m, u, s] ∧ H x = some (.ins a.cRule dx []) ∧
  ∀ H' fs, SameBut x H H' → H' x = some (.ins a.cRule dx fs) → fs.lookup (Str.ofString "name") = some nx → fs.lookup (Str.ofString "owes") = some o → fs.lookup (Str.ofString "opens") = some op → fs.lookup (Str.ofString "base") = some b → Q .non H'
noncomputable def spHa7 (a : Adr) : Sp := fun vs H Q E => ∃ (pr : Addr) (us : List V) (nms : List Str) (bs : List (Option Nat)), vs = [.ref pr] ∧ H pr = some (.lst us) ∧ Rus a.cRule H us nms bs ∧ Wr nms bs ∧
  (∀ (q : Addr) (H' : Hp) (os : List Nat), H q = none → Same H H' → H' q = some (.lst ((os.map (nm nms)).map V.str)) → os.Nodup → (∀ j ∈ os, j < nms.length) → Od (bo bs) os → (∀ j, j < nms.length → j ∈ os) → Q (.ref q) H') ∧ OutR a nms bs H E
theorem ch_hd {is : List Nat} {o : Option Nat} {k : Nat} {os : List Nat} (st : (is ++ o.toList)[0]? = some k) (ho : ∀ j, o = some j → j ∈ os) : k ∈ os ++ is.reverse := by
  rw [List.mem_append, List.mem_reverse]
  cases is with
  | nil =>
    left
    cases o with
    | none => cases st
    | some j => exact ho k (by rw [← show some j = some k from st])
  | cons j is =>
    right
    rw [← show j = k from Option.some.inj st]
    exact List.mem_cons_self

/-- a book: its order -/
noncomputable def Bo (C : Addr) (H : Hp) (x : Addr) (nms : List Str) (os : List Nat) : Prop := ∃ dx po d : Addr, H x = some (.ins C dx (bfs po d)) ∧ H po = some (.lst ((os.map (nm nms)).map V.str))
/-- all of 0 .. n - 1, none twice, each behind what it hangs on -/
structure Ors (bs : List (Option Nat)) (n : Nat) (os : List Nat) : Prop where
  nd : os.Nodup
  lt : ∀ j ∈ os, j < n
  od : Od (bo bs) os
  al : ∀ j, j < n → j ∈ os
noncomputable def spBI7 (a : Adr) : Sp := fun vs H Q E => ∃ (x dx pr : Addr) (us : List V) (nms : List Str) (bs : List (Option Nat)), vs = [.ref x, .ref pr] ∧ H x = some (.ins a.cBook dx []) ∧ H pr = some (.lst us) ∧ Rus a.cRule H us nms bs ∧ Wr nms bs ∧
  (∀ H' os, SameBut x H H' → Bo a.cBook H' x nms os → Ors bs nms.length os → Q .non H') ∧ OutR a nms bs H E
noncomputable def spBH7 (a : Adr) : Sp := fun vs H Q _ => ∃ (x : Addr) (nms : List Str) (os : List Nat), vs = [.ref x] ∧ Bo a.cBook H x nms os ∧ ∀ q, H q = none → Q (.ref q) (upd H q (.lst ((os.map (nm nms)).map V.str)))

open Wri
noncomputable abbrev ts (n : Int) : Str := Str.ofString (toString n)
theorem le_0 (c : Nat) : (!decide ((⟨#[c]⟩ : Str).cps.toList < (Str.ofString "0").cps.toList)) = decide (48 ≤ c) := by
  have e : (Str.ofString "0").cps.toList = [48] := by decide +kernel
  rw [e]
  show (!decide ([c] < [48])) = decide (48 ≤ c)
  by_cases h : 48 ≤ c
  · have n : ¬ [c] < [48] := by simp [List.cons_lt_cons_iff]; omega
    simp [n, h]
  · have n : [c] < [48] := by simp [List.cons_lt_cons_iff]; omega
    simp [n, h]
theorem le_9 (c : Nat) : (!decide ((Str.ofString "9").cps.toList < (⟨#[c]⟩ : Str).cps.toList)) = decide (c ≤ 57) := by
  have e : (Str.ofString "9").cps.toList = [57] := by decide +kernel
  rw [e]
  show (!decide ([57] < [c])) = decide (c ≤ 57)
  by_cases h : c ≤ 57
  · have n : ¬ [57] < [c] := by simp [List.cons_lt_cons_iff]; omega
    simp [n, h]
  · have n : [57] < [c] := by simp [List.cons_lt_cons_iff]; omega
    simp [n, h]
theorem nought : Str.ofString "0" = ⟨#[48]⟩ := by decide +kernel
theorem starts0 (x : Str) : Txt.startswith x (Str.ofString "0") = decide (x.cps.toList.head? = some 48) := by
  rw [nought, List.head?_eq_getElem?]
  have := StrLaws.subAt_one x 48 0
  unfold Txt.startswith
  rw [Bool.eq_iff_iff, decide_eq_true_eq, ← this, Bool.and_eq_true, decide_eq_true_eq]
theorem nbF {b : Bool} (h : (!b) = true) : b = false := by cases b with | false => rfl | true => cases h
theorem nbT {b : Bool} (h : ¬ (!b) = true) : b = true := by cases b with | true => rfl | false => exact absurd rfl h
noncomputable def spFig : Sp := fun vs H Q _ => ∃ c : Nat, vs = [.str ⟨#[c]⟩] ∧ Q (.bl (fig c)) H
noncomputable def wnm (x : Str) (m : Int) : Bool := (decide (1 ≤ x.cps.size) && decide ((x.cps.size : Int) ≤ m)) && (x.cps.toList.all fig && Wri.plain x)
noncomputable def spWn : Sp := fun vs H Q _ => ∃ (x : Str) (m : Int), vs = [.str x, .int m] ∧ x.length ≤ 100000 ∧ ∀ H', Same H H' → Q (.bl (wnm x m)) H'
theorem log_ok {n : Int} (k : Nat) (hk : (10 : Nat) ^ k < 2 ^ 1920) (h0 : 0 ≤ n) (h : n < 10 ^ k) : n.natAbs.log2 < 1920 := by
  by_cases z : n.natAbs = 0
  · rw [z]; decide
  · rw [Nat.log2_lt z]
    have : n.natAbs < 10 ^ k := by
      have e : ((n.natAbs : Nat) : Int) = n := Int.natAbs_of_nonneg h0
      have : ((n.natAbs : Nat) : Int) < ((10 ^ k : Nat) : Int) := by rw [e, Int.natCast_pow]; exact h
      exact Int.ofNat_lt.mp this
    exact Nat.lt_trans this hk
theorem ts_len {n : Int} {k : Nat} (h0 : 0 ≤ n) (hk : 0 < k) (h : n < 10 ^ k) : (ts n).length ≤ k := PyProof.Rows.toString_length_le h0 hk h
/-- the text writes a number from 1 to m -/
noncomputable def due (x : Str) (m : Int) : Bool := wnm x ((ts m).length : Nat) && (decide (1 ≤ nv x) && decide (nv x ≤ m))
noncomputable def spNumber : Sp := fun vs H Q _ => ∃ (x : Str) (m : Int), vs = [.str x, .int m] ∧ x.length ≤ 50000 ∧ 1 ≤ m ∧ m < 10 ^ 62 ∧ (due x m = true → ∀ H', Same H H' → Q (.int (nv x)) H') ∧ (due x m = false → ∀ H', Same H H' → Q .non H')
noncomputable def low (c : Nat) : Bool := decide (97 ≤ c) && decide (c ≤ 122)
noncomputable def spLow : Sp := fun vs H Q _ => ∃ c : Nat, vs = [.str ⟨#[c]⟩] ∧ Q (.bl (low c)) H
theorem le_a (c : Nat) : (!decide ((⟨#[c]⟩ : Str).cps.toList < (Str.ofString "a").cps.toList)) = decide (97 ≤ c) := by
  have e : (Str.ofString "a").cps.toList = [97] := by decide +kernel
  rw [e]
  show (!decide ([c] < [97])) = decide (97 ≤ c)
  by_cases h : 97 ≤ c
  · have n : ¬ [c] < [97] := by simp [List.cons_lt_cons_iff]; omega
    simp [n, h]
  · have n : [c] < [97] := by simp [List.cons_lt_cons_iff]; omega
    simp [n, h]
theorem le_z (c : Nat) : (!decide ((Str.ofString "z").cps.toList < (⟨#[c]⟩ : Str).cps.toList)) = decide (c ≤ 122) := by
  have e : (Str.ofString "z").cps.toList = [122] := by decide +kernel
  rw [e]
  show (!decide ([122] < [c])) = decide (c ≤ 122)
  by_cases h : c ≤ 122
  · have n : ¬ [122] < [c] := by simp [List.cons_lt_cons_iff]; omega
    simp [n, h]
  · have n : [122] < [c] := by simp [List.cons_lt_cons_iff]; omega
    simp [n, h]

noncomputable def NmOk (x : Str) : Prop := 1 ≤ x.cps.size ∧ x.cps.size ≤ 8 ∧ x.cps.toList.all low = true
noncomputable def spNm7 : Sp := fun vs H Q _ => ∃ x : Str, vs = [.str x] ∧ NmOk x ∧ ∀ H', Same H H' → Q (.bl true) H'

noncomputable abbrev wS (s : String) : Str := Str.ofString s
inductive VO : Str → V → V → Prop
  | num1 : VO (wS "1") (.int 40) (.int 1)
  | num2 : VO (wS "2") (.int 40) (.int 2)
  | name {w : Str} (h : NmOk w) : VO w (.str (wS "NAME")) (.str w)
  | unit {w : Str} (h : w = wS "days" ∨ w = wS "weeks") : VO w (.str (wS "UNIT")) (.str w)
  | lit {w c : Str} (h1 : c ≠ wS "NAME") (h2 : c ≠ wS "UNIT") : VO w (.str c) (if w = c then .str w else .non)
noncomputable def spVal7 : Sp := fun vs H Q _ => ∃ (w : Str) (av rv : V), vs = [.str w, av] ∧ VO w av rv ∧ ∀ H', Same H H' → Q rv H'
theorem due1 : due (wS "1") 40 = true ∧ nv (wS "1") = 1 ∧ (wS "1").length ≤ 50000 := by decide +kernel
theorem due2 : due (wS "2") 40 = true ∧ nv (wS "2") = 2 ∧ (wS "2").length ≤ 50000 := by decide +kernel
noncomputable def wd (o : Option Str) : Str := match o with | none => wS "from" | some _ => wS "behind"
noncomputable def wsF (x : Str) (o : Option Str) : List Str := [wS "term", x, wS "of", wS "a", wS "due", wS "b", wd o] ++ (match o with | none => [wS "c", wS "1", wS "days"] | some y => [y, wS "2", wS "weeks"])
noncomputable def zsF (x : Str) (o : Option Str) (v : V) : List V := [.str (wS "term"), .str x, .str (wS "of"), .str (wS "a"), .str (wS "due"), .str (wS "b"), v] ++ (match o with | none => [.str (wS "c"), .int 1, .str (wS "days")] | some y => [.str y, .int 2, .str (wS "weeks")])
noncomputable def frm (f : Str) : List V := [.str (wS "term"), .str (wS "NAME"), .str (wS "of"), .str (wS "NAME"), .str (wS "due"), .str (wS "NAME"), .str f, .str (wS "NAME"), .int 40, .str (wS "UNIT")]
theorem nm1 : NmOk (wS "a") ∧ NmOk (wS "b") ∧ NmOk (wS "c") := by unfold NmOk; decide +kernel
theorem vo_lit {c : Str} (h1 : c ≠ wS "NAME") (h2 : c ≠ wS "UNIT") : VO c (.str c) (.str c) := by
  have := VO.lit (w := c) h1 h2
  rw [if_pos rfl] at this; exact this
theorem vo_at {x : Str} {o : Option Str} {f : Str} (hx : NmOk x) (ho : ∀ y, o = some y → NmOk y) (f1 : f ≠ wS "NAME") (f2 : f ≠ wS "UNIT") : ∀ (i : Nat) (w : Str) (av z : V), (wsF x o)[i]? = some w → (frm f)[i]? = some av → (zsF x o (if wd o = f then .str (wd o) else .non))[i]? = some z → VO w av z := by
  intro i w av z e1 e2 e3
  have hi : i < 10 := (List.getElem?_eq_some_iff.mp e2).1
  rcases (by omega : i = 0 ∨ i = 1 ∨ i = 2 ∨ i = 3 ∨ i = 4 ∨ i = 5 ∨ i = 6 ∨ i = 7 ∨ i = 8 ∨ i = 9) with rfl | rfl | rfl | rfl | rfl | rfl | rfl | rfl | rfl | rfl
  · cases e1; cases e2; cases e3; exact vo_lit (by decide +kernel) (by decide +kernel)
  · cases e1; cases e2; cases e3; exact .name hx
  · cases e1; cases e2; cases e3; exact vo_lit (by decide +kernel) (by decide +kernel)
  · cases e1; cases e2; cases e3; exact .name nm1.1
  · cases e1; cases e2; cases e3; exact vo_lit (by decide +kernel) (by decide +kernel)
  · cases e1; cases e2; cases e3; exact .name nm1.2.1
  · cases e1; cases e2; cases e3; exact .lit f1 f2
  · cases o with
    | none => cases e1; cases e2; cases e3; exact .name nm1.2.2
    | some y => cases e1; cases e2; cases e3; exact .name (ho _ rfl)
  · cases o with
    | none => cases e1; cases e2; cases e3; exact .num1
    | some y => cases e1; cases e2; cases e3; exact .num2
  · cases o with
    | none => cases e1; cases e2; cases e3; exact .unit (.inl rfl)
    | some y => cases e1; cases e2; cases e3; exact .unit (.inr rfl)
theorem iteT' {c : Prop} [Decidable c] {A B : Prop} (h : c) (a : A) : if c then A else B := by rw [if_pos h]; exact a
theorem blank : wS " " = ⟨#[32]⟩ := by decide +kernel
theorem nm_free {x : Str} (h : NmOk x) {c : Nat} (hc : c < 97) : c ∉ x.cps.toList := fun z => by
  have := List.all_eq_true.mp h.2.2 c z
  unfold low at this
  simp only [Bool.and_eq_true, decide_eq_true_eq] at this
  omega
theorem ws_free {x : Str} {o : Option Str} (hx : NmOk x) (ho : ∀ y, o = some y → NmOk y) {c : Nat} (hc : c = 32 ∨ c = 10) : ∀ p ∈ wsF x o, c ∉ p.cps.toList := by
  have k : ∀ w : Str, (w.cps.toList.all fun d => decide (d ≠ 32) && decide (d ≠ 10)) = true → c ∉ w.cps.toList := fun w h z => by
    have := List.all_eq_true.mp h c z
    simp only [Bool.and_eq_true, decide_eq_true_eq] at this
    omega
  have lt : c < 97 := by omega
  have d : ∀ w ∈ [wS "term", wS "of", wS "a", wS "due", wS "b", wS "from", wS "behind", wS "c", wS "1", wS "2", wS "days", wS "weeks"], (w.cps.toList.all fun d => decide (d ≠ 32) && decide (d ≠ 10)) = true := by decide +kernel
  intro p hp
  cases o with
  | none =>
    simp only [wsF, wd, List.cons_append, List.nil_append, List.mem_cons, List.not_mem_nil, or_false] at hp
    rcases hp with rfl | rfl | rfl | rfl | rfl | rfl | rfl | rfl | rfl | rfl
    · exact k _ (d _ (by simp))
    · exact nm_free hx lt
    all_goals exact k _ (d _ (by simp))
  | some y =>
    simp only [wsF, wd, List.cons_append, List.nil_append, List.mem_cons, List.not_mem_nil, or_false] at hp
    rcases hp with rfl | rfl | rfl | rfl | rfl | rfl | rfl | rfl | rfl | rfl
    · exact k _ (d _ (by simp))
    · exact nm_free hx lt
    · exact k _ (d _ (by simp))
    · exact k _ (d _ (by simp))
    · exact k _ (d _ (by simp))
    · exact k _ (d _ (by simp))
    · exact k _ (d _ (by simp))
    · exact nm_free (ho _ rfl) lt
    · exact k _ (d _ (by simp))
    · exact k _ (d _ (by simp))
noncomputable def lineT (x : Str) (o : Option Str) : Str := Str.join ⟨#[32]⟩ (wsF x o)
theorem line_len {x : Str} {o : Option Str} (hx : NmOk x) (ho : ∀ y, o = some y → NmOk y) : (lineT x o).cps.size ≤ 100 := by
  have e : (lineT x o).cps.toList = jl 32 ((wsF x o).map fun p => p.cps.toList) := join_jl 32 _
  rw [← Array.length_toList, e]
  have c : (wS "term").cps.toList.length = 4 ∧ (wS "of").cps.toList.length = 2 ∧ (wS "a").cps.toList.length = 1 ∧ (wS "due").cps.toList.length = 3 ∧ (wS "b").cps.toList.length = 1 ∧ (wS "from").cps.toList.length = 4 ∧ (wS "behind").cps.toList.length = 6 ∧ (wS "c").cps.toList.length = 1 ∧ (wS "1").cps.toList.length = 1 ∧ (wS "2").cps.toList.length = 1 ∧ (wS "days").cps.toList.length = 4 ∧ (wS "weeks").cps.toList.length = 5 := by decide +kernel
  obtain ⟨c1, c2, c3, c4, c5, c6, c7, c8, c9, c10, c11, c12⟩ := c
  have h8 : x.cps.toList.length ≤ 8 := by rw [Array.length_toList]; exact hx.2.1
  cases o with
  | none =>
    simp only [wsF, wd, List.cons_append, List.nil_append, List.map_cons, List.map_nil, jl, List.length_append, List.length_cons]
    omega
  | some y =>
    have y8 : y.cps.toList.length ≤ 8 := by rw [Array.length_toList]; exact (ho y rfl).2.1
    simp only [wsF, wd, List.cons_append, List.nil_append, List.map_cons, List.map_nil, jl, List.length_append, List.length_cons]
    omega
theorem ws_len (x : Str) (o : Option Str) : (wsF x o).length = 10 := by cases o <;> rfl
theorem zs_len (x : Str) (o : Option Str) (v : V) : (zsF x o v).length = 10 := by cases o <;> rfl
theorem zs_non (x : Str) (o : Option Str) : inV .non (zsF x o .non) = true ∧ inV .non (zsF x o (.str (wd o))) = false := by cases o <;> exact ⟨rfl, rfl⟩
theorem zs_flat (x : Str) (o : Option Str) {v : V} (h : flatV v = true) : (zsF x o v).all flatV = true := by
  have f : ∀ s : Str, flatV (.str s) = true := fun _ => rfl
  have g : ∀ i : Int, flatV (.int i) = true := fun _ => rfl
  cases o <;> simp only [zsF, List.cons_append, List.nil_append, List.all_cons, List.all_nil, h, f, g, Bool.and_self]
noncomputable def spRow7 : Sp := fun vs H Q _ => ∃ (x : Str) (o : Option Str), vs = [.str (lineT x o)] ∧ NmOk x ∧ (∀ y, o = some y → NmOk y) ∧ ∀ (q : Addr) (H' : Hp), H q = none → Same H H' → H' q = some (.lst (zsF x o (.str (wd o)))) → Q (.ref q) H'

noncomputable def textT (ls : List Str) : Str := Str.join ⟨#[10]⟩ ls
theorem newl : wS "\n" = ⟨#[10]⟩ := by decide +kernel
/-- rows of a text: short, none with a line's end in it -/
structure Lns (ls : List Str) : Prop where
  n : ls.length ≤ 6
  c : ∀ l ∈ ls, l.cps.size ≤ 100 ∧ 1 ≤ l.cps.size ∧ 10 ∉ l.cps.toList
theorem jl_le {c : Nat} : ∀ {ps : List (List Nat)}, (∀ p ∈ ps, p.length ≤ 100) → (jl c ps).length ≤ 101 * ps.length
  | [], _ => Nat.le_refl _
  | [x], h => by
    have := h x List.mem_cons_self
    show x.length ≤ 101 * 1
    omega
  | x :: y :: r, h => by
    have h1 := h x List.mem_cons_self
    have h2 := jl_le (c := c) (ps := y :: r) fun p hp => h p (List.mem_cons_of_mem _ hp)
    show (x ++ c :: jl c (y :: r)).length ≤ 101 * (r.length + 1 + 1)
    rw [List.length_append, List.length_cons]
    rw [List.length_cons] at h2
    omega
theorem text_len {ls : List Str} (h : Lns ls) : (textT ls).cps.size ≤ 700 := by
  rw [← Array.length_toList, show (textT ls).cps.toList = jl 10 (ls.map fun p => p.cps.toList) from join_jl 10 _]
  have := jl_le (c := 10) (ps := ls.map fun p => p.cps.toList) fun p hp => by
    obtain ⟨l, hl, rfl⟩ := List.mem_map.mp hp
    rw [Array.length_toList]; exact (h.c l hl).1
  rw [List.length_map] at this
  have := h.n
  omega
theorem text_ne {ls : List Str} (h : Lns ls) (ne : ls ≠ []) : (textT ls).cps.size ≠ 0 := by
  rw [← Array.length_toList, show (textT ls).cps.toList = jl 10 (ls.map fun p => p.cps.toList) from join_jl 10 _]
  cases ls with
  | nil => exact absurd rfl ne
  | cons x r =>
    have hx := (h.c x List.mem_cons_self).2.1
    rw [← Array.length_toList] at hx
    cases r with
    | nil => show x.cps.toList.length ≠ 0; omega
    | cons y r =>
      show (x.cps.toList ++ 10 :: jl 10 _).length ≠ 0
      rw [List.length_append]; omega
noncomputable def spLn7 : Sp := fun vs H Q _ => ∃ ls : List Str, vs = [.str (textT ls)] ∧ Lns ls ∧ ∀ (q : Addr) (H' : Hp), H q = none → Same H H' → H' q = some (.lst (ls.map V.str)) → Q (.ref q) H'
noncomputable def encS : Option Str → V
  | none => .non
  | some y => .str y
noncomputable def spTm7 (a : Adr) : Sp := fun vs H Q _ => ∃ (d r : Addr) (i : Int) (kvs : List (Key × V)) (x : Str) (o : Option Str), vs = [.ref d, .int i, .ref r] ∧ H d = some (.dK kvs) ∧ H r = some (.lst (zsF x o (.str (wd o)))) ∧ valV kvs (.inr x) = none ∧ kvs.length < 6 ∧
  ∀ (p : Addr) (H' : Hp), SameBut d H H' → H' d = some (.dK (putK kvs (.inr x) (.ref p))) → Ru a.cRule H' (.ref p) x (encS o) → Q .non H'
noncomputable def spSe7 (a : Adr) : Sp := fun vs H Q _ => ∃ (d r : Addr) (i : Int) (kvs : List (Key × V)) (x : Str) (o : Option Str) (y : V), vs = [.ref d, .int i, .ref r] ∧ H d = some (.dK kvs) ∧ H r = some (.lst (zsF x o (.str (wd o)))) ∧ valV kvs (.inr x) = some y ∧ Ru a.cRule H y x (encS o) ∧ (∀ z, o = some z → ∃ u, valV kvs (.inr z) = some u) ∧ Q .non H
theorem z_at (x : Str) (o : Option Str) (v : V) : atI (zsF x o v) 0 = some (.str (wS "term")) ∧ atI (zsF x o v) 1 = some (.str x) ∧ atI (zsF x o v) 3 = some (.str (wS "a")) ∧ atI (zsF x o v) 5 = some (.str (wS "b")) ∧ atI (zsF x o v) 6 = some v := by cases o <;> exact ⟨rfl, rfl, rfl, rfl, rfl⟩
theorem z_7 (x : Str) (v : V) : atI (zsF x none v) 7 = some (.str (wS "c")) ∧ atI (zsF x none v) 8 = some (.int 1) ∧ atI (zsF x none v) 9 = some (.str (wS "days")) := ⟨rfl, rfl, rfl⟩
theorem z_8 (x y : Str) (v : V) : atI (zsF x (some y) v) 7 = some (.str y) ∧ atI (zsF x (some y) v) 8 = some (.int 2) ∧ atI (zsF x (some y) v) 9 = some (.str (wS "weeks")) := ⟨rfl, rfl, rfl⟩

theorem iteF' {c : Prop} [Decidable c] {A B : Prop} (h : ¬ c) (a : B) : if c then A else B := by rw [if_neg h]; exact a

noncomputable def oN (nms : List Str) (o : Option Nat) : Option Str := o.map (nm nms)
theorem encN_S (nms : List Str) (o : Option Nat) : encN nms o = encS (oN nms o) := by cases o <;> rfl
noncomputable def lnJ (nms : List Str) (bs : List (Option Nat)) (j : Nat) : Str := lineT (nm nms j) (oN nms (bo bs j))
noncomputable def rwJ (nms : List Str) (bs : List (Option Nat)) (j : Nat) : List V := zsF (nm nms j) (oN nms (bo bs j)) (.str (wd (oN nms (bo bs j))))
/-- i rows have been read -/
structure TB (C : Addr) (H : Hp) (d q : Addr) (nms : List Str) (bs : List (Option Nat)) (i : Nat) (kvs : List (Key × V)) (rs : List V) : Prop where
  hd : H d = some (.dK kvs)
  hq : H q = some (.lst rs)
  kl : kvs.length = i
  hv : ∀ j, j < i → ∃ y, (kvs.map (·.2))[j]? = some y ∧ valV kvs (.inr (nm nms j)) = some y ∧ Ru C H y (nm nms j) (encS (oN nms (bo bs j)))
  hn : ∀ j, i ≤ j → j < nms.length → valV kvs (.inr (nm nms j)) = none
  rl : rs.length = i
  hr : ∀ j y, rs[j]? = some y → ∃ r, y = .ref r ∧ H r = some (.lst (rwJ nms bs j))
theorem rw_hd (nms : List Str) (bs : List (Option Nat)) (j : Nat) : ∃ t, rwJ nms bs j = .str (wS "term") :: t := ⟨_, rfl⟩
theorem TB.same {C : Addr} {H H' : Hp} {d q : Addr} {nms : List Str} {bs : List (Option Nat)} {i : Nat} {kvs : List (Key × V)} {rs : List V} (h : TB C H d q nms bs i kvs rs) (s : Same H H') : TB C H' d q nms bs i kvs rs :=
  ⟨s _ _ h.hd, s _ _ h.hq, h.kl, fun j hj => by obtain ⟨y, h1, h2, h3⟩ := h.hv j hj; exact ⟨y, h1, h2, h3.same s⟩, h.hn, h.rl, fun j y e => by obtain ⟨r, h1, h2⟩ := h.hr j y e; exact ⟨r, h1, s _ _ h2⟩⟩
/-- one row more: a new rule in the dict, its row behind the others -/
theorem TB.next {C : Addr} {H H1 H2 : Hp} {d q r p : Addr} {nms : List Str} {bs : List (Option Nat)} {i : Nat} {kvs : List (Key × V)} {rs : List V} (h : TB C H d q nms bs i kvs rs) (nd : nms.Nodup) (hi : i < nms.length) (dq : d ≠ q) (hr : H r = some (.lst (rwJ nms bs i))) (b : SameBut d H H1) (e1 : H1 d = some (.dK (putK kvs (.inr (nm nms i)) (.ref p)))) (ru : Ru C H1 (.ref p) (nm nms i) (encS (oN nms (bo bs i))))
    (e2 : H2 = upd H1 q (.lst (rs ++ [.ref r]))) : TB C H2 d q nms bs (i + 1) (putK kvs (.inr (nm nms i)) (.ref p)) (rs ++ [.ref r]) := by
  have ne : ∀ j, j < nms.length → j ≠ i → nm nms j ≠ nm nms i := fun j hj n z => n (nm_inj nd hj hi z)
  have hq1 := b _ _ (Ne.symm dq) h.hq
  have ek := putK_new (.ref p) (h.hn i (Nat.le_refl _) hi)
  have ki : ∀ {v x bv}, Ru C H1 v x bv → Ru C H2 v x bv := fun {v x bv} z => by
    obtain ⟨p', dx, fs, e, h1, h2⟩ := z
    refine ⟨p', dx, fs, e, ?_, h2⟩
    rw [e2, upd_ne (fun z => by rw [z, hq1] at h1; cases h1)]
    exact h1
  have k0 : ∀ {v x bv}, Ru C H v x bv → Ru C H1 v x bv := fun {v x bv} z => by
    obtain ⟨p', dx, fs, e, h1, h2⟩ := z
    exact ⟨p', dx, fs, e, b _ _ (fun z => by rw [z, h.hd] at h1; cases h1) h1, h2⟩
  have kr : ∀ {r' : Addr} {j : Nat}, H r' = some (.lst (rwJ nms bs j)) → H2 r' = some (.lst (rwJ nms bs j)) := fun {r' j} z => by
    obtain ⟨t, ht⟩ := rw_hd nms bs j
    rw [e2, upd_ne (fun y => ?_)]
    · exact b _ _ (fun y => by rw [y, h.hd] at z; cases z) z
    · rw [y, h.hq] at z
      injection z with z
      injection z with z
      rw [ht] at z
      obtain ⟨r0, e0, _⟩ := h.hr 0 (.str (wS "term")) (by rw [z]; rfl)
      cases e0
  refine ⟨?_, ?_, ?_, fun j hj => ?_, fun j h1 h2 => ?_, ?_, fun j y e => ?_⟩
  · rw [e2, upd_ne dq]; exact e1
  · rw [e2]; exact upd_same
  · rw [ek, List.length_append, h.kl]; rfl
  · by_cases c : j = i
    · subst c
      refine ⟨.ref p, ?_, ?_, ki ru⟩
      · rw [ek, List.map_append, List.getElem?_append_right (by rw [List.length_map, h.kl]; exact Nat.le_refl _), List.length_map, h.kl, Nat.sub_self]; rfl
      · rw [valV_put, if_pos rfl]
    · obtain ⟨y, h1, h2, h3⟩ := h.hv j (by omega)
      refine ⟨y, ?_, ?_, ki (k0 h3)⟩
      · rw [ek, List.map_append, List.getElem?_append_left (by rw [List.length_map, h.kl]; omega)]; exact h1
      · rw [valV_put, if_neg (fun z => ne j (by omega) c (Sum.inr.inj z))]; exact h2
  · rw [valV_put, if_neg (fun z => ne j h2 (by omega) (Sum.inr.inj z))]
    exact h.hn j (by omega) h2
  · rw [List.length_append, h.rl]; rfl
  · by_cases c : j < rs.length
    · rw [List.getElem?_append_left c] at e
      obtain ⟨r', h1, h2⟩ := h.hr j y e
      exact ⟨r', h1, kr h2⟩
    · rw [List.getElem?_append_right (by omega)] at e
      have l : j - rs.length < 1 := (List.getElem?_eq_some_iff.mp e).1
      obtain rfl : j = i := by have := h.rl; omega
      rw [show j - rs.length = 0 by omega] at e
      cases e
      exact ⟨r, rfl, kr hr⟩
noncomputable def spBk7 (a : Adr) : Sp := fun vs H Q E => ∃ (nms : List Str) (bs : List (Option Nat)), vs = [.str (textT ((List.range nms.length).map (lnJ nms bs)))] ∧ Wr nms bs ∧ (∀ x ∈ nms, NmOk x) ∧ (∀ (x : Addr) (H' : Hp) (os : List Nat), Same H H' → Bo a.cBook H' x nms os → Ors bs nms.length os → Q (.ref x) H') ∧ OutR a nms bs H E
theorem nm_ok {nms : List Str} (h : ∀ x ∈ nms, NmOk x) {j : Nat} (hj : j < nms.length) : NmOk (nm nms j) := h _ (List.mem_of_getElem? (nm_at hj))
theorem oN_ok {nms : List Str} {bs : List (Option Nat)} (wr : Wr nms bs) (h : ∀ x ∈ nms, NmOk x) (j : Nat) : ∀ y, oN nms (bo bs j) = some y → NmOk y := fun y e => by
  cases eb : bo bs j with
  | none => rw [eb] at e; cases e
  | some b => rw [eb] at e; cases e; exact nm_ok h (wr.ok j b eb)
theorem line_ok {x : Str} {o : Option Str} (hx : NmOk x) (ho : ∀ y, o = some y → NmOk y) : (lineT x o).cps.size ≤ 100 ∧ 1 ≤ (lineT x o).cps.size ∧ 10 ∉ (lineT x o).cps.toList := by
  have e : (lineT x o).cps.toList = jl 32 ((wsF x o).map fun p => p.cps.toList) := join_jl 32 _
  have fr := ws_free hx ho (c := 10) (.inr rfl)
  refine ⟨line_len hx ho, ?_, fun z => ?_⟩
  · rw [← Array.length_toList, e]
    have c : (wS "term").cps.toList.length = 4 := by decide +kernel
    cases o <;> (simp only [wsF, wd, List.cons_append, List.nil_append, List.map_cons, List.map_nil, jl, List.length_append, List.length_cons]; omega)
  · rw [e] at z
    have w : ∀ ps : List (List Nat), (∀ p ∈ ps, 10 ∉ p) → 10 ∉ jl 32 ps := by
      intro ps
      induction ps with
      | nil => exact fun _ h => absurd h List.not_mem_nil
      | cons p r ih =>
        intro h
        cases r with
        | nil => exact h p List.mem_cons_self
        | cons q r =>
          show 10 ∉ p ++ 32 :: jl 32 (q :: r)
          rw [List.mem_append, List.mem_cons]
          rintro (y | y | y)
          · exact h p List.mem_cons_self y
          · cases y
          · exact ih (fun p' hp' => h p' (List.mem_cons_of_mem _ hp')) y
    exact w _ (fun p hp => by obtain ⟨l, hl, rfl⟩ := List.mem_map.mp hp; exact fr l hl) z
theorem lns_ok {nms : List Str} {bs : List (Option Nat)} (wr : Wr nms bs) (h : ∀ x ∈ nms, NmOk x) : Lns ((List.range nms.length).map (lnJ nms bs)) := ⟨by rw [List.length_map, List.length_range]; exact wr.sm, fun l hl => by
  obtain ⟨j, hj, rfl⟩ := List.mem_map.mp hl
  exact line_ok (nm_ok h (List.mem_range.mp hj)) (oN_ok wr h j)⟩

noncomputable def baF (c k : Int) (m : Nat) : Option Nat := if c % 4 = 0 then none else if c % 4 = 1 then some ((k + 1) % (m : Int)).toNat else some (c / 4 % (m : Int)).toNat
theorem baF_lt {c k : Int} {m b : Nat} (hm : 1 ≤ m) (e : baF c k m = some b) : b < m := by
  have h : ∀ z : Int, (z % (m : Int)).toNat < m := fun z => by
    have e0 := Int.emod_nonneg z (show ((m : Nat) : Int) ≠ 0 by omega)
    have e1 := Int.emod_lt_of_pos z (show (0 : Int) < (m : Nat) by omega)
    omega
  unfold baF at e
  split at e
  · cases e
  · split at e <;> (cases e; exact h _)
noncomputable def spBs7 : Sp := fun vs H Q _ => ∃ (c k : Int) (m : Nat), vs = [.int c, .int k, .int (m : Int)] ∧ 1 ≤ m ∧ m ≤ 6 ∧ Q (encO (baF c k m)) H
noncomputable def hasR (bs : List (Option Nat)) : Prop := ∃ k, k < bs.length ∧ itN (bo bs) bs.length (some k) ≠ none
noncomputable def spHr7 : Sp := fun vs H Q _ => ∃ (pb : Addr) (bs : List (Option Nat)), vs = [.ref pb] ∧ H pb = some (.lst (bs.map encO)) ∧ bs.length ≤ 6 ∧ (∀ k b, bo bs k = some b → b < bs.length) ∧ (hasR bs → Q (.bl true) H) ∧ (¬ hasR bs → Q (.bl false) H)
theorem itN_lt {f : Nat → Option Nat} {n k : Nat} (ok : ∀ k b, f k = some b → b < n) (hk : k < n) : ∀ t b, itN f t (some k) = some b → b < n
  | 0, b, e => by cases e; exact hk
  | t + 1, b, e => by
    rw [itN_succ] at e
    cases h : itN f t (some k) with
    | none => rw [h] at e; cases e
    | some c => rw [h] at e; exact ok c b e
theorem len_c : (Str.ofString "term ").length = 5 ∧ (Str.ofString " of a due b ").length = 12 ∧ (Str.ofString "from c 1 days").length = 13 ∧ (Str.ofString "behind ").length = 7 ∧ (Str.ofString " 2 weeks").length = 8 := by decide +kernel
noncomputable def spRs7 (a : Adr) : Sp := fun vs H Q _ => ∃ (pn pb : Addr) (nms : List Str) (bs : List (Option Nat)), vs = [.ref pn, .ref pb] ∧ H pn = some (.lst (nms.map V.str)) ∧ H pb = some (.lst (bs.map encO)) ∧ Wr nms bs ∧ ∀ (q : Addr) (H' : Hp) (us : List V), H q = none → Same H H' → H' q = some (.lst us) → Rus a.cRule H' us nms bs → Q (.ref q) H'
noncomputable def spTx7 : Sp := fun vs H Q _ => ∃ (pn pb : Addr) (nms : List Str) (bs : List (Option Nat)), vs = [.ref pn, .ref pb] ∧ H pn = some (.lst (nms.map V.str)) ∧ H pb = some (.lst (bs.map encO)) ∧ Wr nms bs ∧ (∀ x ∈ nms, NmOk x) ∧ ∀ H', Same H H' → Q (.str (textT ((List.range nms.length).map (lnJ nms bs)))) H'
theorem str_ext {x y : Str} (h : x.cps.toList = y.cps.toList) : x = y := by
  cases x; cases y
  simp only at h
  exact congrArg Str.mk (Array.toList_inj.mp h)
theorem cat_list (x y : Str) : (x ++ y).cps.toList = x.cps.toList ++ y.cps.toList := by rw [Str.cps_append, Array.toList_append]
theorem way0 (x : Str) : wS "term " ++ x ++ wS " of a due b " ++ wS "from c 1 days" = lineT x none := str_ext (by
  rw [show (lineT x none).cps.toList = jl 32 ((wsF x none).map fun p => p.cps.toList) from join_jl 32 _, cat_list, cat_list, cat_list]
  have c1 : (wS "term ").cps.toList = (wS "term").cps.toList ++ [32] := by decide +kernel
  have c2 : (wS " of a due b ").cps.toList ++ (wS "from c 1 days").cps.toList = 32 :: jl 32 ((wsF x none).drop 2 |>.map fun p => p.cps.toList) := by
    show _ = 32 :: jl 32 (([wS "of", wS "a", wS "due", wS "b", wS "from", wS "c", wS "1", wS "days"]).map fun p => p.cps.toList)
    decide +kernel
  rw [c1, List.append_assoc, List.append_assoc, List.append_assoc, c2]
  rfl)
theorem way1 (x y : Str) : wS "term " ++ x ++ wS " of a due b " ++ (wS "behind " ++ y ++ wS " 2 weeks") = lineT x (some y) := str_ext (by
  rw [show (lineT x (some y)).cps.toList = jl 32 ((wsF x (some y)).map fun p => p.cps.toList) from join_jl 32 _, cat_list, cat_list, cat_list, cat_list, cat_list]
  have c1 : (wS "term ").cps.toList = (wS "term").cps.toList ++ [32] := by decide +kernel
  have c2 : (wS " of a due b ").cps.toList ++ (wS "behind ").cps.toList = 32 :: jl 32 (([wS "of", wS "a", wS "due", wS "b", wS "behind"]).map fun p => p.cps.toList) ++ [32] := by decide +kernel
  have c3 : (wS " 2 weeks").cps.toList = 32 :: jl 32 (([wS "2", wS "weeks"]).map fun p => p.cps.toList) := by decide +kernel
  show _ = (wS "term").cps.toList ++ 32 :: (x.cps.toList ++ 32 :: ((wS "of").cps.toList ++ 32 :: ((wS "a").cps.toList ++ 32 :: ((wS "due").cps.toList ++ 32 :: ((wS "b").cps.toList ++ 32 :: ((wS "behind").cps.toList ++ 32 :: (y.cps.toList ++ 32 :: ((wS "2").cps.toList ++ 32 :: (wS "weeks").cps.toList))))))))
  have e : (wS " of a due b ").cps.toList ++ ((wS "behind ").cps.toList ++ y.cps.toList ++ (wS " 2 weeks").cps.toList) = ((wS " of a due b ").cps.toList ++ (wS "behind ").cps.toList) ++ (y.cps.toList ++ (wS " 2 weeks").cps.toList) := by simp only [List.append_assoc]
  rw [List.append_assoc _ (wS " of a due b ").cps.toList, e, c1, c2, c3]
  simp only [List.map_cons, List.map_nil, jl, List.append_assoc, List.cons_append, List.nil_append])
theorem join_ok {ls : List Str} (h : Lns ls) : JoinOk (wS "\n") ls = true ∧ Txt.join (wS "\n") ls = textT ls := by
  constructor
  · unfold JoinOk
    rw [StrLaws.joinFits (B := 100) (fun p hp => (h.c p hp).1) (by
      have := h.n
      rw [show (wS "\n").length = 1 by decide +kernel]
      show ls.length * 100 + ls.length * 1 ≤ 16777216
      omega)]
    rfl
  · show Builtin.Str.glued _ _ = _
    rw [StrLaws.glued_eq_join, newl]
    rfl
theorem hcl_true {K : PySem.W.Frag} {c : Value} {suite rest : TH} {D : Ends} {σ : L2.St} {x C : Addr} {od : Option Addr} {H : Hp} (e : PySem.W.exmOne K (.ref C) c = some true) (h : suite D σ x C od H) : hCl K c suite rest D σ x C od H := by
  unfold hCl; rw [e]; exact h

noncomputable def spTd7 (a : Adr) : Sp := fun vs H Q _ => ∃ (w : Int) (pn pb : Addr) (nms : List Str) (bs : List (Option Nat)), vs = [.int w, .ref pn, .ref pb] ∧ H pn = some (.lst (nms.map V.str)) ∧ H pb = some (.lst (bs.map encO)) ∧ Wr nms bs ∧ (∀ x ∈ nms, NmOk x) ∧ (∀ (H' : Hp) (os : List Nat), Same H H' → Ors bs nms.length os → Q .non H') ∧
  (∀ (t l : Addr) (H' : Hp) (r : List Nat), Same H H' → H' t = some (.tup [.str (wS "ring"), .ref l, .bl true]) → H' l = some (.lst ((r.map (nm nms)).map V.str)) → Rg (bo bs) nms.length r → Q (.ref t) H')
noncomputable def spIr7 : Sp := fun vs H Q _ => ∃ (t l pn pb : Addr) (nms : List Str) (bs : List (Option Nat)) (r : List Nat), vs = [.ref t, .ref pn, .ref pb] ∧ H pn = some (.lst (nms.map V.str)) ∧ H pb = some (.lst (bs.map encO)) ∧ Wr nms bs ∧ H t = some (.tup [.str (wS "ring"), .ref l, .bl true]) ∧ H l = some (.lst ((r.map (nm nms)).map V.str)) ∧ Rg (bo bs) nms.length r ∧ ∀ H', Same H H' → Q (.bl true) H'
noncomputable def spIo7 : Sp := fun vs H Q _ => ∃ (pn pb : Addr) (nms : List Str) (bs : List (Option Nat)), vs = [.ref pn, .ref pb] ∧ H pn = some (.lst (nms.map V.str)) ∧ H pb = some (.lst (bs.map encO)) ∧ Wr nms bs ∧ (∀ x ∈ nms, NmOk x) ∧ (∃ os, Ors bs nms.length os) ∧ ∀ H', Same H H' → Q (.bl true) H'
noncomputable def spRt7 : Sp := fun vs H Q _ => ∃ (w : Int) (pn pb : Addr) (nms : List Str) (bs : List (Option Nat)), vs = [.ref pn, .ref pb, .int w] ∧ H pn = some (.lst (nms.map V.str)) ∧ H pb = some (.lst (bs.map encO)) ∧ Wr nms bs ∧ (∀ x ∈ nms, NmOk x) ∧ ∀ H', Same H H' → Q (.bl true) H'
theorem rg_has {bs : List (Option Nat)} {n : Nat} {r : List Nat} (ln : bs.length = n) (h : Rg (bo bs) n r) : hasR bs := by
  cases r with
  | nil => exact absurd rfl h.ne
  | cons k r =>
    refine ⟨k, by rw [ln]; exact h.lt k List.mem_cons_self, fun z => ?_⟩
    refine no_root (f := bo bs) (is := k :: r) (fun j hj => ?_) k List.mem_cons_self ⟨_, z⟩
    obtain ⟨i, hi, rfl⟩ := List.getElem_of_mem hj
    have e := h.nx i _ (List.getElem?_eq_getElem hi)
    have l : (i + 1) % (k :: r).length < (k :: r).length := Nat.mod_lt _ (by rw [List.length_cons]; omega)
    rw [List.getElem?_eq_getElem l] at e
    exact ⟨_, e, List.getElem_mem l⟩
theorem ors_no {bs : List (Option Nat)} {os : List Nat} (h : Ors bs bs.length os) : ¬ hasR bs := fun ⟨k, hk, z⟩ => z (by
  obtain ⟨p, hp, e⟩ := List.getElem_of_mem (h.al k hk)
  have l := nd_le h.nd h.lt
  exact itN_up (od_it h.od p k (by rw [List.getElem?_eq_getElem hp, e])) (by omega))

theorem wds_ok {L : List Nat} {n e : Nat} {t : Int} (hL : L.all low = true) (hn : n + 1 ≤ L.length) (h8 : L.length ≤ 8) (k : Nat) : NmOk (wdS L n e t k) := by
  have sg : low (sgn t e k) = true := by
    unfold low sgn
    rw [decide_eq_true (show 97 ≤ 97 + _ by omega), decide_eq_true (show 97 + ((t + ((k / (1 + e) : Nat) : Int)) % 26).toNat ≤ 122 by omega)]; rfl
  have tk : ∀ m, (L.take m).all low = true := fun m => List.all_eq_true.mpr fun x hx => List.all_eq_true.mp hL x (List.mem_of_mem_take hx)
  have dr : ∀ m, (L.drop m).all low = true := fun m => List.all_eq_true.mpr fun x hx => List.all_eq_true.mp hL x (List.mem_of_mem_drop hx)
  unfold wdS
  split
  · refine ⟨?_, ?_, ?_⟩
    · show 1 ≤ (L.take n ++ [sgn t e k]).toArray.size
      rw [List.size_toArray, List.length_append, List.length_singleton]; omega
    · show (L.take n ++ [sgn t e k]).toArray.size ≤ 8
      rw [List.size_toArray, List.length_append, List.length_singleton, List.length_take]; omega
    · show (L.take n ++ [sgn t e k]).all low = true
      rw [List.all_append, tk, List.all_cons, sg]; rfl
  · refine ⟨?_, ?_, ?_⟩
    · show 1 ≤ (wdL L n (sgn t e k)).toArray.size
      rw [List.size_toArray]; unfold wdL; rw [List.length_append, List.length_cons]; omega
    · show (wdL L n (sgn t e k)).toArray.size ≤ 8
      rw [List.size_toArray]; unfold wdL; rw [List.length_append, List.length_cons, List.length_take, List.length_drop]; omega
    · show (wdL L n (sgn t e k)).all low = true
      unfold wdL; rw [List.all_append, tk, List.all_cons, sg, dr]; rfl
noncomputable def spWo7 : Sp := fun vs H Q _ => ∃ (c : Int) (m : Nat), vs = [.int c, .int (m : Int)] ∧ m ≤ 6 ∧ ∀ (q : Addr) (H' : Hp) (nms : List Str), H q = none → Same H H' → H' q = some (.lst (nms.map V.str)) → nms.length = m → nms.Nodup → (∀ x ∈ nms, NmOk x) → Q (.ref q) H'
theorem low26 {j : Nat} (h : j < 26) : low (97 + j) = true := by
  unfold low
  rw [decide_eq_true (by omega), decide_eq_true (by omega)]; rfl

theorem set_none {bs : List (Option Nat)} {j : Nat} : (bs.map encO).set j .non = (bs.set j none).map encO := by rw [List.map_set]; rfl
theorem bo_set {bs : List (Option Nat)} {j k b : Nat} (h : bo (bs.set j none) k = some b) : bo bs k = some b := by
  unfold bo at h ⊢
  rw [List.getD_eq_getElem?_getD, List.getElem?_set] at h
  rw [List.getD_eq_getElem?_getD]
  by_cases c : j = k
  · rw [if_pos c] at h
    split at h <;> cases h
  · rw [if_neg c] at h; exact h
theorem wr_set {nms : List Str} {bs : List (Option Nat)} (w : Wr nms bs) (j : Nat) : Wr nms (bs.set j none) := ⟨w.nd, by rw [List.length_set]; exact w.len, w.sm, fun k b e => w.ok k b (bo_set e)⟩

section
variable {P : Program} {w : World} {K : PySem.W.Frag} {mg : Str → Option Value} {base : Heap} {a : Adr}
set_option maxHeartbeats 4000000 in
theorem okRingInit (T : Txt K mg a) : FnOk P w K mg base CX0 1 a.fRingInit a.gRingInit ["self", "names"] (spIL K) := by
  refine T.dRingInit.fn.ok scRingInit (fun vs H Q E h => ?_) (fun cdv A outer s H vs Q E hr h => ?_)
  · obtain ⟨_, _, _, _, _, rfl, _⟩ := h
    all_goals rfl
  · obtain ⟨x, C, l, zs, ini, rfl, hx, hl, xa, n1, k⟩ := h
    refine ⟨_, (pss_cons (ps_expr (pe_binit T.b_CourtError rfl T.m_CourtError (pa_cons (pv 0) (pa_cons (pe_callTy call_list_of (by rfl) T.n_list boot_list (pa_cons (pv 1) pa_nil star_nam)) pa_nil star_cal) star_nam)))
      (pss_one (ps_xfld (pv 0) (pe_callTy call_list_of (by rfl) T.n_list boot_list (pa_cons (pv 1) pa_nil star_nam)) rfl))), ?_⟩
    have nl : ∀ {p : Addr}, H p = none → p ≠ x := fun hp z => by rw [z, hx] at hp; cases hp
    refine ⟨_, rfl, _, rfl, l, zs, rfl, .inl hl, fun p1 h1 => ?_⟩
    have hx1 : upd H p1 (.lst zs) x = some (exO x C none true) := by rw [upd_ne (Ne.symm (nl h1))]; exact hx
    refine ⟨x, C, none, [.ref p1], ini, rfl, hx1, xa.xc, fits (show 1 ≤ 100000 by decide), ?_⟩
    have hl2 : SqL K (upd H p1 (.lst zs)) l zs := (same_upd h1).seq hl
    refine ⟨_, rfl, l, zs, rfl, .inl hl2, fun p3 h3 => ?_⟩
    have h30 : H p3 = none := (same_upd h1).free h3
    have n31 : p3 ≠ p1 := fun z => by rw [z, upd_same] at h3; cases h3
    have hx3 : upd (upd H p1 (.lst zs)) p3 (.lst zs) x = some (exO x C none true) := by rw [upd_ne (Ne.symm (nl h30))]; exact hx1
    refine ⟨_, rfl, x, C, true, rfl, xa.set n1, .inl ⟨hx3, fun dx hd => ?_⟩⟩
    have hd0 : H dx = none := ((same_upd h1).trans (same_upd h3)).free hd
    have nd3 : p3 ≠ dx := fun z => by rw [← z, upd_same] at hd; cases hd
    exact k dx p3 _ hd0 h30 (fun b o hb e => by rw [upd_ne hb, upd_ne (ne_of_none e hd0), upd_ne (ne_of_none e h30), upd_ne (ne_of_none e h1)]; exact e) upd_same (by rw [upd_ne (nl hd0)]; exact upd_same) (by rw [upd_ne (nl h30), upd_ne nd3]; exact upd_same)
set_option maxHeartbeats 4000000 in
theorem okUntaken (T : Txt K mg a) : FnOk P w K mg base (CX1 P w) 3 a.fUntaken a.gUntaken ["name", "bases", "taken"] (spUn7 a) := by
  refine okX T.dUntaken.fn scUntaken (fun vs H Q E h => ?_) (fun cdv A outer s H vs Q E hr h => ?_)
  · obtain ⟨_, _, _, _, _, _, _, rfl, _⟩ := h
    all_goals rfl
  · obtain ⟨d, t, kvs, nms, bs, os, k0, rfl, hd, ht, wr, lto, hk, dic, k, kx⟩ := h
    refine ⟨_, (pss_cons (ps_set (i := 3) scUntaken.nd rfl (Or.inl rfl) (pe_lst pa_nil))
      (pss_cons (ps_set (i := 4) scUntaken.nd rfl (Or.inl rfl) (pv 0))
      (pss_cons (ps_while PassesOwn.leaving (PW.pt (pw_and (pt_cmpR op_notN (pv 4) pe_non (nomark _)) (pw_and1 (pt_cmpR op_notIn_seq (pv 4) (pv 2) (by with_unfolding_all rfl))))) (pss_cons (ps_if (pt_cmpR op_in_seq (pv 4) (pv 3) (by with_unfolding_all rfl)) (pss_one (ps_raise rfl (Takes.at takes_fn) (pe_excI T.x_Ring.xc T.dRingInit.ty (okRingInit T) (hr.mono (by decide)) rfl T.m_Ring T.x_Ring.kp T.dRingInit.bd .nil pass0 (pa_cons (pe_slice sl_list (pv 3) (po_some (pe_bm PySem.F.plainAttrs_list PySem.F.slot_list_index PySem.F.type_list_index mt_indexS (pv 3) (pa_cons (pv 4) pa_nil star_nam))) po_none) pa_nil star_sub)))) pss_nil)
      (pss_cons (ps_expr (pe_bm PySem.F.plainAttrs_list PySem.F.slot_list_append PySem.F.type_list_append mt_append (pv 3) (pa_cons (pv 4) pa_nil star_nam)))
      (pss_one (ps_set (i := 4) scUntaken.nd rfl (Or.inl rfl) (pe_dget (hu_of hr) (pv 1) (pv 4) (fun _ _ => rfl)))))))
      (pss_one (ps_ret (pv 3)))))), ?_⟩
    refine ⟨fit0, fun q hq => ?_⟩
    have s0 := same_upd (o := .lst []) hq
    have h0 := upd_same (H := H) (a := q) (o := .lst [])
    generalize upd H q _ = H0 at s0 h0 ⊢
    refine ⟨_, rfl, ?_⟩
    refine ⟨fun m σ' H' => Same H H' ∧ ∃ (is : List Nat) (o : Option Nat), σ' = [some (.str (nm nms k0)), some (.ref d), some (.ref t), some (.ref q), some (encN nms o)] ∧ H' q = some (.lst ((is.map (nm nms)).map V.str)) ∧ Ch (bo bs) is o ∧ is.Nodup ∧ (∀ j ∈ is, j < nms.length ∧ j ∉ os) ∧ (∀ j, o = some j → j < nms.length) ∧ (is ++ o.toList)[0]? = some k0 ∧ m + is.length = 7, ⟨7, s0, [], some k0, rfl, h0, (fun i k e => by cases e), .nil, (fun j hj => absurd hj List.not_mem_nil), (fun j e => by cases e; exact hk), rfl, rfl⟩, ?_⟩
    rintro m σ' H' ⟨s1, is, o, rfl, h1, ch, nd, lt, lo, st, hm⟩
    cases o with
    | none => exact ⟨_, rfl, rfl, _, rfl, iteND rfl (iteF ⟨_, rfl, k q H' is none hq s1 h1 ch nd lt st (fun j z => nomatch z)⟩)⟩
    | some j =>
      have hj := lo j rfl
      dsimp only [encN]
      refine ⟨_, rfl, rfl, _, rfl, iteNN (fun z => nomatch z) ⟨_, rfl, _, rfl, _, _, rfl, .inl (SqL.of (s1 _ _ ht)), rfl, flat_strs _, _, rfl, ?_⟩⟩
      show if (!inV (.str (nm nms j)) ((os.map (nm nms)).map V.str)) = true then _ else _
      rw [inV_strs]
      cases ec : (os.map (nm nms)).contains (nm nms j) with
      | true => exact iteF ⟨_, rfl, k q H' is (some j) hq s1 h1 ch nd lt st (fun i z => by cases z; exact (nm_mem wr.nd lto hj).mp ec)⟩
      | false =>
        have nj : j ∉ os := fun z => by rw [(nm_mem wr.nd lto hj).mpr z] at ec; cases ec
        have ln := nd_le nd fun k hk => (lt k hk).1
        have sm := wr.sm
        obtain ⟨m, rfl⟩ : ∃ f, m = f + 1 := ⟨m - 1, by omega⟩
        have lti : ∀ k ∈ is, k < nms.length := fun k hk => (lt k hk).1
        refine iteT ⟨fun σ' H' => Same H H' ∧ ∃ (is : List Nat) (o : Option Nat), σ' = [some (.str (nm nms k0)), some (.ref d), some (.ref t), some (.ref q), some (encN nms o)] ∧ H' q = some (.lst ((is.map (nm nms)).map V.str)) ∧ Ch (bo bs) is o ∧ is.Nodup ∧ (∀ j ∈ is, j < nms.length ∧ j ∉ os) ∧ (∀ j, o = some j → j < nms.length) ∧ (is ++ o.toList)[0]? = some k0 ∧ m + is.length = 7, fun σ2 H2 z => ⟨m, Nat.lt_succ_self m, z⟩, ?_⟩
        refine ⟨_, rfl, _, rfl, _, _, rfl, .inl (SqL.of h1), rfl, flat_strs _, _, rfl, ?_⟩
        show if (inV (.str (nm nms j)) ((is.map (nm nms)).map V.str)) = true then _ else _
        rw [inV_strs]
        cases ep : (is.map (nm nms)).contains (nm nms j) with
        | true =>
          have mj := (nm_mem wr.nd lti hj).mp ep
          obtain ⟨i0, g1, g2, g3⟩ := nm_ix wr.nd lti hj nd mj
          have ld : ((is.map (nm nms)).map V.str).drop i0 = ((is.drop i0).map (nm nms)).map V.str := by rw [List.map_drop, List.map_drop]
          refine iteT ⟨_, rfl, _, rfl, .inl ⟨rfl, _, SqL.of h1⟩, _, rfl, q, _, _, i0, rfl, rfl, h1, g2, g3, _, rfl, _, _, rfl, SqL.of h1, fun p5 h5 => ?_⟩
          have li : i0 < is.length := (List.getElem?_eq_some_iff.mp g1).1
          rw [cut_drop _ _ (by rw [List.length_map, List.length_map]; omega), ld]
          have s5 := same_upd (o := .lst (((is.drop i0).map (nm nms)).map V.str)) h5
          have e5 := upd_same (H := H') (a := p5) (o := .lst (((is.drop i0).map (nm nms)).map V.str))
          generalize upd H' p5 _ = H5 at s5 e5 ⊢
          refine ⟨fits (show 1 ≤ 100000 by decide), fun x1 n1 => ⟨x1, a.cRing, p5, _, _, rfl, upd_same, SqL.of (same_upd n1 _ _ e5), T.x_Ring, xno_of T.n_Ring (by decide), fun d1 l1 H6 hd1 hl1 kp o1 od1 ol1 => ⟨rfl, ?_⟩⟩⟩
          have s6 : Same H5 H6 := keep_same n1 kp
          have nx1 : d1 ≠ x1 := fun z => by rw [z, upd_same] at hd1; cases hd1
          have nl1 : l1 ≠ x1 := fun z => by rw [z, upd_same] at hl1; cases hl1
          exact ⟨x1, _, some d1, rfl, o1, ⟨_, od1⟩, T.r_Ring, kx x1 d1 l1 _ _ (same_add (s1.trans (s5.trans s6)) ((s1.trans s5).free n1)) upd_same ((upd_ne nx1).trans od1) ((upd_ne nl1).trans ol1) (ch_rg ch nd lti g1)⟩
        | false =>
          have mj : j ∉ is := fun z => by rw [(nm_mem wr.nd lti hj).mpr z] at ep; cases ep
          have lz : ((is.map (nm nms)).map V.str).length ≤ 90000 := by rw [List.length_map, List.length_map]; omega
          refine iteF ⟨_, rfl, .inl ⟨rfl, _, SqL.of h1⟩, _, rfl, _, _, _, rfl, rfl, h1, lt1000 lz, ?_⟩
          have s2 : Same H (upd H' q (.lst ((is.map (nm nms)).map V.str ++ [V.str (nm nms j)]))) := same_add s1 hq
          have h2 : upd H' q (.lst ((is.map (nm nms)).map V.str ++ [V.str (nm nms j)])) q = some (.lst (((is ++ [j]).map (nm nms)).map V.str)) := by rw [upd_same, List.map_append, List.map_append]; rfl
          generalize upd H' q _ = H2 at s2 h2 ⊢
          refine ⟨_, rfl, _, rfl, d, _, rfl, (dic j hj) ▸ DGet.k (k := .inr (nm nms j)) (s2 _ _ hd), ?_⟩
          refine ⟨s2, is ++ [j], bo bs j, rfl, h2, ch.snoc, ?_, fun i hi => ?_, fun i e => wr.ok j i e, ?_, by rw [List.length_append, List.length_singleton]; omega⟩
          · rw [List.nodup_append]
            exact ⟨nd, List.nodup_cons.mpr ⟨List.not_mem_nil, .nil⟩, fun a ha b hb e => mj (by rw [← List.mem_singleton.mp hb, ← e]; exact ha)⟩
          · rcases List.mem_append.mp hi with z | z
            · exact lt i z
            · rw [List.mem_singleton.mp z]; exact ⟨hj, nj⟩
          · have e : (is ++ [j])[0]? = some k0 := st
            rw [List.getElem?_append_left (by rw [List.length_append, List.length_singleton]; omega)]
            exact e
set_option maxHeartbeats 4000000 in
theorem okHangingOrder (T : Txt K mg a) : FnOk P w K mg base (CX1 P w) 4 a.fHangingOrder a.gHangingOrder ["rules"] (spHa7 a) := by
  refine okX T.dHangingOrder.fn scHangingOrder (fun vs H Q E h => ?_) (fun cdv A outer s H vs Q E hr h => ?_)
  · obtain ⟨_, _, _, _, rfl, _⟩ := h
    all_goals rfl
  · obtain ⟨pr, us, nms, bs, rfl, hp, hrl, wr, k, kx⟩ := h
    refine ⟨_, (pss_cons (ps_set (i := 1) scHangingOrder.nd rfl (Or.inl rfl) pe_dnewK)
      (pss_cons (ps_for PassesOwn.leaving rfl (pi_list (pv 0)) (pg_name (i := 2) scHangingOrder.nd rfl (Or.inl rfl)) (pss_one (ps_dput (hu_of hr) (pv 1) (pe_fld (pv 2) rfl) (pe_fld (pv 2) rfl) rfl)))
      (pss_cons (ps_set (i := 3) scHangingOrder.nd rfl (Or.inl rfl) (pe_lst pa_nil))
      (pss_cons (ps_for PassesOwn.leaving rfl (pi_list (pv 0)) (pg_name (i := 2) scHangingOrder.nd rfl (Or.inl rfl)) (pss_one (ps_aug (i := 3) scHangingOrder.nd rfl (Or.inl rfl) (pe_listRev rfl (by rfl) T.n_list (by rfl) T.n_reversed boot_list (pa_cons (pe_callX (okUntaken T) (hr.mono (by decide)) rfl T.dUntaken.mgx T.dUntaken.fn.kp T.dUntaken.bd .nil (Takes.at takes_fn) (pa_cons (pe_fld (pv 2) rfl) (pa_cons (pv 1) (pa_cons (pv 3) pa_nil star_nam) star_nam) star_att)) pa_nil star_cal)) ip_ext)))
      (pss_one (ps_ret (pv 3))))))), ?_⟩
    refine fun d hd => ?_
    have s0 := same_upd (o := .dK []) hd
    have h0 := upd_same (H := H) (a := d) (o := .dK [])
    generalize upd H d _ = H0 at s0 h0 ⊢
    have sm := wr.sm
    refine ⟨_, rfl, _, rfl, ⟨_, SqL.of (s0 _ _ hp)⟩, for_list (K := K) (a := pr) (xs := us) (fun i σ H' => Same H H' ∧ ∃ (v2 : Option V) (kvs : List (Key × V)), σ = [some (.ref pr), some (.ref d), v2, none] ∧ H' d = some (.dK kvs) ∧ kvs.length ≤ i ∧ ∀ k < i, valV kvs (.inr (nm nms k)) = some (encN nms (bo bs k)))
      ⟨s0, none, [], rfl, h0, Nat.le_refl _, fun k hk => absurd hk (Nat.not_lt_zero _)⟩ (fun i σ H' _ h => SqL.of (h.1 _ _ hp)) ?_ ?_⟩
    · rintro i x σ H' hx ⟨s1, v2, kvs, rfl, h1, hl, hv⟩
      have hi : i < nms.length := by rw [← hrl.1]; exact (List.getElem?_eq_some_iff.mp hx).1
      obtain ⟨p, dx, fs, rfl, r1, r2, r3⟩ := (hrl.2 i x hx).same s1
      refine ⟨_, rfl, _, _, _, _, _, rfl, r1, T.c_Rule, xno_of T.n_Rule (by decide), r3, _, rfl, _, rfl, _, _, _, _, _, rfl, r1, T.c_Rule, xno_of T.n_Rule (by decide), r2, d, _, rfl, DPut.k (k := .inr (nm nms i)) h1 (by rw [sizeLine_eq]; omega), ?_⟩
      exact ⟨same_add s1 hd, _, _, rfl, upd_same, Nat.le_trans (length_putK _ _ _) (Nat.succ_le_succ hl), dic_put wr.nd hi hv⟩
    · rintro σ H1 ⟨s1, v2, kvs, rfl, h1, hl, hv⟩
      rw [hrl.1] at hv
      refine ⟨fit0, fun t ht => ?_⟩
      have s2 := s1.trans (same_upd (o := .lst []) ht)
      have h2 := same_upd (o := .lst []) ht _ _ h1
      have h3 := upd_same (H := H1) (a := t) (o := .lst [])
      have nt := s1.free ht
      have ntd : d ≠ t := fun z => by rw [← z, h1] at ht; cases ht
      generalize upd H1 t _ = H2 at s2 h2 h3 ⊢
      refine ⟨_, rfl, _, rfl, ⟨_, SqL.of (s2 _ _ hp)⟩, for_list (K := K) (a := pr) (xs := us) (fun i σ H' => Same H H' ∧ H' d = some (.dK kvs) ∧ (∃ os : List Nat, H' t = some (.lst ((os.map (nm nms)).map V.str)) ∧ os.Nodup ∧ (∀ j ∈ os, j < nms.length) ∧ Od (bo bs) os ∧ ∀ j, j < i → j ∈ os) ∧ ∃ v2 : Option V, σ = [some (.ref pr), some (.ref d), v2, some (.ref t)])
        ⟨s2, h2, ⟨[], h3, .nil, (fun j hj => absurd hj List.not_mem_nil), (fun p k e => by cases e), fun j hj => absurd hj (Nat.not_lt_zero _)⟩, _, rfl⟩ (fun i σ H' _ h => SqL.of (h.1 _ _ hp)) ?_ ?_⟩
      · rintro i x σ H' hx ⟨s1, h1, ⟨os, h3, nd, lto, od, al⟩, v2, rfl⟩
        have hi : i < nms.length := by rw [← hrl.1]; exact (List.getElem?_eq_some_iff.mp hx).1
        obtain ⟨p, dx, fs, rfl, r1, r2, r3⟩ := (hrl.2 i x hx).same s1
        refine ⟨_, rfl, _, rfl, _, _, _, _, _, rfl, r1, T.c_Rule, xno_of T.n_Rule (by decide), r2, _, rfl, _, rfl, _, _, _, nms, bs, os, i, rfl, h1, h3, wr, lto, hi, hv, fun q1 H3 is o n1 z1 e1 ch nd1 lt1 st1 ho => ?_, kx.same s1⟩
        refine ⟨_, _, rfl, SqL.of e1, fun q2 hq2 => ?_⟩
        have er : ((is.map (nm nms)).map V.str).reverse = ((is.reverse.map (nm nms)).map V.str) := by rw [List.map_reverse, List.map_reverse]
        rw [er]
        have z2 := z1.trans (same_upd (o := .lst ((is.reverse.map (nm nms)).map V.str)) hq2)
        have e2 := upd_same (H := H3) (a := q2) (o := .lst ((is.reverse.map (nm nms)).map V.str))
        generalize upd H3 q2 _ = H4 at z2 e2 ⊢
        have lo := nd_le nd lto
        have li := nd_le nd1 fun k hk => (lt1 k hk).1
        refine ⟨_, _, _, _, rfl, rfl, z2 _ _ h3, e2, fits (by rw [List.length_map, List.length_map, List.length_map, List.length_map, List.length_reverse]; omega), ?_⟩
        refine ⟨same_add (s1.trans z2) nt, (upd_ne ntd).trans (z2 _ _ h1), ⟨os ++ is.reverse, ?_, ?_, fun j hj => ?_, od_app od ch ho, fun j hj => ?_⟩, _, rfl⟩
        · rw [upd_same, List.map_append, List.map_append]
        · rw [List.nodup_append]
          exact ⟨nd, List.pairwise_reverse.mpr (nd1.imp Ne.symm), fun a ha b hb e => (lt1 b (List.mem_reverse.mp hb)).2 (e ▸ ha)⟩
        · rcases List.mem_append.mp hj with z | z
          · exact lto j z
          · exact (lt1 j (List.mem_reverse.mp z)).1
        · by_cases c : j = i
          · rw [c]; exact ch_hd st1 ho
          · exact List.mem_append.mpr (.inl (al j (by omega)))
      · rintro σ H' ⟨s1, h1, ⟨os, h3, nd, lto, od, al⟩, v2, rfl⟩
        rw [hrl.1] at al
        exact ⟨_, rfl, k t H' os nt s1 h3 nd lto od al⟩
set_option maxHeartbeats 4000000 in
theorem okIsFigure (T : Txt K mg a) : FnOk P w K mg base CX0 1 a.fIsFigure a.gIsFigure ["sign"] spFig := by
  refine T.dIsFigure.fn.ok scIsFigure (fun vs H Q E h => ?_) (fun cdv A outer s H vs Q E hr h => ?_)
  · obtain ⟨_, rfl, _⟩ := h
    all_goals rfl
  · obtain ⟨c, rfl, k⟩ := h
    refine ⟨_, (pss_one (ps_ret (pe_chain op_le_str op_le_str pe_str (pv 0) pe_str))), ?_⟩
    refine ⟨_, rfl, _, _, rfl, rfl, _, rfl, ?_⟩
    have k' : Q (.bl (fig c)) H := k
    unfold fig at k'
    show if (!decide ((⟨#[c]⟩ : Str).cps.toList < (Str.ofString "0").cps.toList)) = true then _ else _
    rw [le_0]
    by_cases h1 : 48 ≤ c
    · rw [decide_eq_true h1, Bool.true_and] at k'
      rw [decide_eq_true h1]
      refine iteT ⟨_, _, rfl, rfl, ?_⟩
      show Q (.bl (!decide ((Str.ofString "9").cps.toList < (⟨#[c]⟩ : Str).cps.toList))) H
      rw [le_9]; exact k'
    · rw [decide_eq_false h1, Bool.false_and] at k'
      rw [decide_eq_false h1]
      exact iteF k'
set_option maxHeartbeats 4000000 in
theorem okIsWrittenNumber (T : Txt K mg a) : FnOk P w K mg base CX0 2 a.fIsWrittenNumber a.gIsWrittenNumber ["text", "most_figures"] spWn := by
  refine T.dIsWrittenNumber.fn.ok scIsWrittenNumber (fun vs H Q E h => ?_) (fun cdv A outer s H vs Q E hr h => ?_)
  · obtain ⟨_, _, rfl, _⟩ := h
    all_goals rfl
  · obtain ⟨x, m, rfl, hx, k⟩ := h
    refine ⟨_, (pss_cons (ps_if (pt_not (pt_chain op_le op_le pe_int (pe_callB call_len (by rfl) T.n_len boot_len (pa_cons (pv 0) pa_nil star_nam)) (pv 1))) (pss_one (ps_ret pe_bl)) pss_nil)
      (pss_cons (ps_if (pt_not (pt_val (pe_callB (call_allB rfl) (by rfl) T.n_all boot_all (pa_cons (pe_comp (N := ["sign"]) (js := [none]) (XN := ["text", "most_figures"]) (xs := defScope sIsWrittenNumber) rfl rfl rfl (by decide +kernel) (pi_text (pv 0)) (fun _ _ _ _ _ _ => (pg_name (i := 0) (show List.Nodup (["sign"] : List Str) from by decide +kernel) rfl (Or.inl rfl) (Or.inr rfl))) (fun _ _ _ _ _ _ => pts_nil) (fun _ _ _ _ _ _ => (pe_call (okIsFigure T) (hr.mono (by decide)) rfl T.dIsFigure.mgx T.dIsFigure.fn.kp T.dIsFigure.bd .nil pass0 (pa_cons (pv 0) pa_nil star_nam)))) pa_nil star_cmp)))) (pss_one (ps_ret pe_bl)) pss_nil)
      (pss_one (ps_ret (pe_or (pe_cmpR op_eq (pv 0) pe_str (nomark _)) (pe_one (pe_not (pe_bm PySem.F.plainAttrs_str PySem.F.slot_str_startswith PySem.F.type_str_startswith mt_startswith (pv 0) (pa_cons pe_str pa_nil star_con))))))))), ?_⟩
    have hz : x.length ≤ sizeLine := fits (by omega)
    refine ⟨_, rfl, _, _, rfl, ⟨hz, rfl⟩, _, _, rfl, rfl, _, rfl, ?_⟩
    have k0 := k H (Same.refl H)
    unfold wnm at k0
    refine ite2 (fun c => ?_) (fun c => ?_)
    · have c' : 1 ≤ (x.cps.size : Int) := of_decide_eq_true c
      refine ⟨_, rfl, _, _, rfl, rfl, _, rfl, ?_⟩
      refine ite2 (fun d => ?_) (fun d => ?_)
      · have d1 : decide ((x.cps.size : Int) ≤ m) = false := nbF d
        have d' := of_decide_eq_false d1
        rw [decide_eq_false d', Bool.and_false, Bool.false_and] at k0
        exact k0
      · have d1 : decide ((x.cps.size : Int) ≤ m) = true := nbT d
        have d' := of_decide_eq_true d1
        refine ⟨_, rfl, _, rfl, ?_⟩
        refine comp_pure (fun v => match v with | .str y => .bl (fig (y.cps.getD 0 0)) | _ => .non) (fun σ' => ∃ v, σ' = [v]) feeds_text ?_ ?_ (fun v σ' H' R hv sm s1 q => ?_) gk_name fun p hp => ?_
        · rw [List.length_map, Array.length_toList]; exact hz
        · exact ⟨none, rfl⟩
        · obtain ⟨c, hc, rfl⟩ := List.mem_map.mp hv
          obtain ⟨v0, rfl⟩ := s1
          exact ⟨_, rfl, c, rfl, q _ ⟨_, rfl⟩⟩
        refine ⟨p, x.cps.toList.map fig, rfl, SqL.of (by rw [upd_same, List.map_map, List.map_map]; rfl), _, rfl, ?_⟩
        have k1 := k _ (same_upd (o := .lst ((x.cps.toList.map fun c => V.str ⟨#[c]⟩).map fun v => match v with | .str y => .bl (fig (y.cps.getD 0 0)) | _ => .non)) hp)
        unfold wnm at k1
        rw [decide_eq_true (show 1 ≤ x.cps.size by omega), decide_eq_true d', Bool.true_and, Bool.true_and] at k1
        show if (!((x.cps.toList.map fig).all fun b => b)) = true then _ else _
        rw [List.all_map]
        show if (!(x.cps.toList.all fig)) = true then _ else _
        cases e : x.cps.toList.all fig with
        | false =>
          rw [e] at k1
          exact iteT k1
        | true =>
          rw [e, Bool.true_and] at k1
          refine iteF ⟨_, rfl, rfl, _, rfl, ?_⟩
          show if decide (V.str x = V.str (Str.ofString "0")) = true then _ else _
          unfold Wri.plain at k1
          by_cases h0 : x = Str.ofString "0"
          · rw [decide_eq_true h0, Bool.true_or] at k1
            rw [decide_eq_true (congrArg V.str h0)]
            exact iteT k1
          · rw [decide_eq_false h0, Bool.false_or] at k1
            rw [decide_eq_false fun z => h0 (V.str.inj z)]
            refine iteF ⟨_, rfl, rfl, _, _, rfl, rfl, _, rfl, ?_⟩
            show Q (.bl (!Txt.startswith x (Str.ofString "0"))) _
            rw [starts0]
            exact k1
    · have c' : ¬ 1 ≤ (x.cps.size : Int) := fun z => c (decide_eq_true z)
      rw [decide_eq_false (show ¬ 1 ≤ x.cps.size by omega), Bool.false_and, Bool.false_and] at k0
      exact ⟨_, rfl, iteT k0⟩
set_option maxHeartbeats 4000000 in
theorem okNumber (T : Txt K mg a) : FnOk P w K mg base CX0 3 a.fNumber a.gNumber ["text", "most"] spNumber := by
  refine T.dNumber.fn.ok scNumber (fun vs H Q E h => ?_) (fun cdv A outer s H vs Q E hr h => ?_)
  · obtain ⟨_, _, rfl, _⟩ := h
    all_goals rfl
  · obtain ⟨x, m, rfl, hx, m1, m2, k, kn⟩ := h
    refine ⟨_, (pss_cons (ps_if (pt_not (pt_val (pe_call (okIsWrittenNumber T) (hr.mono (by decide)) rfl T.dIsWrittenNumber.mgx T.dIsWrittenNumber.fn.kp T.dIsWrittenNumber.bd .nil pass0 (pa_cons (pv 0) (pa_cons (pe_callB call_len (by rfl) T.n_len boot_len (pa_cons (pe_callTy call_str_int (by rfl) T.n_str boot_str (pa_cons (pv 1) pa_nil star_nam)) pa_nil star_cal)) pa_nil star_cal) star_nam)))) (pss_one (ps_ret pe_non)) pss_nil)
      (pss_cons (ps_set (i := 2) scNumber.nd rfl (Or.inl rfl) (pe_callTy call_intT (by rfl) T.n_int boot_int (pa_cons (pv 0) pa_nil star_nam)))
      (pss_one (ps_ret (pe_ifExp (pt_chain op_le op_le pe_int (pv 2) (pv 1)) (pv 2) pe_non))))), ?_⟩
    have hL : (ts m).length ≤ 62 := ts_len (by omega) (by decide) m2
    refine ⟨_, rfl, _, rfl, _, rfl, log_ok 62 (by decide +kernel) (by omega) m2, _, _, rfl, ⟨fits (Nat.le_trans hL (by decide)), rfl⟩, x, _, rfl, by omega, fun H1 s1 => ?_⟩
    refine ⟨_, rfl, ?_⟩
    show if (!wnm x ((ts m).length : Nat)) = true then _ else _
    cases e : wnm x ((ts m).length : Nat) with
    | false => exact iteT (kn (by unfold due; rw [e]; rfl) H1 s1)
    | true =>
      have e' := e
      unfold wnm at e'
      simp only [Bool.and_eq_true, decide_eq_true_eq] at e'
      obtain ⟨⟨g1, g2⟩, g3, g4⟩ := e'
      refine iteF ⟨_, rfl, _, _, rfl, int_of g3 g1 (by omega), (by show x.cps.size ≤ 640; omega), _, rfl, _, _, rfl, rfl, _, rfl, ?_⟩
      refine ite2 (fun c1 => ?_) (fun c1 => ?_)
      · refine ⟨_, rfl, _, _, rfl, rfl, _, rfl, ?_⟩
        refine ite2 (fun c2 => ?_) (fun c2 => ?_)
        · exact ⟨_, rfl, k (by unfold due; rw [e, c1, c2]; rfl) H1 s1⟩
        · exact kn (by unfold due; rw [e, c1, Bool.eq_false_iff.mpr c2]; rfl) H1 s1
      · exact ⟨_, rfl, iteF (kn (by unfold due; rw [e, Bool.eq_false_iff.mpr c1]; rfl) H1 s1)⟩
set_option maxHeartbeats 4000000 in
theorem okIsSmallLetter (T : Txt K mg a) : FnOk P w K mg base CX0 1 a.fIsSmallLetter a.gIsSmallLetter ["sign"] spLow := by
  refine T.dIsSmallLetter.fn.ok scIsSmallLetter (fun vs H Q E h => ?_) (fun cdv A outer s H vs Q E hr h => ?_)
  · obtain ⟨_, rfl, _⟩ := h
    all_goals rfl
  · obtain ⟨c, rfl, k⟩ := h
    refine ⟨_, (pss_one (ps_ret (pe_chain op_le_str op_le_str pe_str (pv 0) pe_str))), ?_⟩
    refine ⟨_, rfl, _, _, rfl, rfl, _, rfl, ?_⟩
    have k' : Q (.bl (low c)) H := k
    unfold low at k'
    show if (!decide ((⟨#[c]⟩ : Str).cps.toList < (Str.ofString "a").cps.toList)) = true then _ else _
    rw [le_a]
    by_cases h1 : 97 ≤ c
    · rw [decide_eq_true h1, Bool.true_and] at k'
      rw [decide_eq_true h1]
      refine iteT ⟨_, _, rfl, rfl, ?_⟩
      show Q (.bl (!decide ((Str.ofString "z").cps.toList < (⟨#[c]⟩ : Str).cps.toList))) H
      rw [le_z]; exact k'
    · rw [decide_eq_false h1, Bool.false_and] at k'
      rw [decide_eq_false h1]
      exact iteF k'
set_option maxHeartbeats 4000000 in
theorem okIsName (T : Txt K mg a) : FnOk P w K mg base CX0 2 a.fIsName a.gIsName ["thing"] spNm7 := by
  refine T.dIsName.fn.ok scIsName (fun vs H Q E h => ?_) (fun cdv A outer s H vs Q E hr h => ?_)
  · obtain ⟨_, rfl, _⟩ := h
    all_goals rfl
  · obtain ⟨x, rfl, ⟨x1, x8, xl⟩, k⟩ := h
    refine ⟨_, (pss_cons (ps_if (pt_not (pt_val (pe_callB call_isi (by rfl) T.n_isinstance boot_isinstance (pa_cons (pv 0) (pa_cons (pe_bltn (v := .ty "str") rfl T.n_str boot_str rfl) pa_nil star_nam) star_nam)))) (pss_one (ps_ret pe_bl)) pss_nil)
      (pss_cons (ps_if (pt_not (pt_chain op_le op_le pe_int (pe_callB call_len (by rfl) T.n_len boot_len (pa_cons (pv 0) pa_nil star_nam)) (pe_glob (v := .int 8) rfl T.g_LONGEST_NAME.choose_spec ⟨_, rfl⟩))) (pss_one (ps_ret pe_bl)) pss_nil)
      (pss_one (ps_ret (pe_callB (call_allB rfl) (by rfl) T.n_all boot_all (pa_cons (pe_comp (N := ["sign"]) (js := [none]) (XN := ["thing"]) (xs := defScope sIsName) rfl rfl rfl (by decide +kernel) (pi_text (pv 0)) (fun _ _ _ _ _ _ => (pg_name (i := 0) (show List.Nodup (["sign"] : List Str) from by decide +kernel) rfl (Or.inl rfl) (Or.inr rfl))) (fun _ _ _ _ _ _ => pts_nil) (fun _ _ _ _ _ _ => (pe_call (okIsSmallLetter T) (hr.mono (by decide)) rfl T.dIsSmallLetter.mgx T.dIsSmallLetter.fn.kp T.dIsSmallLetter.bd .nil pass0 (pa_cons (pv 0) pa_nil star_nam)))) pa_nil star_cmp)))))), ?_⟩
    have hz : x.length ≤ sizeLine := fits (show x.cps.size ≤ 100000 by omega)
    refine ⟨_, rfl, _, _, _, _, rfl, .str _, kit_str_str, _, rfl, iteF ⟨_, rfl, _, _, rfl, ⟨hz, rfl⟩, _, _, rfl, rfl, _, rfl, ?_⟩⟩
    show if decide (1 ≤ (x.cps.size : Int)) = true then _ else _
    rw [decide_eq_true (show 1 ≤ (x.cps.size : Int) by omega)]
    refine iteT ⟨_, _, rfl, rfl, _, rfl, ?_⟩
    show if (!decide ((x.cps.size : Int) ≤ 8)) = true then _ else _
    rw [decide_eq_true (show (x.cps.size : Int) ≤ 8 by omega)]
    refine iteF ⟨_, rfl, _, rfl, ?_⟩
    refine comp_pure (fun v => match v with | .str y => .bl (low (y.cps.getD 0 0)) | _ => .non) (fun σ' => ∃ v, σ' = [v]) feeds_text ?_ ?_ (fun v σ' H' R hv sm s1 q => ?_) gk_name fun p hp => ?_
    · rw [List.length_map, Array.length_toList]; exact hz
    · exact ⟨none, rfl⟩
    · obtain ⟨c, hc, rfl⟩ := List.mem_map.mp hv
      obtain ⟨v0, rfl⟩ := s1
      exact ⟨_, rfl, c, rfl, q _ ⟨_, rfl⟩⟩
    refine ⟨p, x.cps.toList.map low, rfl, SqL.of (by rw [upd_same, List.map_map, List.map_map]; rfl), ?_⟩
    have ea : ((x.cps.toList.map low).all fun b => b) = true := by rw [List.all_map]; exact xl
    rw [ea]
    exact k _ (same_upd hp)
set_option maxHeartbeats 4000000 in
theorem okBookInit (T : Txt K mg a) : FnOk P w K mg base (CX1 P w) 5 a.fBookInit a.gBookInit ["self", "rules"] (spBI7 a) := by
  refine okX T.dBookInit.fn scBookInit (fun vs H Q E h => ?_) (fun cdv A outer s H vs Q E hr h => ?_)
  · obtain ⟨_, _, _, _, _, _, rfl, _⟩ := h
    all_goals rfl
  · obtain ⟨x, dx, pr, us, nms, bs, rfl, hx, hp, hrl, wr, k, kx⟩ := h
    refine ⟨_, (pss_cons (ps_fld (pv 0) (pe_callX (okHangingOrder T) (hr.mono (by decide)) rfl T.dHangingOrder.mgx T.dHangingOrder.fn.kp T.dHangingOrder.bd .nil (Takes.at takes_fn) (pa_cons (pv 1) pa_nil star_nam)) rfl)
      (pss_cons (ps_fld (pv 0) pe_dnewK rfl)
      (pss_one (ps_for PassesOwn.leaving rfl (pi_list (pv 1)) (pg_name (i := 2) scBookInit.nd rfl (Or.inl rfl)) (pss_one (ps_dput (hu_of hr) (pe_fld (pv 0) rfl) (pe_fld (pv 2) rfl) (pv 2) rfl)))))), ?_⟩
    have sm := wr.sm
    refine ⟨_, rfl, _, us, nms, bs, rfl, hp, hrl, wr, fun po H1 os no s1 e1 nd lto od al => ?_, kx⟩
    have x1 := s1 _ _ hx
    refine ⟨_, rfl, _, _, _, _, rfl, x1, T.c_Book, xno_of T.n_Book (by decide), by decide, ?_⟩
    rw [put1]
    have npo : po ≠ x := fun z => by rw [z, hx] at no; cases no
    have b2 : SameBut x H (upd H1 x (.ins a.cBook dx [(Str.ofString "order", .ref po)])) := (SameBut.of s1).set
    have x2 := upd_same (H := H1) (a := x) (o := .ins a.cBook dx [(Str.ofString "order", .ref po)])
    have o2 := (upd_ne (o := .ins a.cBook dx [(Str.ofString "order", .ref po)]) npo).trans e1
    generalize upd H1 x _ = H2 at b2 x2 o2 ⊢
    refine fun d hd => ?_
    have s3 := same_upd (o := .dK []) hd
    have d3 := upd_same (H := H2) (a := d) (o := .dK [])
    have x3 := s3 _ _ x2
    have ndx : d ≠ x := fun z => by rw [z, x2] at hd; cases hd
    have ndo : po ≠ d := fun z => by rw [← z, o2] at hd; cases hd
    have ndH := b2.free ndx hd
    refine ⟨_, rfl, _, _, _, _, rfl, x3, T.c_Book, xno_of T.n_Book (by decide), (show 1 < 1000 by decide), ?_⟩
    rw [put2 _ _ (by decide +kernel)]
    have b4 : SameBut x H (upd (upd H2 d (.dK [])) x (.ins a.cBook dx (bfs po d))) := (b2.trans (SameBut.of s3)).set
    have x4 := upd_same (H := upd H2 d (.dK [])) (a := x) (o := .ins a.cBook dx (bfs po d))
    have o4 := (upd_ne (o := .ins a.cBook dx (bfs po d)) npo).trans (s3 _ _ o2)
    have d4 := (upd_ne (o := .ins a.cBook dx (bfs po d)) ndx).trans d3
    generalize upd (upd H2 d (.dK [])) x _ = H4 at b4 x4 o4 d4 ⊢
    have npx : pr ≠ x := fun z => by rw [z, hx] at hp; cases hp
    have rule : ∀ {H' : Hp} {i : Nat} {y : V}, SameBut x H H' → us[i]? = some y → Ru a.cRule H' y (nm nms i) (encN nms (bo bs i)) := fun b e => by
      obtain ⟨p, dx', fs, e1, h1, h2, h3⟩ := hrl.2 _ _ e
      refine ⟨p, dx', fs, e1, b _ _ (fun z => ?_) h1, h2, h3⟩
      rw [z, hx] at h1
      injection h1 with h1
      injection h1 with _ _ h5
      rw [← h5] at h2
      cases h2
    refine ⟨_, rfl, _, rfl, ⟨_, SqL.of (b4 _ _ npx hp)⟩, for_list (K := K) (a := pr) (xs := us) (fun i σ H' => SameBut x H H' ∧ H' x = some (.ins a.cBook dx (bfs po d)) ∧ H' po = some (.lst ((os.map (nm nms)).map V.str)) ∧ ∃ (v2 : Option V) (kvs : List (Key × V)), σ = [some (.ref x), some (.ref pr), v2] ∧ H' d = some (.dK kvs) ∧ kvs.length ≤ i)
      ⟨b4, x4, o4, none, [], rfl, d4, Nat.le_refl _⟩ (fun i σ H' _ h => SqL.of (h.1 _ _ npx hp)) ?_ ?_⟩
    · rintro i y σ H' hy ⟨b5, x5, o5, v2, kvs, rfl, d5, hl⟩
      have hi : i < nms.length := by rw [← hrl.1]; exact (List.getElem?_eq_some_iff.mp hy).1
      obtain ⟨p, dx', fs, rfl, r1, r2, r3⟩ := rule b5 hy
      refine ⟨_, rfl, _, rfl, _, _, _, _, _, rfl, x5, T.c_Book, xno_of T.n_Book (by decide), rfl, _, rfl, _, _, _, _, _, rfl, r1, T.c_Rule, xno_of T.n_Rule (by decide), r2, d, _, rfl, DPut.k (k := .inr (nm nms i)) d5 (by rw [sizeLine_eq]; omega), ?_⟩
      exact ⟨fun b o n e => by rw [upd_ne (ne_of_none e ndH)]; exact b5 b o n e, (upd_ne ndx.symm).trans x5, (upd_ne ndo).trans o5, _, _, rfl, upd_same, Nat.le_trans (length_putK _ _ _) (Nat.succ_le_succ hl)⟩
    · rintro σ H' ⟨b5, x5, o5, v2, kvs, rfl, d5, hl⟩
      exact k H' os b5 ⟨dx, po, d, x5, o5⟩ ⟨nd, lto, od, al⟩
set_option maxHeartbeats 4000000 in
theorem okLinesOf (T : Txt K mg a) : FnOk P w K mg base CX0 1 a.fLinesOf a.gLinesOf ["text"] spLn7 := by
  refine T.dLinesOf.fn.ok scLinesOf (fun vs H Q E h => ?_) (fun cdv A outer s H vs Q E hr h => ?_)
  · obtain ⟨_, rfl, _⟩ := h
    all_goals rfl
  · obtain ⟨ls, rfl, hl, k⟩ := h
    refine ⟨_, (pss_one (ps_ret (pe_ifExp (pt_valS (pv 0)) (pe_bm PySem.F.plainAttrs_str PySem.F.slot_str_split PySem.F.type_str_split mt_split (pv 0) (pa_cons pe_str pa_nil star_con)) (pe_lst pa_nil)))), ?_⟩
    have ll : (textT ls).length ≤ 700 := text_len hl
    refine ⟨_, rfl, _, rfl, fits (by omega), ?_⟩
    by_cases c : ls = []
    · subst c
      refine iteF' (by decide +kernel) ⟨fit0, fun q hq => ?_⟩
      exact k q _ hq (same_upd hq) upd_same
    · have es : Txt.split (textT ls) (wS "\n") = ls := by rw [newl]; exact split_join 10 c fun p hp => (hl.c p hp).2.2
      have eb := between_len (textT ls) 10
      rw [← newl] at eb
      have hn := hl.n
      refine iteT' (decide_eq_true (text_ne hl c)) ⟨_, rfl, rfl, _, _, rfl, rfl, rfl, fits (by omega), fits (by rw [es]; omega), fits (Nat.le_trans eb (by omega)), fun p hp => ?_⟩
      rw [es]
      exact k p _ hp (same_upd hp) upd_same
set_option maxHeartbeats 4000000 in
theorem okValueOf (T : Txt K mg a) : FnOk P w K mg base CX0 4 a.fValueOf a.gValueOf ["word", "asked"] spVal7 := by
  refine T.dValueOf.fn.ok scValueOf (fun vs H Q E h => ?_) (fun cdv A outer s H vs Q E hr h => ?_)
  · obtain ⟨_, _, _, rfl, _⟩ := h
    all_goals rfl
  · obtain ⟨w1, av, rv, rfl, vo, k⟩ := h
    refine ⟨_, (pss_cons (ps_if (pt_val (pe_callB call_isi (by rfl) T.n_isinstance boot_isinstance (pa_cons (pv 1) (pa_cons (pe_bltn (v := .ty "int") rfl T.n_int boot_int rfl) pa_nil star_nam) star_nam))) (pss_one (ps_ret (pe_call (okNumber T) (hr.mono (by decide)) rfl T.dNumber.mgx T.dNumber.fn.kp T.dNumber.bd .nil pass0 (pa_cons (pv 0) (pa_cons (pv 1) pa_nil star_nam) star_nam)))) pss_nil)
      (pss_cons (ps_if (pt_cmpR op_eq (pv 1) pe_str (nomark _)) (pss_one (ps_ret (pe_ifExp (pt_val (pe_call (okIsName T) (hr.mono (by decide)) rfl T.dIsName.mgx T.dIsName.fn.kp T.dIsName.bd .nil pass0 (pa_cons (pv 0) pa_nil star_nam))) (pv 0) pe_non))) pss_nil)
      (pss_cons (ps_if (pt_cmpR op_eq (pv 1) pe_str (nomark _)) (pss_one (ps_ret (pe_ifExp (pt_cmpR op_in_seq (pv 0) (pe_glob (v := .ref a.tUNITS) rfl T.g_UNITS rfl) (by with_unfolding_all rfl)) (pv 0) pe_non))) pss_nil)
      (pss_one (ps_ret (pe_ifExp (pt_cmpR op_eq (pv 0) (pv 1) (nomark _)) (pv 0) pe_non)))))), ?_⟩
    cases vo with
    | num1 =>
      refine ⟨_, rfl, _, _, _, _, rfl, .int _, kit_int_int, _, rfl, iteT ⟨_, rfl, _, rfl, _, _, rfl, due1.2.2, by decide, by decide, fun _ H1 s1 => ?_, fun z => by rw [due1.1] at z; cases z⟩⟩
      rw [due1.2.1]
      exact k H1 s1
    | num2 =>
      refine ⟨_, rfl, _, _, _, _, rfl, .int _, kit_int_int, _, rfl, iteT ⟨_, rfl, _, rfl, _, _, rfl, due2.2.2, by decide, by decide, fun _ H1 s1 => ?_, fun z => by rw [due2.1] at z; cases z⟩⟩
      rw [due2.2.1]
      exact k H1 s1
    | name h =>
      refine ⟨_, rfl, _, _, _, _, rfl, .str _, kit_str_int, _, rfl, iteF ⟨_, rfl, rfl, _, rfl, iteD rfl ?_⟩⟩
      exact ⟨_, rfl, _, rfl, h, fun H1 s1 => ⟨_, rfl, iteT ⟨_, rfl, k H1 s1⟩⟩⟩
    | unit h =>
      refine ⟨_, rfl, _, _, _, _, rfl, .str _, kit_str_int, _, rfl, iteF ⟨_, rfl, rfl, _, rfl, iteDn (by decide +kernel) ⟨_, rfl, rfl, _, rfl, iteD rfl ⟨_, rfl, _, _, rfl, .inr (T.s_UNITS H), rfl, rfl, _, rfl, ?_⟩⟩⟩⟩
      rcases h with rfl | rfl
      · exact iteT' (by decide +kernel) ⟨_, rfl, k H (Same.refl H)⟩
      · exact iteT' (by decide +kernel) ⟨_, rfl, k H (Same.refl H)⟩
    | lit h1 h2 =>
      refine ⟨_, rfl, _, _, _, _, rfl, .str _, kit_str_int, _, rfl, iteF ⟨_, rfl, rfl, _, rfl, iteDn (fun z => h1 (V.str.inj z)) ⟨_, rfl, rfl, _, rfl, iteDn (fun z => h2 (V.str.inj z)) ?_⟩⟩⟩
      refine ⟨_, rfl, _, rfl, rfl, _, rfl, ite2 (fun c1 => ?_) (fun c1 => ?_)⟩
      · rw [if_pos (V.str.inj (of_decide_eq_true c1))] at k
        exact ⟨_, rfl, k H (Same.refl H)⟩
      · rw [if_neg (fun z => c1 (decide_eq_true (by rw [z])))] at k
        exact k H (Same.refl H)
set_option maxHeartbeats 4000000 in
theorem okRowOf (T : Txt K mg a) : FnOk P w K mg base CX0 5 a.fRowOf a.gRowOf ["line"] spRow7 := by
  refine T.dRowOf.fn.ok scRowOf (fun vs H Q E h => ?_) (fun cdv A outer s H vs Q E hr h => ?_)
  · obtain ⟨_, _, rfl, _⟩ := h
    all_goals rfl
  · obtain ⟨x, o, rfl, hx, ho, k⟩ := h
    refine ⟨_, (pss_cons (ps_set (i := 1) scRowOf.nd rfl (Or.inl rfl) (pe_bm PySem.F.plainAttrs_str PySem.F.slot_str_split PySem.F.type_str_split mt_split (pv 0) (pa_cons pe_str pa_nil star_con)))
      (pss_cons (ps_for PassesOwn.never rfl (pi_tup (pe_glob (v := .ref a.tFORMS) rfl T.g_FORMS rfl)) (pg_name (i := 2) scRowOf.nd rfl (Or.inl rfl)) (pss_one (ps_if (pt_cmpR op_eq (pe_callB call_len (by rfl) T.n_len boot_len (pa_cons (pv 1) pa_nil star_nam)) (pe_callB call_len (by rfl) T.n_len boot_len (pa_cons (pv 2) pa_nil star_nam)) (nomark _)) (pss_cons (ps_setComp (i := 3) scRowOf.nd rfl rfl (N := ["word", "asked"]) (js := [none, none]) (XN := ["line", "words", "form", "row"]) (xs := defScope sRowOf) rfl rfl rfl (by decide +kernel) (pi_zip rfl T.n_zip (pa_cons (pv 1) (pa_cons (pv 2) pa_nil star_nam) star_nam)) (fun _ _ _ _ _ _ => (pg_tupC (K := K) rfl (n := 2) rfl (pgs_cons (pg_name (i := 0) (show List.Nodup (["word", "asked"] : List Str) from by decide +kernel) rfl (Or.inl rfl) (Or.inr rfl)) (pgs_cons (pg_name (i := 1) (show List.Nodup (["word", "asked"] : List Str) from by decide +kernel) rfl (Or.inl rfl) (Or.inr rfl)) pgs_nil)))) (fun _ _ _ _ _ _ => pts_nil) (fun _ _ _ _ _ _ => (pe_call (okValueOf T) (hr.mono (by decide)) rfl T.dValueOf.mgx T.dValueOf.fn.kp T.dValueOf.bd .nil pass0 (pa_cons (pv 0) (pa_cons (pv 1) pa_nil star_nam) star_nam))))
      (pss_one (ps_if (pt_cmpR op_notIn_seq pe_non (pv 3) (by with_unfolding_all rfl)) (pss_one (ps_ret (pv 3))) pss_nil))) pss_nil)))
      (pss_one (ps_ret pe_non)))), ?_⟩
    have ll := line_len hx ho
    have es : Txt.split (lineT x o) (wS " ") = wsF x o := by rw [blank]; exact split_join 32 (by unfold wsF; exact List.cons_ne_nil _ _) (ws_free hx ho (.inl rfl))
    have eb := between_len (lineT x o) 32
    rw [← blank] at eb
    have ll' : (lineT x o).length ≤ 100 := ll
    refine ⟨_, rfl, rfl, _, _, rfl, rfl, rfl, fits (by omega), fits (by rw [es, ws_len]; decide), fits (Nat.le_trans eb (by omega)), fun p hp => ?_⟩
    rw [es]
    have s1 := same_upd (o := .lst ((wsF x o).map V.str)) hp
    have e1 := upd_same (H := H) (a := p) (o := .lst ((wsF x o).map V.str))
    generalize upd H p _ = H1 at s1 e1 ⊢
    refine ⟨_, rfl, ⟨_, T.s_FORMS _⟩, for_tup (K := K) (a := a.tFORMS) (xs := [.ref a.tFORMS_0, .ref a.tFORMS_1, .ref a.tFORMS_2, .ref a.tFORMS_3, .ref a.tFORMS_4, .ref a.tFORMS_5, .ref a.tFORMS_6]) (fun i σ H' => Same H1 H' ∧ (i = 0 ∨ (i = 1 ∧ wd o = wS "behind")) ∧ ∃ v2 v3 : Option V, σ = [some (.str (lineT x o)), some (.ref p), v2, v3]) ⟨Same.refl H1, .inl rfl, none, none, rfl⟩ (fun i σ H' _ h => T.s_FORMS _) ?_ ?_⟩
    · rintro i v σ H' hv ⟨sH, hi, v2, v3, rfl⟩
      have e2 := sH _ _ e1
      obtain ⟨f, hf, f1, f2, fa⟩ : ∃ f : Str, (∀ H, ∃ t, v = .ref t ∧ SqT K H t (frm f)) ∧ f ≠ wS "NAME" ∧ f ≠ wS "UNIT" ∧ ((i = 0 ∧ f = wS "from") ∨ (i = 1 ∧ f = wS "behind" ∧ wd o = f)) := by
        rcases hi with rfl | ⟨rfl, ew⟩
        · cases hv
          exact ⟨wS "from", fun H => ⟨_, rfl, T.s_FORMS_0 H⟩, by decide +kernel, by decide +kernel, .inl ⟨rfl, rfl⟩⟩
        · cases hv
          exact ⟨wS "behind", fun H => ⟨_, rfl, T.s_FORMS_1 H⟩, by decide +kernel, by decide +kernel, .inr ⟨rfl, rfl, ew⟩⟩
      obtain ⟨t, rfl, _⟩ := hf H
      have ht : ∀ H, SqT K H t (frm f) := fun H => by
        obtain ⟨t', e, h⟩ := hf H
        cases e; exact h
      refine ⟨_, rfl, _, _, rfl, .inl ⟨_, SqL.of e2, rfl⟩, _, rfl, _, _, rfl, .inr ⟨_, ht _, rfl⟩, rfl, _, rfl, iteD (by rw [List.length_map, ws_len]; rfl) ?_⟩
      refine ⟨_, rfl, _, rfl, _, _, _, _, rfl, e2, ht _, comp_zip (zsF x o (if wd o = f then .str (wd o) else .non)) (fun σ' => ∃ v v', σ' = [v, v']) (SqL.of e2) (ht _) (by rw [List.length_map, ws_len]; rfl) (by rw [zs_len, List.length_map, ws_len]) (fits (by rw [List.length_map, ws_len]; decide)) ⟨none, none, rfl⟩ (fun j y av z t' σ' J RR h1 h2 h3 sm ht' s4 qq => ?_) (gk_tup fun xs σ' H' RR RR' hh z => ?_) fun q H2 nq s2 eq2 => ?_⟩
      · obtain ⟨v, v', rfl⟩ := s4
        rw [List.getElem?_map] at h1
        cases ew : (wsF x o)[j]? with
        | none => rw [ew] at h1; cases h1
        | some w1 =>
          rw [ew] at h1
          cases h1
          have vo := vo_at hx ho f1 f2 j w1 av z ew h2 h3
          exact ⟨_, _, rfl, SqT.of ht', rfl, _, _, rfl, _, _, rfl, rfl, _, rfl, _, rfl, w1, av, z, rfl, vo, fun J2 s2 => qq _ _ ⟨_, _, rfl⟩ s2⟩
      · obtain ⟨x1, y1, e1, x2, y2, e2, z⟩ := z
        exact ⟨x1, y1, e1, x2, y2, e2, ⟨z.1, hh _ _ z.2⟩⟩
      · have fl : flatV (if wd o = f then V.str (wd o) else V.non) = true := by split <;> rfl
        refine ⟨_, rfl, _, _, rfl, .inl (SqL.of eq2), rfl, zs_flat x o fl, _, rfl, ?_⟩
        show if (!inV .non (zsF x o (if wd o = f then .str (wd o) else .non))) = true then _ else _
        by_cases c : wd o = f
        · rw [if_pos c] at eq2 ⊢
          rw [(zs_non x o).2]
          exact iteT ⟨_, rfl, k q H2 ((s1.trans sH).free nq) ((s1.trans sH).trans s2) eq2⟩
        · rw [if_neg c] at eq2 ⊢
          rw [(zs_non x o).1]
          rcases fa with ⟨rfl, rfl⟩ | ⟨_, _, z⟩
          · refine iteF ⟨sH.trans s2, .inr ⟨rfl, ?_⟩, _, _, rfl⟩
            cases o with
            | none => exact absurd rfl c
            | some y => rfl
          · exact absurd z c
    · rintro σ H' ⟨sH, hi, v2, v3, rfl⟩
      rcases hi with z | ⟨z, _⟩ <;> cases z
set_option maxHeartbeats 4000000 in
theorem okRuleInit (T : Txt K mg a) : FnOk P w K mg base CX0 1 a.fRuleInit a.gRuleInit ["self", "name", "who", "owes", "opens", "base", "many", "unit", "still"] (spRI7 a) := by
  refine T.dRuleInit.fn.ok scRuleInit (fun vs H Q E h => ?_) (fun cdv A outer s H vs Q E hr h => ?_)
  · obtain ⟨_, _, _, _, _, _, _, _, _, _, rfl, _⟩ := h
    all_goals rfl
  · obtain ⟨x, dx, nx, w, o, op, b, m, u, s', rfl, x0, k⟩ := h
    refine ⟨_, (pss_cons (ps_fld (pv 0) (pv 1) rfl)
      (pss_cons (ps_fld (pv 0) (pv 2) rfl)
      (pss_cons (ps_fld (pv 0) (pv 3) rfl)
      (pss_cons (ps_fld (pv 0) (pv 4) rfl)
      (pss_cons (ps_fld (pv 0) (pv 5) rfl)
      (pss_cons (ps_fld (pv 0) (pv 6) rfl)
      (pss_cons (ps_fld (pv 0) (pv 7) rfl)
      (pss_cons (ps_fld (pv 0) (pv 8) rfl)
      (pss_cons (ps_fld (pv 0) (pe_lst pa_nil) rfl)
      (pss_cons (ps_fld (pv 0) (pe_lst pa_nil) rfl)
      (pss_cons (ps_fld (pv 0) (pe_lst pa_nil) rfl)
      (pss_one (ps_fld (pv 0) (pe_lst pa_nil) rfl))))))))))))), ?_⟩
    have b0 : SameBut x H H := fun _ _ _ e => e
    have l0 : ([] : List (Str × V)).length ≤ 0 := Nat.le_refl _
    refine ⟨_, rfl, _, rfl, _, _, _, _, rfl, x0, T.c_Rule, xno_of T.n_Rule (by decide), Nat.lt_of_le_of_lt l0 (by decide), ?_⟩
    have b1 : SameBut x H (upd H x (.ins a.cRule dx (putF (Str.ofString "name") (nx) []))) := b0.set
    have x1 := upd_same (H := H) (a := x) (o := (.ins a.cRule dx (putF (Str.ofString "name") (nx) [])))
    have l1 : (putF (Str.ofString "name") (nx) []).length ≤ 1 := ln_put l0
    have n1 := lk_same (Str.ofString "name") (nx) []
    generalize upd H x _ = H1 at b1 x1 ⊢
    generalize putF (Str.ofString "name") (nx) [] = fs1 at x1 l1 n1
    refine ⟨_, rfl, _, rfl, _, _, _, _, rfl, x1, T.c_Rule, xno_of T.n_Rule (by decide), Nat.lt_of_le_of_lt l1 (by decide), ?_⟩
    have b2 : SameBut x H (upd H1 x (.ins a.cRule dx (putF (Str.ofString "who") (w) fs1))) := b1.set
    have x2 := upd_same (H := H1) (a := x) (o := (.ins a.cRule dx (putF (Str.ofString "who") (w) fs1)))
    have l2 : (putF (Str.ofString "who") (w) fs1).length ≤ 2 := ln_put l1
    have n2 := lk_ne (f := Str.ofString "who") (w) (show Str.ofString "name" ≠ Str.ofString "who" by decide +kernel) n1
    generalize upd H1 x _ = H2 at b2 x2 ⊢
    generalize putF (Str.ofString "who") (w) fs1 = fs2 at x2 l2 n2
    refine ⟨_, rfl, _, rfl, _, _, _, _, rfl, x2, T.c_Rule, xno_of T.n_Rule (by decide), Nat.lt_of_le_of_lt l2 (by decide), ?_⟩
    have b3 : SameBut x H (upd H2 x (.ins a.cRule dx (putF (Str.ofString "owes") (o) fs2))) := b2.set
    have x3 := upd_same (H := H2) (a := x) (o := (.ins a.cRule dx (putF (Str.ofString "owes") (o) fs2)))
    have l3 : (putF (Str.ofString "owes") (o) fs2).length ≤ 3 := ln_put l2
    have n3 := lk_ne (f := Str.ofString "owes") (o) (show Str.ofString "name" ≠ Str.ofString "owes" by decide +kernel) n2
    have w3 := lk_same (Str.ofString "owes") (o) fs2
    generalize upd H2 x _ = H3 at b3 x3 ⊢
    generalize putF (Str.ofString "owes") (o) fs2 = fs3 at x3 l3 n3 w3
    refine ⟨_, rfl, _, rfl, _, _, _, _, rfl, x3, T.c_Rule, xno_of T.n_Rule (by decide), Nat.lt_of_le_of_lt l3 (by decide), ?_⟩
    have b4 : SameBut x H (upd H3 x (.ins a.cRule dx (putF (Str.ofString "opens") (op) fs3))) := b3.set
    have x4 := upd_same (H := H3) (a := x) (o := (.ins a.cRule dx (putF (Str.ofString "opens") (op) fs3)))
    have l4 : (putF (Str.ofString "opens") (op) fs3).length ≤ 4 := ln_put l3
    have n4 := lk_ne (f := Str.ofString "opens") (op) (show Str.ofString "name" ≠ Str.ofString "opens" by decide +kernel) n3
    have w4 := lk_ne (f := Str.ofString "opens") (op) (show Str.ofString "owes" ≠ Str.ofString "opens" by decide +kernel) w3
    have y4 := lk_same (Str.ofString "opens") (op) fs3
    generalize upd H3 x _ = H4 at b4 x4 ⊢
    generalize putF (Str.ofString "opens") (op) fs3 = fs4 at x4 l4 n4 w4 y4
    refine ⟨_, rfl, _, rfl, _, _, _, _, rfl, x4, T.c_Rule, xno_of T.n_Rule (by decide), Nat.lt_of_le_of_lt l4 (by decide), ?_⟩
    have b5 : SameBut x H (upd H4 x (.ins a.cRule dx (putF (Str.ofString "base") (b) fs4))) := b4.set
    have x5 := upd_same (H := H4) (a := x) (o := (.ins a.cRule dx (putF (Str.ofString "base") (b) fs4)))
    have l5 : (putF (Str.ofString "base") (b) fs4).length ≤ 5 := ln_put l4
    have n5 := lk_ne (f := Str.ofString "base") (b) (show Str.ofString "name" ≠ Str.ofString "base" by decide +kernel) n4
    have w5 := lk_ne (f := Str.ofString "base") (b) (show Str.ofString "owes" ≠ Str.ofString "base" by decide +kernel) w4
    have y5 := lk_ne (f := Str.ofString "base") (b) (show Str.ofString "opens" ≠ Str.ofString "base" by decide +kernel) y4
    have c5 := lk_same (Str.ofString "base") (b) fs4
    generalize upd H4 x _ = H5 at b5 x5 ⊢
    generalize putF (Str.ofString "base") (b) fs4 = fs5 at x5 l5 n5 w5 y5 c5
    refine ⟨_, rfl, _, rfl, _, _, _, _, rfl, x5, T.c_Rule, xno_of T.n_Rule (by decide), Nat.lt_of_le_of_lt l5 (by decide), ?_⟩
    have b6 : SameBut x H (upd H5 x (.ins a.cRule dx (putF (Str.ofString "many") (m) fs5))) := b5.set
    have x6 := upd_same (H := H5) (a := x) (o := (.ins a.cRule dx (putF (Str.ofString "many") (m) fs5)))
    have l6 : (putF (Str.ofString "many") (m) fs5).length ≤ 6 := ln_put l5
    have n6 := lk_ne (f := Str.ofString "many") (m) (show Str.ofString "name" ≠ Str.ofString "many" by decide +kernel) n5
    have w6 := lk_ne (f := Str.ofString "many") (m) (show Str.ofString "owes" ≠ Str.ofString "many" by decide +kernel) w5
    have y6 := lk_ne (f := Str.ofString "many") (m) (show Str.ofString "opens" ≠ Str.ofString "many" by decide +kernel) y5
    have c6 := lk_ne (f := Str.ofString "many") (m) (show Str.ofString "base" ≠ Str.ofString "many" by decide +kernel) c5
    generalize upd H5 x _ = H6 at b6 x6 ⊢
    generalize putF (Str.ofString "many") (m) fs5 = fs6 at x6 l6 n6 w6 y6 c6
    refine ⟨_, rfl, _, rfl, _, _, _, _, rfl, x6, T.c_Rule, xno_of T.n_Rule (by decide), Nat.lt_of_le_of_lt l6 (by decide), ?_⟩
    have b7 : SameBut x H (upd H6 x (.ins a.cRule dx (putF (Str.ofString "unit") (u) fs6))) := b6.set
    have x7 := upd_same (H := H6) (a := x) (o := (.ins a.cRule dx (putF (Str.ofString "unit") (u) fs6)))
    have l7 : (putF (Str.ofString "unit") (u) fs6).length ≤ 7 := ln_put l6
    have n7 := lk_ne (f := Str.ofString "unit") (u) (show Str.ofString "name" ≠ Str.ofString "unit" by decide +kernel) n6
    have w7 := lk_ne (f := Str.ofString "unit") (u) (show Str.ofString "owes" ≠ Str.ofString "unit" by decide +kernel) w6
    have y7 := lk_ne (f := Str.ofString "unit") (u) (show Str.ofString "opens" ≠ Str.ofString "unit" by decide +kernel) y6
    have c7 := lk_ne (f := Str.ofString "unit") (u) (show Str.ofString "base" ≠ Str.ofString "unit" by decide +kernel) c6
    generalize upd H6 x _ = H7 at b7 x7 ⊢
    generalize putF (Str.ofString "unit") (u) fs6 = fs7 at x7 l7 n7 w7 y7 c7
    refine ⟨_, rfl, _, rfl, _, _, _, _, rfl, x7, T.c_Rule, xno_of T.n_Rule (by decide), Nat.lt_of_le_of_lt l7 (by decide), ?_⟩
    have b8 : SameBut x H (upd H7 x (.ins a.cRule dx (putF (Str.ofString "still") (s') fs7))) := b7.set
    have x8 := upd_same (H := H7) (a := x) (o := (.ins a.cRule dx (putF (Str.ofString "still") (s') fs7)))
    have l8 : (putF (Str.ofString "still") (s') fs7).length ≤ 8 := ln_put l7
    have n8 := lk_ne (f := Str.ofString "still") (s') (show Str.ofString "name" ≠ Str.ofString "still" by decide +kernel) n7
    have w8 := lk_ne (f := Str.ofString "still") (s') (show Str.ofString "owes" ≠ Str.ofString "still" by decide +kernel) w7
    have y8 := lk_ne (f := Str.ofString "still") (s') (show Str.ofString "opens" ≠ Str.ofString "still" by decide +kernel) y7
    have c8 := lk_ne (f := Str.ofString "still") (s') (show Str.ofString "base" ≠ Str.ofString "still" by decide +kernel) c7
    generalize upd H7 x _ = H8 at b8 x8 ⊢
    generalize putF (Str.ofString "still") (s') fs7 = fs8 at x8 l8 n8 w8 y8 c8
    refine ⟨fit0, fun e8 he8 => ?_⟩
    have b8 := b8.trans (SameBut.of (same_upd (o := .lst []) he8))
    have x8 := same_upd (o := .lst []) he8 _ _ x8
    refine ⟨_, rfl, _, _, _, _, rfl, x8, T.c_Rule, xno_of T.n_Rule (by decide), Nat.lt_of_le_of_lt l8 (by decide), ?_⟩
    generalize upd H8 e8 _ = G8 at b8 x8 ⊢
    have b9 : SameBut x H (upd G8 x (.ins a.cRule dx (putF (Str.ofString "ends") (.ref e8) fs8))) := b8.set
    have x9 := upd_same (H := G8) (a := x) (o := (.ins a.cRule dx (putF (Str.ofString "ends") (.ref e8) fs8)))
    have l9 : (putF (Str.ofString "ends") (.ref e8) fs8).length ≤ 9 := ln_put l8
    have n9 := lk_ne (f := Str.ofString "ends") (.ref e8) (show Str.ofString "name" ≠ Str.ofString "ends" by decide +kernel) n8
    have w9 := lk_ne (f := Str.ofString "ends") (.ref e8) (show Str.ofString "owes" ≠ Str.ofString "ends" by decide +kernel) w8
    have y9 := lk_ne (f := Str.ofString "ends") (.ref e8) (show Str.ofString "opens" ≠ Str.ofString "ends" by decide +kernel) y8
    have c9 := lk_ne (f := Str.ofString "ends") (.ref e8) (show Str.ofString "base" ≠ Str.ofString "ends" by decide +kernel) c8
    generalize upd G8 x _ = H9 at b9 x9 ⊢
    generalize putF (Str.ofString "ends") (.ref e8) fs8 = fs9 at x9 l9 n9 w9 y9 c9
    refine ⟨fit0, fun e9 he9 => ?_⟩
    have b9 := b9.trans (SameBut.of (same_upd (o := .lst []) he9))
    have x9 := same_upd (o := .lst []) he9 _ _ x9
    refine ⟨_, rfl, _, _, _, _, rfl, x9, T.c_Rule, xno_of T.n_Rule (by decide), Nat.lt_of_le_of_lt l9 (by decide), ?_⟩
    generalize upd H9 e9 _ = G9 at b9 x9 ⊢
    have b10 : SameBut x H (upd G9 x (.ins a.cRule dx (putF (Str.ofString "anew") (.ref e9) fs9))) := b9.set
    have x10 := upd_same (H := G9) (a := x) (o := (.ins a.cRule dx (putF (Str.ofString "anew") (.ref e9) fs9)))
    have l10 : (putF (Str.ofString "anew") (.ref e9) fs9).length ≤ 10 := ln_put l9
    have n10 := lk_ne (f := Str.ofString "anew") (.ref e9) (show Str.ofString "name" ≠ Str.ofString "anew" by decide +kernel) n9
    have w10 := lk_ne (f := Str.ofString "anew") (.ref e9) (show Str.ofString "owes" ≠ Str.ofString "anew" by decide +kernel) w9
    have y10 := lk_ne (f := Str.ofString "anew") (.ref e9) (show Str.ofString "opens" ≠ Str.ofString "anew" by decide +kernel) y9
    have c10 := lk_ne (f := Str.ofString "anew") (.ref e9) (show Str.ofString "base" ≠ Str.ofString "anew" by decide +kernel) c9
    generalize upd G9 x _ = H10 at b10 x10 ⊢
    generalize putF (Str.ofString "anew") (.ref e9) fs9 = fs10 at x10 l10 n10 w10 y10 c10
    refine ⟨fit0, fun e10 he10 => ?_⟩
    have b10 := b10.trans (SameBut.of (same_upd (o := .lst []) he10))
    have x10 := same_upd (o := .lst []) he10 _ _ x10
    refine ⟨_, rfl, _, _, _, _, rfl, x10, T.c_Rule, xno_of T.n_Rule (by decide), Nat.lt_of_le_of_lt l10 (by decide), ?_⟩
    generalize upd H10 e10 _ = G10 at b10 x10 ⊢
    have b11 : SameBut x H (upd G10 x (.ins a.cRule dx (putF (Str.ofString "longer") (.ref e10) fs10))) := b10.set
    have x11 := upd_same (H := G10) (a := x) (o := (.ins a.cRule dx (putF (Str.ofString "longer") (.ref e10) fs10)))
    have l11 : (putF (Str.ofString "longer") (.ref e10) fs10).length ≤ 11 := ln_put l10
    have n11 := lk_ne (f := Str.ofString "longer") (.ref e10) (show Str.ofString "name" ≠ Str.ofString "longer" by decide +kernel) n10
    have w11 := lk_ne (f := Str.ofString "longer") (.ref e10) (show Str.ofString "owes" ≠ Str.ofString "longer" by decide +kernel) w10
    have y11 := lk_ne (f := Str.ofString "longer") (.ref e10) (show Str.ofString "opens" ≠ Str.ofString "longer" by decide +kernel) y10
    have c11 := lk_ne (f := Str.ofString "longer") (.ref e10) (show Str.ofString "base" ≠ Str.ofString "longer" by decide +kernel) c10
    generalize upd G10 x _ = H11 at b11 x11 ⊢
    generalize putF (Str.ofString "longer") (.ref e10) fs10 = fs11 at x11 l11 n11 w11 y11 c11
    refine ⟨fit0, fun e11 he11 => ?_⟩
    have b11 := b11.trans (SameBut.of (same_upd (o := .lst []) he11))
    have x11 := same_upd (o := .lst []) he11 _ _ x11
    refine ⟨_, rfl, _, _, _, _, rfl, x11, T.c_Rule, xno_of T.n_Rule (by decide), Nat.lt_of_le_of_lt l11 (by decide), ?_⟩
    generalize upd H11 e11 _ = G11 at b11 x11 ⊢
    have b12 : SameBut x H (upd G11 x (.ins a.cRule dx (putF (Str.ofString "yields") (.ref e11) fs11))) := b11.set
    have x12 := upd_same (H := G11) (a := x) (o := (.ins a.cRule dx (putF (Str.ofString "yields") (.ref e11) fs11)))
    have l12 : (putF (Str.ofString "yields") (.ref e11) fs11).length ≤ 12 := ln_put l11
    have n12 := lk_ne (f := Str.ofString "yields") (.ref e11) (show Str.ofString "name" ≠ Str.ofString "yields" by decide +kernel) n11
    have w12 := lk_ne (f := Str.ofString "yields") (.ref e11) (show Str.ofString "owes" ≠ Str.ofString "yields" by decide +kernel) w11
    have y12 := lk_ne (f := Str.ofString "yields") (.ref e11) (show Str.ofString "opens" ≠ Str.ofString "yields" by decide +kernel) y11
    have c12 := lk_ne (f := Str.ofString "yields") (.ref e11) (show Str.ofString "base" ≠ Str.ofString "yields" by decide +kernel) c11
    generalize upd G11 x _ = H12 at b12 x12 ⊢
    generalize putF (Str.ofString "yields") (.ref e11) fs11 = fs12 at x12 l12 n12 w12 y12 c12
    exact k _ _ b12 x12 n12 w12 y12 c12
set_option maxHeartbeats 4000000 in
theorem okReadTerm (T : Txt K mg a) : FnOk P w K mg base CX0 3 a.fReadTerm a.gReadTerm ["told", "at", "row"] (spTm7 a) := by
  refine T.dReadTerm.fn.ok scReadTerm (fun vs H Q E h => ?_) (fun cdv A outer s H vs Q E hr h => ?_)
  · obtain ⟨_, _, _, _, _, _, rfl, _⟩ := h
    all_goals rfl
  · obtain ⟨d, r, i, kvs, x, o, rfl, hd, hr', hv, hl, k⟩ := h
    refine ⟨_, (pss_cons (ps_set (i := 3) scReadTerm.nd rfl (Or.inl rfl) (pe_ix ix_list (pv 2) pe_int (fun _ _ => rfl)))
      (pss_cons (ps_if (pt_cmp (pc_din (hu_of hr) (pv 3) (pv 0))) (pss_one ps_never) pss_nil)
      (pss_cons (ps_set (i := 4) scReadTerm.nd rfl (Or.inl rfl) (pe_ifExp (pt_cmpR op_eq (pe_ix ix_list (pv 2) pe_int (fun _ _ => rfl)) pe_str (nomark _)) (pe_ix ix_list (pv 2) pe_int (fun _ _ => rfl)) pe_non))
      (pss_cons (ps_set (i := 5) scReadTerm.nd rfl (Or.inl rfl) (pe_ifExp (pt_cmpR op_eq (pe_ix ix_list (pv 2) pe_int (fun _ _ => rfl)) pe_str (nomark _)) (pe_ix ix_list (pv 2) pe_int (fun _ _ => rfl)) pe_non))
      (pss_cons (ps_set (i := 6) scReadTerm.nd rfl (Or.inl rfl) (pe_make T.k_Rule (okRuleInit T) (hr.mono (by decide)) rfl T.m_Rule T.e_RuleInit_8 (dvs := [.non]) (.cons rfl .nil) pass0 (pa_cons (pv 3) (pa_cons (pe_ix ix_list (pv 2) pe_int (fun _ _ => rfl)) (pa_cons (pe_ix ix_list (pv 2) pe_int (fun _ _ => rfl)) (pa_cons (pv 4) (pa_cons (pv 5) (pa_cons (pe_ix ix_list (pv 2) pe_int (fun _ _ => rfl)) (pa_cons (pe_ix ix_list (pv 2) pe_int (fun _ _ => rfl)) pa_nil star_sub) star_sub) star_nam) star_nam) star_sub) star_sub) star_nam)))
      (pss_cons (ps_if (PW.pt (pw_or (pt_cmpR op_eq (pe_callB call_lenD (by rfl) T.n_len boot_len (pa_cons (pv 0) pa_nil star_nam)) (pe_glob (v := .int 6) rfl T.g_MOST_TERMS.choose_spec ⟨_, rfl⟩) (nomark _)) (pw_or1 (pt_cmpR op_eq (pe_fld (pv 6) rfl) (pe_fld (pv 6) rfl) (nomark _))))) (pss_one ps_never) pss_nil)
      (pss_one (ps_dput (hu_of hr) (pv 0) (pv 3) (pv 6) rfl)))))))), ?_⟩
    have g : DGet H d (.str x) none := hv ▸ DGet.k (k := .inr x) hd
    refine ⟨_, rfl, _, _, _, _, rfl, rfl, SqL.of (hr'), (z_at x o _).2.1, _, rfl, _, rfl, d, _, rfl, g, _, rfl, iteF ?_⟩
    cases o with
    | none =>
      refine ⟨_, rfl, _, _, _, _, rfl, rfl, SqL.of (hr'), (z_at x none _).2.2.2.2, rfl, _, rfl, iteD rfl ⟨_, rfl, _, _, _, _, rfl, rfl, SqL.of (hr'), (z_7 x _).1, ?_⟩⟩
      refine ⟨_, rfl, _, _, _, _, rfl, rfl, SqL.of (hr'), (z_at x none _).2.2.2.2, rfl, _, rfl, iteDn (by decide +kernel) ?_⟩
      refine ⟨_, rfl, _, rfl, _, _, _, _, rfl, rfl, SqL.of (hr'), (z_at x none _).2.2.1, _, rfl, _, _, _, _, rfl, rfl, SqL.of (hr'), (z_at x none _).2.2.2.1, _, rfl, _, rfl, _, rfl, _, _, _, _, rfl, rfl, SqL.of (hr'), (z_7 x _).2.1, _, rfl, _, _, _, _, rfl, rfl, SqL.of (hr'), (z_7 x _).2.2, fun xr dx nx nd ne => ?_⟩
      refine ⟨xr, dx, _, _, _, _, _, _, _, _, rfl, upd_same, fun H1 fs b h1 h2 h3 h4 h5 => ⟨rfl, ?_⟩⟩
      have s1 : Same H H1 := b.made nx nd
      have hd1 := s1 _ _ hd
      have ndx : xr ≠ d := fun z => by rw [z, hd] at nx; cases nx
      dsimp only []
      refine ⟨_, rfl, d, kvs, rfl, hd1, rfl, _, rfl, iteDn (fun z => by injection z with z; omega) ⟨_, rfl, _, _, _, _, _, rfl, h1, T.c_Rule, xno_of T.n_Rule (by decide), h3, _, rfl, _, _, _, _, _, rfl, h1, T.c_Rule, xno_of T.n_Rule (by decide), h4, rfl, _, rfl, iteDn (by decide +kernel) ?_⟩⟩
      refine ⟨_, rfl, _, rfl, _, rfl, d, _, rfl, DPut.k (k := .inr x) hd1 (by rw [sizeLine_eq]; omega), ?_⟩
      exact k xr _ (fun b o n e => by rw [upd_ne n]; exact s1 _ _ e) upd_same ⟨xr, dx, fs, rfl, (upd_ne ndx).trans h1, h2, h5⟩
    | some y =>
      refine ⟨_, rfl, _, _, _, _, rfl, rfl, SqL.of (hr'), (z_at x (some y) _).2.2.2.2, rfl, _, rfl, iteDn (show ¬ V.str (wS "behind") = V.str (wS "from") by decide +kernel) ?_⟩
      refine ⟨_, rfl, _, _, _, _, rfl, rfl, SqL.of (hr'), (z_at x (some y) _).2.2.2.2, rfl, _, rfl, iteD rfl ⟨_, rfl, _, _, _, _, rfl, rfl, SqL.of (hr'), (z_8 x y _).1, ?_⟩⟩
      refine ⟨_, rfl, _, rfl, _, _, _, _, rfl, rfl, SqL.of (hr'), (z_at x (some y) _).2.2.1, _, rfl, _, _, _, _, rfl, rfl, SqL.of (hr'), (z_at x (some y) _).2.2.2.1, _, rfl, _, rfl, _, rfl, _, _, _, _, rfl, rfl, SqL.of (hr'), (z_8 x y _).2.1, _, rfl, _, _, _, _, rfl, rfl, SqL.of (hr'), (z_8 x y _).2.2, fun xr dx nx nd ne => ?_⟩
      refine ⟨xr, dx, _, _, _, _, _, _, _, _, rfl, upd_same, fun H1 fs b h1 h2 h3 h4 h5 => ⟨rfl, ?_⟩⟩
      have s1 : Same H H1 := b.made nx nd
      have hd1 := s1 _ _ hd
      have ndx : xr ≠ d := fun z => by rw [z, hd] at nx; cases nx
      dsimp only []
      refine ⟨_, rfl, d, kvs, rfl, hd1, rfl, _, rfl, iteDn (fun z => by injection z with z; omega) ⟨_, rfl, _, _, _, _, _, rfl, h1, T.c_Rule, xno_of T.n_Rule (by decide), h3, _, rfl, _, _, _, _, _, rfl, h1, T.c_Rule, xno_of T.n_Rule (by decide), h4, rfl, _, rfl, iteDn (fun z => nomatch z) ?_⟩⟩
      refine ⟨_, rfl, _, rfl, _, rfl, d, _, rfl, DPut.k (k := .inr x) hd1 (by rw [sizeLine_eq]; omega), ?_⟩
      exact k xr _ (fun b o n e => by rw [upd_ne n]; exact s1 _ _ e) upd_same ⟨xr, dx, fs, rfl, (upd_ne ndx).trans h1, h2, h5⟩
set_option maxHeartbeats 4000000 in
theorem okReadRow (T : Txt K mg a) : FnOk P w K mg base CX0 4 a.fReadRow a.gReadRow ["told", "at", "row"] (spTm7 a) := by
  refine T.dReadRow.fn.ok scReadRow (fun vs H Q E h => ?_) (fun cdv A outer s H vs Q E hr h => ?_)
  · obtain ⟨_, _, _, _, _, _, rfl, _⟩ := h
    all_goals rfl
  · obtain ⟨d, r, i, kvs, x, o, rfl, hd, hr', hv, hl, k⟩ := h
    refine ⟨_, (pss_one (ps_if (pt_cmpR op_eq (pe_ix ix_list (pv 2) pe_int (fun _ _ => rfl)) pe_str (nomark _)) (pss_one (ps_expr (pe_call (okReadTerm T) (hr.mono (by decide)) rfl T.dReadTerm.mgx T.dReadTerm.fn.kp T.dReadTerm.bd .nil pass0 (pa_cons (pv 0) (pa_cons (pv 1) (pa_cons (pv 2) pa_nil star_nam) star_nam) star_nam)))) (pss_one (ps_if (pt_cmp (pc_dnotin (hu_of hr) (pe_ix ix_list (pv 2) pe_int (fun _ _ => rfl)) (pv 0))) (pss_one ps_never) (pss_one (ps_expr pe_never)))))), ?_⟩
    exact ⟨_, rfl, _, _, _, _, rfl, rfl, SqL.of (hr'), (z_at x o _).1, rfl, _, rfl, iteD rfl ⟨_, rfl, _, rfl, _, rfl, d, r, i, kvs, x, o, rfl, hd, hr', hv, hl, fun p H' => k p H'⟩⟩
set_option maxHeartbeats 4000000 in
theorem okSettleNames (T : Txt K mg a) : FnOk P w K mg base CX0 1 a.fSettleNames a.gSettleNames ["told", "at", "row"] (spSe7 a) := by
  refine T.dSettleNames.fn.ok scSettleNames (fun vs H Q E h => ?_) (fun cdv A outer s H vs Q E hr h => ?_)
  · obtain ⟨_, _, _, _, _, _, _, rfl, _⟩ := h
    all_goals rfl
  · obtain ⟨d, r, i, kvs, x, o, y, rfl, hd, hr', hv, ru, hb, k⟩ := h
    refine ⟨_, (pss_cons (ps_set (i := 3) scSettleNames.nd rfl (Or.inl rfl) (pe_dget (hu_of hr) (pv 0) (pe_ix ix_list (pv 2) pe_int (fun _ _ => rfl)) (fun _ _ => rfl)))
      (pss_cons (ps_if (PW.pt (pw_and (pt_cmpR op_eq (pe_ix ix_list (pv 2) pe_int (fun _ _ => rfl)) pe_str (nomark _)) (pw_and (pt_cmpR op_notN (pe_fld (pv 3) rfl) pe_non (nomark _)) (pw_and1 (pt_cmp (pc_dnotin (hu_of hr) (pe_fld (pv 3) rfl) (pv 0))))))) (pss_one ps_never) pss_nil)
      (pss_one (ps_if (pt_cmpR op_eq (pe_ix ix_list (pv 2) pe_int (fun _ _ => rfl)) pe_str (nomark _)) (pss_one (ps_expr pe_never)) pss_nil)))), ?_⟩
    obtain ⟨p, dx, fs, rfl, r1, r2, r3⟩ := ru
    refine ⟨_, rfl, _, rfl, _, _, _, _, rfl, rfl, SqL.of (hr'), (z_at x o _).2.1, d, _, rfl, hv ▸ DGet.k (k := .inr x) hd, ?_⟩
    dsimp only []
    refine ⟨_, rfl, _, _, _, _, rfl, rfl, SqL.of (hr'), (z_at x o _).1, rfl, _, rfl, iteD rfl ⟨_, rfl, _, _, _, _, _, rfl, r1, T.c_Rule, xno_of T.n_Rule (by decide), r3, rfl, _, rfl, ?_⟩⟩
    have fin : Q .non H := k
    cases o with
    | none => exact iteND rfl (iteF ⟨_, rfl, _, _, _, _, rfl, rfl, SqL.of (hr'), (z_at x none _).1, rfl, _, rfl, iteDn (by decide +kernel) fin⟩)
    | some z =>
      obtain ⟨u, hu⟩ := hb z rfl
      have g : DGet H d (.str z) (some u) := hu ▸ DGet.k (k := .inr z) hd
      exact iteNN (fun z => nomatch z) ⟨_, rfl, _, _, _, _, _, rfl, r1, T.c_Rule, xno_of T.n_Rule (by decide), r3, _, rfl, d, _, rfl, g, _, rfl, iteF ⟨_, rfl, _, _, _, _, rfl, rfl, SqL.of (hr'), (z_at x (some z) _).1, rfl, _, rfl, iteDn (by decide +kernel) fin⟩⟩
set_option maxHeartbeats 4000000 in
theorem okReadBook (T : Txt K mg a) : FnOk P w K mg base (CX1 P w) 7 a.fReadBook a.gReadBook ["text"] (spBk7 a) := by
  refine okX T.dReadBook.fn scReadBook (fun vs H Q E h => ?_) (fun cdv A outer s H vs Q E hr h => ?_)
  · obtain ⟨_, _, rfl, _⟩ := h
    all_goals rfl
  · obtain ⟨nms, bs, rfl, wr, nmo, k, kx⟩ := h
    refine ⟨_, (pss_cons (ps_set (i := 1) scReadBook.nd rfl (Or.inl rfl) pe_dnewK)
      (pss_cons (ps_set (i := 2) scReadBook.nd rfl (Or.inl rfl) (pe_lst pa_nil))
      (pss_cons (ps_for PassesOwn.leaving rfl (pi_enum rfl T.n_enumerate (pa_cons (pe_call (okLinesOf T) (hr.mono (by decide)) rfl T.dLinesOf.mgx T.dLinesOf.fn.kp T.dLinesOf.bd .nil pass0 (pa_cons (pv 0) pa_nil star_nam)) pa_nil star_cal)) (pg_tup rfl (pgs_cons (pg_name (i := 3) scReadBook.nd rfl (Or.inl rfl)) (pgs_cons (pg_name (i := 4) scReadBook.nd rfl (Or.inl rfl)) pgs_nil))) (pss_cons (ps_set (i := 5) scReadBook.nd rfl (Or.inl rfl) (pe_call (okRowOf T) (hr.mono (by decide)) rfl T.dRowOf.mgx T.dRowOf.fn.kp T.dRowOf.bd .nil pass0 (pa_cons (pv 4) pa_nil star_nam)))
      (pss_cons (ps_if (PW.pt (pw_or (pt_cmpR op_eq (pv 3) (pe_glob (v := .int 40) rfl T.g_MOST_ROWS.choose_spec ⟨_, rfl⟩) (nomark _)) (pw_or1 (pt_cmpR op_isN (pv 5) pe_non (nomark _))))) (pss_one ps_never) pss_nil)
      (pss_cons (ps_expr (pe_call (okReadRow T) (hr.mono (by decide)) rfl T.dReadRow.mgx T.dReadRow.fn.kp T.dReadRow.bd .nil pass0 (pa_cons (pv 1) (pa_cons (pv 3) (pa_cons (pv 5) pa_nil star_nam) star_nam) star_nam)))
      (pss_one (ps_expr (pe_bm PySem.F.plainAttrs_list PySem.F.slot_list_append PySem.F.type_list_append mt_append (pv 2) (pa_cons (pv 5) pa_nil star_nam))))))))
      (pss_cons (ps_for PassesOwn.leaving rfl (pi_enum rfl T.n_enumerate (pa_cons (pv 2) pa_nil star_nam)) (pg_tup rfl (pgs_cons (pg_name (i := 3) scReadBook.nd rfl (Or.inl rfl)) (pgs_cons (pg_name (i := 5) scReadBook.nd rfl (Or.inl rfl)) pgs_nil))) (pss_one (ps_expr (pe_call (okSettleNames T) (hr.mono (by decide)) rfl T.dSettleNames.mgx T.dSettleNames.fn.kp T.dSettleNames.bd .nil pass0 (pa_cons (pv 1) (pa_cons (pv 3) (pa_cons (pv 5) pa_nil star_nam) star_nam) star_nam)))))
      (pss_one (ps_ret (pe_makeX T.k_Book (okBookInit T) (hr.mono (by decide)) rfl T.m_Book T.dBookInit.bd .nil (Takes.at takes_fn) (pa_cons (pe_listVals rfl (by rfl) T.n_list boot_list (pv 1)) pa_nil star_cal)))))))), ?_⟩
    refine fun d hd => ?_
    have s0 := same_upd (o := .dK []) hd
    have h0 := upd_same (H := H) (a := d) (o := .dK [])
    generalize upd H d _ = H0 at s0 h0 ⊢
    refine ⟨fit0, fun q hq => ?_⟩
    have s1 := same_upd (o := .lst []) hq
    have h1 := upd_same (H := H0) (a := q) (o := .lst [])
    have hd1 := s1 _ _ h0
    generalize upd H0 q _ = H1 at s1 h1 hd1 ⊢
    have dq : d ≠ q := fun z => by rw [← z, h0] at hq; cases hq
    have s01 := s0.trans s1
    have nqH := s0.free hq
    have sm := wr.sm
    refine ⟨_, rfl, _, rfl, lns_ok wr nmo, fun ql H2 nql s2 e2 => ?_⟩
    have t2 : TB a.cRule H2 d q nms bs 0 [] [] := ⟨s2 _ _ hd1, s2 _ _ h1, rfl, fun j hj => absurd hj (Nat.not_lt_zero _), fun j _ _ => rfl, rfl, fun j y e => by cases e⟩
    have ndl : ql ≠ d := fun z => by rw [z, hd1] at nql; cases nql
    have nlq : ql ≠ q := fun z => by rw [z, h1] at nql; cases nql
    have ll : (((List.range nms.length).map (lnJ nms bs)).map V.str).length = nms.length := by rw [List.length_map, List.length_map, List.length_range]
    refine ⟨_, _, rfl, e2, for_enum (K := K) (a := ql) (xs := ((List.range nms.length).map (lnJ nms bs)).map V.str) (fun i σ H' => (∀ b o, b ≠ d → b ≠ q → H b = some o → H' b = some o) ∧ H' ql = some (.lst (((List.range nms.length).map (lnJ nms bs)).map V.str)) ∧ (∃ kvs rs, TB a.cRule H' d q nms bs i kvs rs) ∧ ∃ v3 v4 v5 : Option V, σ = [some (.str (textT ((List.range nms.length).map (lnJ nms bs)))), some (.ref d), some (.ref q), v3, v4, v5]) ⟨fun b o n1 n2 e => s2 _ _ (s01 _ _ e), e2, ⟨_, _, t2⟩, none, none, none, rfl⟩ (fun i σ H' _ h => SqL.of h.2.1) ?_ ?_⟩
    · rintro i v t0 σ H' hv ⟨sb, hql, ⟨kvs, rs, tb⟩, v3, v4, v5, rfl⟩ ht0
      have hi : i < nms.length := by rw [← ll]; exact (List.getElem?_eq_some_iff.mp hv).1
      obtain rfl : v = .str (lnJ nms bs i) := by
        rw [List.getElem?_map, List.getElem?_map, List.getElem?_range hi] at hv
        exact (Option.some.inj hv).symm
      have st := same_upd (o := .tup [V.int i, V.str (lnJ nms bs i)]) ht0
      have et := upd_same (H := H') (a := t0) (o := .tup [V.int i, V.str (lnJ nms bs i)])
      generalize upd H' t0 _ = J0 at st et ⊢
      refine ⟨_, _, rfl, SqT.of et, rfl, _, _, rfl, _, _, rfl, rfl, ?_⟩
      refine ⟨_, rfl, nm nms i, oN nms (bo bs i), rfl, nm_ok nmo hi, oN_ok wr nmo i, fun qr J1 nqr sr er => ?_⟩
      have s02 := st.trans sr
      have tb1 := tb.same s02
      refine ⟨_, rfl, rfl, _, rfl, iteDn (fun z => by injection z with z; omega) ⟨_, rfl, rfl, _, rfl, iteDn (fun z => nomatch z) ?_⟩⟩
      refine ⟨_, rfl, _, rfl, _, rfl, d, qr, _, kvs, nm nms i, oN nms (bo bs i), rfl, tb1.hd, er, tb1.hn i (Nat.le_refl _) hi, (by rw [tb1.kl]; omega), fun p J2 b2 e2' ru2 => ?_⟩
      have hq2 := b2 _ _ (Ne.symm dq) tb1.hq
      refine ⟨_, rfl, .inl ⟨rfl, _, SqL.of hq2⟩, _, rfl, _, _, _, rfl, rfl, hq2, lt1000 (by rw [tb1.rl]; omega), ?_⟩
      have tb3 := tb1.next wr.nd hi dq er b2 e2' ru2 rfl
      refine ⟨fun b o n1 n2 e => ?_, ?_, ⟨_, _, tb3⟩, _, _, _, rfl⟩
      · rw [upd_ne n2]; exact b2 _ _ n1 (s02 _ _ (sb b o n1 n2 e))
      · rw [upd_ne nlq]; exact b2 _ _ ndl (s02 _ _ hql)
    · rintro σ H' ⟨sb, hql, ⟨kvs, rs, tb⟩, v3, v4, v5, rfl⟩
      rw [ll] at tb
      refine ⟨_, rfl, _, _, rfl, tb.hq, for_enum (K := K) (a := q) (xs := rs) (fun i σ J => Same H' J ∧ ∃ v3 v4 v5 : Option V, σ = [some (.str (textT ((List.range nms.length).map (lnJ nms bs)))), some (.ref d), some (.ref q), v3, v4, v5]) ⟨Same.refl _, _, _, _, rfl⟩ (fun i σ J _ h => SqL.of (h.1 _ _ tb.hq)) ?_ ?_⟩
      · rintro i v t0 σ J hv ⟨sJ, v3, v4, v5, rfl⟩ ht0
        have hi : i < nms.length := by rw [← tb.rl]; exact (List.getElem?_eq_some_iff.mp hv).1
        obtain ⟨r, rfl, hr⟩ := tb.hr i v hv
        have st := same_upd (o := .tup [V.int i, V.ref r]) ht0
        have et := upd_same (H := J) (a := t0) (o := .tup [V.int i, V.ref r])
        generalize upd J t0 _ = J0 at st et ⊢
        have s02 := sJ.trans st
        obtain ⟨y, _, h2, h3⟩ := tb.hv i hi
        refine ⟨_, _, rfl, SqT.of et, rfl, _, _, rfl, _, _, rfl, rfl, ?_⟩
        refine ⟨_, rfl, _, rfl, _, rfl, d, r, _, kvs, nm nms i, oN nms (bo bs i), y, rfl, s02 _ _ tb.hd, s02 _ _ hr, h2, h3.same s02, fun z ez => ?_, s02, _, _, _, rfl⟩
        cases eb : bo bs i with
        | none => rw [eb] at ez; cases ez
        | some b =>
          rw [eb] at ez
          cases ez
          obtain ⟨u, _, hu, _⟩ := tb.hv b (wr.ok i b eb)
          exact ⟨u, hu⟩
      · rintro σ J ⟨sJ, v3, v4, v5, rfl⟩
        have sHJ : Same H J := fun b o e => sJ _ _ (sb b o (ne_of_none e hd) (ne_of_none e nqH) e)
        refine ⟨_, rfl, d, kvs, rfl, sJ _ _ tb.hd, fun qv nqv => ?_⟩
        have sv := same_upd (o := .lst (kvs.map (·.2))) nqv
        have ev := upd_same (H := J) (a := qv) (o := .lst (kvs.map (·.2)))
        generalize upd J qv _ = J1 at sv ev ⊢
        refine fun xb dx nx nd ne => ?_
        have keep : Same J1 (upd (upd J1 dx (.own xb)) xb (.ins a.cBook dx [])) := fun b u e => by rw [upd_ne (ne_of_none e nx), upd_ne (ne_of_none e nd)]; exact e
        have sAll := sHJ.trans sv
        refine ⟨xb, dx, qv, _, nms, bs, rfl, upd_same, keep _ _ ev, ⟨by rw [List.length_map, tb.kl], fun j y e => ?_⟩, wr, fun H9 os b9 bo9 ors => ⟨rfl, k xb H9 os (sAll.trans (b9.made nx nd)) bo9 ors⟩, kx.same (sAll.trans keep)⟩
        have hj : j < nms.length := by
          have := (List.getElem?_eq_some_iff.mp e).1
          rw [List.length_map, tb.kl] at this
          exact this
        obtain ⟨y', g1, _, g3⟩ := tb.hv j hj
        rw [e] at g1
        cases g1
        rw [encN_S]
        exact g3.same ((sJ.trans sv).trans keep)
set_option maxHeartbeats 4000000 in
theorem okLawCellAt (T : Txt K mg a) : FnOk P w K mg base CX0 1 a.fLawCellAt a.gLawCellAt ["_law_script", "_law_k"] (spCell K) := by
  refine T.dLawCellAt.fn.ok scLawCellAt (fun vs H Q E h => ?_) (fun cdv A outer s H vs Q E hr h => ?_)
  · obtain ⟨_, _, _, rfl, _⟩ := h
    all_goals rfl
  · obtain ⟨l, ns, i, rfl, hS, h0, k⟩ := h
    refine ⟨_, (pss_cons (ps_if (pt_cmpR op_lt (pv 1) (pe_callB call_len (by rfl) T.n_len boot_len (pa_cons (pv 0) pa_nil star_nam)) (nomark _)) (pss_one (ps_ret (pe_ix ix_list (pv 0) (pv 1) (fun _ _ => rfl)))) pss_nil)
      (pss_one (ps_ret pe_int))), ?_⟩
    refine ⟨_, rfl, _, rfl, _, _, rfl, .inl ⟨_, hS, rfl⟩, _, _, rfl, rfl, _, rfl, ?_⟩
    refine ite2 (fun c => ?_) (fun c => ?_)
    · exact ⟨_, rfl, _, rfl, _, _, _, _, rfl, rfl, hS, atI_cell h0 (of_decide_eq_true c), k⟩
    · have e : cell ns i = 0 := cell_out (fun z => c (decide_eq_true z))
      rw [e] at k; exact k
set_option maxHeartbeats 4000000 in
theorem okLawWords (T : Txt K mg a) : FnOk P w K mg base CX0 1 a.fLawWords a.gLawWords ["_law_cell", "_law_many"] spWo7 := by
  refine T.dLawWords.fn.ok scLawWords (fun vs H Q E h => ?_) (fun cdv A outer s H vs Q E hr h => ?_)
  · obtain ⟨_, _, rfl, _⟩ := h
    all_goals rfl
  · obtain ⟨c, m, rfl, hm, k⟩ := h
    refine ⟨_, (pss_cons (ps_set (i := 2) scLawWords.nd rfl (Or.inl rfl) pe_str)
      (pss_cons (ps_set (i := 3) scLawWords.nd rfl (Or.inl rfl) (pe_op op_add (pe_op op_add pe_int (pe_op op_mod (pv 0) pe_int)) (pe_op op_mod (pe_op op_fdiv (pv 0) pe_int) (pe_op op_sub pe_int (pe_op op_mod (pv 0) pe_int)))))
      (pss_cons (ps_set (i := 4) scLawWords.nd rfl (Or.inl rfl) (pe_op op_mod (pe_op op_fdiv (pv 0) pe_int) (pe_op op_sub (pv 3) (pe_op op_mod (pv 0) pe_int))))
      (pss_cons (ps_set (i := 5) scLawWords.nd rfl (Or.inl rfl) (pe_lst (pa_cons pe_int (pa_cons pe_int (pa_cons pe_int (pa_cons pe_int (pa_cons pe_int (pa_cons pe_int (pa_cons pe_int (pa_cons pe_int pa_nil star_con) star_con) star_con) star_con) star_con) star_con) star_con) star_con)))
      (pss_cons (ps_set (i := 6) scLawWords.nd rfl (Or.inl rfl) pe_str)
      (pss_cons (ps_for PassesOwn.never rfl (pi_range1 rfl T.n_range (pa_cons (pv 3) pa_nil star_nam)) (pg_name (i := 7) scLawWords.nd rfl (Or.inl rfl)) (pss_one (ps_set (i := 6) scLawWords.nd rfl (Or.inl rfl) (pe_op op_add_str (pv 6) (pe_ix ix_str (pv 2) (pe_op op_mod (pe_op op_mod (pe_op op_mul (pv 0) pe_int) (pe_ix ix_list (pv 5) (pv 7) (fun _ _ => rfl))) pe_int) (fun _ _ => rfl))))))
      (pss_cons (ps_set (i := 8) scLawWords.nd rfl (Or.inl rfl) (pe_lst pa_nil))
      (pss_cons (ps_for PassesOwn.never rfl (pi_range1 rfl T.n_range (pa_cons (pv 1) pa_nil star_nam)) (pg_name (i := 7) scLawWords.nd rfl (Or.inl rfl)) (pss_cons (ps_set (i := 9) scLawWords.nd rfl (Or.inl rfl) (pe_op op_mod (pe_op op_add (pe_op op_fdiv (pv 0) pe_int) (pe_op op_fdiv (pv 7) (pe_op op_add pe_int (pe_op op_mod (pv 0) pe_int)))) pe_int))
      (pss_cons (ps_set (i := 10) scLawWords.nd rfl (Or.inl rfl) (pe_op op_add_str (pe_op op_add_str (pe_slice sl_str (pv 6) po_none (po_some (pv 4))) (pe_ix ix_str (pv 2) (pv 9) (fun _ _ => rfl))) (pe_slice sl_str (pv 6) (po_some (pe_op op_add (pv 4) pe_int)) po_none)))
      (pss_cons (ps_if (PW.pt (pw_and (pt_cmpR op_eq (pe_op op_mod (pv 0) pe_int) pe_int (nomark _)) (pw_and1 (pt_cmpR op_eq (pe_op op_mod (pv 7) pe_int) pe_int (nomark _))))) (pss_one (ps_set (i := 10) scLawWords.nd rfl (Or.inl rfl) (pe_slice sl_str (pv 10) po_none (po_some (pe_op op_add (pv 4) pe_int))))) pss_nil)
      (pss_one (ps_expr (pe_bm PySem.F.plainAttrs_list PySem.F.slot_list_append PySem.F.type_list_append mt_append (pv 8) (pa_cons (pv 10) pa_nil star_nam))))))))
      (pss_one (ps_ret (pv 8))))))))))), ?_⟩
    have za := az_len
    have ce : c % 2 = 0 ∨ c % 2 = 1 := by omega
    have sB := sizeB c
    refine ⟨_, rfl, _, _, rfl, rfl, (pos (by decide)), _, _, rfl, rfl, _, rfl, _, _, rfl, rfl, ⟨by decide, by decide⟩, _, rfl, _, _, rfl, rfl, (pos (by decide)), _, _, rfl, rfl, _, _, rfl, rfl, (pos (by omega)), _, _, rfl, rfl, ?_⟩
    dsimp only []
    generalize 1 + c % 2 + c / 2 % (8 - c % 2) = S at sB ⊢
    have aB : 0 ≤ c / 16 % (S - c % 2) ∧ c / 16 % (S - c % 2) < S - c % 2 := ⟨Int.emod_nonneg _ (by omega), Int.emod_lt_of_pos _ (by omega)⟩
    refine ⟨_, rfl, _, _, rfl, rfl, ⟨by decide, by decide⟩, _, rfl, _, rfl, _, _, rfl, rfl, (pos (by decide)), _, _, rfl, rfl, _, _, rfl, rfl, (pos (by omega)), ?_⟩
    dsimp only []
    obtain ⟨n, en⟩ : ∃ n : Nat, c / 16 % (S - c % 2) = (n : Int) := ⟨(c / 16 % (S - c % 2)).toNat, by omega⟩
    rw [en] at aB ⊢
    obtain ⟨e, ee⟩ : ∃ e : Nat, c % 2 = (e : Int) := ⟨(c % 2).toNat, by omega⟩
    obtain ⟨z, ez⟩ : ∃ z : Nat, S = (z : Int) := ⟨S.toNat, by omega⟩
    subst ez
    have he : e ≤ 1 := by omega
    have hn : n + 1 + e ≤ z := by omega
    have hz : z ≤ 8 := by omega
    refine ⟨fits (show 8 ≤ 100000 by decide), fun pp hpp => ?_⟩
    have s0 := same_upd (o := .lst (prL.map V.int)) hpp
    have h0 : upd H pp (.lst (prL.map V.int)) pp = some (.lst (prL.map V.int)) := upd_same
    change _ at h0
    have e0 : upd H pp (.lst [V.int 100003, V.int 100019, V.int 100043, V.int 100049, V.int 100057, V.int 100069, V.int 100103, V.int 100109]) = upd H pp (.lst (prL.map V.int)) := rfl
    rw [e0]
    generalize upd H pp (.lst (prL.map V.int)) = H0 at s0 h0 ⊢
    have bnd := rb (n := z) (by omega)
    refine ⟨_, rfl, _, rfl, bnd.1, bnd.2, for_range (lo := 0) (n := ((z : Int)).toNat) (fun i σ H' => H' = H0 ∧ ∃ (x : Str) (v7 : Option V), σ = [some (.int c), some (.int (m : Int)), some (.str az), some (.int (z : Int)), some (.int (n : Int)), some (.ref pp), some (.str x), v7, none, none, none] ∧ x.length = i ∧ x.cps.toList.all low = true)
      ⟨rfl, Str.ofString "", none, rfl, by decide +kernel, by decide +kernel⟩ ?_ ?_⟩
    · rintro i σ H' hi ⟨rfl, x, v7, rfl, hl, hlow⟩
      have hi : i < z := hi
      rw [Int.zero_add]
      obtain ⟨p, p0, pa⟩ := pr_at (k := i) (by omega)
      obtain ⟨j, ej, j26⟩ : ∃ j : Nat, c * 48271 % p % 26 = (j : Int) ∧ j < 26 := ⟨(c * 48271 % p % 26).toNat, by omega, by omega⟩
      refine ⟨_, rfl, _, rfl, _, rfl, _, _, rfl, rfl, .inr ⟨by decide, by decide⟩, _, rfl, _, rfl, _, _, _, _, rfl, rfl, SqL.of h0, atI_nat pa, _, _, rfl, rfl, (pos p0), _, _, rfl, rfl, (pos (by decide)), _, _, _, rfl, rfl, fits (by rw [za]; decide), (show atI az.cps.toList (c * 48271 % p % 26) = _ by rw [ej]; exact az_at j26), _, _, rfl, rfl, fits (show x.length + 1 ≤ 100000 by omega), ?_⟩
      refine ⟨rfl, _, _, rfl, ?_, ?_⟩
      · rw [cat_len, hl]
        rfl
      · rw [cat_list, List.all_append, hlow]
        show (true && [97 + j].all low) = true
        rw [List.all_cons, low26 j26]; rfl
    · rintro σ H' ⟨rfl, st, v7, rfl, hl, hlow⟩
      have hl : st.length = z := hl
      refine ⟨fit0, fun q hq => ?_⟩
      have s1 := s0.trans (same_upd (o := .lst []) hq)
      have h1 := upd_same (H := H') (a := q) (o := .lst [])
      have nq := s0.free hq
      generalize upd H' q _ = H1 at s1 h1 ⊢
      have bm := rb (n := m) (by omega)
      refine ⟨_, rfl, _, rfl, bm.1, bm.2, for_range (lo := 0) (n := ((m : Int)).toNat) (fun i σ H' => Same H H' ∧ ∃ v7 v9 v10 : Option V, σ = [some (.int c), some (.int (m : Int)), some (.str az), some (.int (z : Int)), some (.int (n : Int)), some (.ref pp), some (.str st), v7, some (.ref q), v9, v10] ∧ H' q = some (.lst (((List.range i).map (wdS st.cps.toList n e (c / 128))).map V.str)))
        ⟨s1, _, none, none, rfl, h1⟩ ?_ ?_⟩
      · rintro i σ H' hi ⟨s2, v7, v9, v10, rfl, h2⟩
        have hi : i < m := hi
        rw [Int.zero_add]
        have lz : ((((List.range i).map (wdS st.cps.toList n e (c / 128))).map V.str)).length ≤ 90000 := by rw [List.length_map, List.length_map, List.length_range]; omega
        have ed : (c / 128 + (i : Int) / (1 + c % 2)) % 26 = (((sgn (c / 128) e i - 97 : Nat)) : Int) := by
          rw [ee]
          unfold sgn
          have : (i : Int) / (1 + (e : Int)) = ((i / (1 + e) : Nat) : Int) := by
            rw [Int.natCast_ediv]
            rfl
          rw [this]
          omega
        have sg26 : sgn (c / 128) e i - 97 < 26 := by unfold sgn; omega
        have sg97 : 97 + (sgn (c / 128) e i - 97) = sgn (c / 128) e i := by unfold sgn; omega
        refine ⟨_, rfl, _, _, rfl, rfl, ⟨by decide, by decide⟩, _, rfl, _, rfl, _, _, rfl, rfl, (pos (by decide)), _, _, rfl, rfl, _, _, rfl, rfl, ⟨by omega, by omega⟩, _, _, rfl, rfl, _, _, rfl, rfl, (pos (by decide)), ?_⟩
        dsimp only []
        rw [ed]
        have cat := az_at sg26
        rw [sg97] at cat
        have t1 := Nat.le_trans (Txt.slice_le st none (some (n : Int))) (Nat.le_of_eq hl)
        have t2 := Nat.le_trans (Txt.slice_le st (some ((n : Int) + 1)) none) (Nat.le_of_eq hl)
        refine ⟨_, rfl, _, rfl, _, rfl, _, rfl, fits (by omega), _, rfl, _, rfl, _, _, _, rfl, rfl, fits (by rw [za]; decide), cat, _, _, rfl, rfl, fits (show _ + 1 ≤ 100000 by omega), _, rfl, _, rfl, _, _, rfl, rfl, _, rfl, _, rfl, fits (by omega), _, _, rfl, rfl, fits (by rw [cat_len]; show _ + 1 + _ ≤ 100000; omega), ?_⟩
        dsimp only []
        rw [word_eq (st := st) (n := n) (c := sgn (c / 128) e i) (by omega)]
        have lL : st.cps.toList.length = z := by rw [Array.length_toList]; exact hl
        have lw : (⟨(wdL st.cps.toList n (sgn (c / 128) e i)).toArray⟩ : Str).length ≤ 100000 := by
          show (wdL st.cps.toList n (sgn (c / 128) e i)).toArray.size ≤ 100000
          rw [List.size_toArray]
          unfold wdL
          rw [List.length_append, List.length_cons, List.length_take, List.length_drop, lL]
          omega
        have fin : ∀ w : Str, w = wdS st.cps.toList n e (c / 128) i → ∀ v9 : Option V, Same H (upd H' q (.lst ((((List.range i).map (wdS st.cps.toList n e (c / 128))).map V.str) ++ [V.str w]))) ∧ ∃ v7 v9' v10 : Option V, [some (V.int c), some (.int (m : Int)), some (.str az), some (.int (z : Int)), some (.int (n : Int)), some (.ref pp), some (.str st), some (.int (i : Int)), some (.ref q), v9, some (.str w)] = [some (V.int c), some (.int (m : Int)), some (.str az), some (.int (z : Int)), some (.int (n : Int)), some (.ref pp), some (.str st), v7, some (.ref q), v9', v10] ∧ upd H' q (.lst ((((List.range i).map (wdS st.cps.toList n e (c / 128))).map V.str) ++ [V.str w])) q = some (.lst (((List.range (i + 1)).map (wdS st.cps.toList n e (c / 128))).map V.str)) := fun w hw v9 => by
          refine ⟨same_add s2 nq, _, _, _, rfl, ?_⟩
          rw [upd_same, List.range_succ, List.map_append, List.map_append, hw]
          rfl
        refine ⟨_, rfl, _, _, rfl, rfl, (pos (by decide)), rfl, _, rfl, ?_⟩
        by_cases c1 : c % 2 = 1
        · refine iteD (congrArg V.int c1) ⟨_, rfl, _, _, rfl, rfl, (pos (by decide)), rfl, _, rfl, ?_⟩
          by_cases c2 : (i : Int) % 2 = 1
          · refine iteD (congrArg V.int c2) ⟨_, rfl, _, rfl, _, _, rfl, rfl, _, rfl, _, rfl, fits lw, ?_⟩
            dsimp only []
            rw [cut_eq (by omega)]
            refine ⟨_, rfl, .inl ⟨rfl, _, SqL.of h2⟩, _, rfl, _, _, _, rfl, rfl, h2, lt1000 lz, ?_⟩
            exact fin _ (by unfold wdS; rw [if_pos ⟨by omega, by omega⟩]) _
          · refine iteDn (fun z => c2 (V.int.inj z)) ⟨_, rfl, .inl ⟨rfl, _, SqL.of h2⟩, _, rfl, _, _, _, rfl, rfl, h2, lt1000 lz, ?_⟩
            exact fin _ (by unfold wdS; rw [if_neg (fun z => by omega)]) _
        · refine iteDn (fun z => c1 (V.int.inj z)) (iteF ⟨_, rfl, .inl ⟨rfl, _, SqL.of h2⟩, _, rfl, _, _, _, rfl, rfl, h2, lt1000 lz, ?_⟩)
          exact fin _ (by unfold wdS; rw [if_neg (fun z => by omega)]) _
      · rintro σ H' ⟨s2, v7, v9, v10, rfl, h2⟩
        refine ⟨_, rfl, k q H' _ nq s2 h2 (by rw [List.length_map, List.length_range]; rfl) (wds_nd he (by rw [Array.length_toList]; show n + 1 + e ≤ st.length; omega) (by show m ≤ 6; exact hm)) (fun x hx => ?_)⟩
        obtain ⟨j, _, rfl⟩ := List.mem_map.mp hx
        have lL : st.cps.toList.length = z := by rw [Array.length_toList]; exact hl
        exact wds_ok hlow (by omega) (by omega) j
set_option maxHeartbeats 4000000 in
theorem okLawBase (T : Txt K mg a) : FnOk P w K mg base CX0 1 a.fLawBase a.gLawBase ["_law_cell", "_law_k", "_law_many"] spBs7 := by
  refine T.dLawBase.fn.ok scLawBase (fun vs H Q E h => ?_) (fun cdv A outer s H vs Q E hr h => ?_)
  · obtain ⟨_, _, _, rfl, _⟩ := h
    all_goals rfl
  · obtain ⟨c, k0, m, rfl, m1, m6, k⟩ := h
    refine ⟨_, (pss_cons (ps_if (pt_cmpR op_eq (pe_op op_mod (pv 0) pe_int) pe_int (nomark _)) (pss_one (ps_ret pe_non)) pss_nil)
      (pss_cons (ps_if (pt_cmpR op_eq (pe_op op_mod (pv 0) pe_int) pe_int (nomark _)) (pss_one (ps_ret (pe_op op_mod (pe_op op_add (pv 1) pe_int) (pv 2)))) pss_nil)
      (pss_one (ps_ret (pe_op op_mod (pe_op op_fdiv (pv 0) pe_int) (pv 2)))))), ?_⟩
    have tn : ∀ z : Int, z % ((m : Nat) : Int) = (((z % (m : Int)).toNat : Nat) : Int) := fun z => by
      have e0 := Int.emod_nonneg z (show ((m : Nat) : Int) ≠ 0 by omega)
      omega
    refine ⟨_, rfl, _, _, rfl, rfl, (pos (by decide)), rfl, _, rfl, ite2 (fun c1 => ?_) (fun c1 => ?_)⟩
    · have c1 := V.int.inj (of_decide_eq_true c1)
      unfold baF at k
      rw [if_pos c1] at k
      exact k
    have n1 : ¬ c % 4 = 0 := fun z => c1 (decide_eq_true (by show V.int (c % 4) = V.int 0; rw [z]))
    refine ⟨_, rfl, _, _, rfl, rfl, (pos (by decide)), rfl, _, rfl, ite2 (fun c2 => ?_) (fun c2 => ?_)⟩
    · have c2 := V.int.inj (of_decide_eq_true c2)
      unfold baF at k
      rw [if_neg n1, if_pos c2] at k
      refine ⟨_, rfl, _, _, rfl, rfl, _, rfl, _, _, rfl, rfl, (pos (by omega)), ?_⟩
      dsimp only []
      rw [tn]
      exact k
    · have n2 : ¬ c % 4 = 1 := fun z => c2 (decide_eq_true (by show V.int (c % 4) = V.int 1; rw [z]))
      unfold baF at k
      rw [if_neg n1, if_neg n2] at k
      refine ⟨_, rfl, _, _, rfl, rfl, ⟨by decide, by decide⟩, _, rfl, _, _, rfl, rfl, (pos (by omega)), ?_⟩
      dsimp only []
      rw [tn]
      exact k
set_option maxHeartbeats 4000000 in
theorem okLawHasRing (T : Txt K mg a) : FnOk P w K mg base CX0 1 a.fLawHasRing a.gLawHasRing ["_law_bases"] spHr7 := by
  refine T.dLawHasRing.fn.ok scLawHasRing (fun vs H Q E h => ?_) (fun cdv A outer s H vs Q E hr h => ?_)
  · obtain ⟨_, _, rfl, _⟩ := h
    all_goals rfl
  · obtain ⟨pb, bs, rfl, hb, b6, ok, k, kn⟩ := h
    refine ⟨_, (pss_cons (ps_for PassesOwn.never rfl (pi_range1 rfl T.n_range (pa_cons (pe_callB call_len (by rfl) T.n_len boot_len (pa_cons (pv 0) pa_nil star_nam)) pa_nil star_cal)) (pg_name (i := 1) scLawHasRing.nd rfl (Or.inl rfl)) (pss_cons (ps_set (i := 2) scLawHasRing.nd rfl (Or.inl rfl) (pv 1))
      (pss_cons (ps_for PassesOwn.never rfl (pi_range1 rfl T.n_range (pa_cons (pe_callB call_len (by rfl) T.n_len boot_len (pa_cons (pv 0) pa_nil star_nam)) pa_nil star_cal)) (pg_name (i := 3) scLawHasRing.nd rfl (Or.inl rfl)) (pss_one (ps_if (pt_cmpR op_notN (pv 2) pe_non (nomark _)) (pss_one (ps_set (i := 2) scLawHasRing.nd rfl (Or.inl rfl) (pe_ix ix_list (pv 0) (pv 2) (fun _ _ => rfl)))) pss_nil)))
      (pss_one (ps_if (pt_cmpR op_notN (pv 2) pe_non (nomark _)) (pss_one (ps_ret pe_bl)) pss_nil)))))
      (pss_one (ps_ret pe_bl))), ?_⟩
    have lb : (bs.map encO).length = bs.length := List.length_map _
    have bnd := rb (n := (bs.map encO).length) (by omega)
    refine ⟨_, rfl, _, _, rfl, .inl ⟨_, SqL.of hb, rfl⟩, _, rfl, bnd.1, bnd.2, for_range (lo := 0) (n := (((bs.map encO).length : Int)).toNat) (fun i σ H' => H' = H ∧ (∀ j, j < i → itN (bo bs) bs.length (some j) = none) ∧ ∃ v1 v2 v3 : Option V, σ = [some (.ref pb), v1, v2, v3]) ⟨rfl, (fun j hj => absurd hj (Nat.not_lt_zero _)), none, none, none, rfl⟩ ?_ ?_⟩
    · rintro i σ H' hi ⟨rfl, al, v1, v2, v3, rfl⟩
      have hi : i < bs.length := by rw [lb] at hi; omega
      rw [Int.zero_add]
      refine ⟨_, rfl, _, rfl, _, _, rfl, .inl ⟨_, SqL.of hb, rfl⟩, _, rfl, bnd.1, bnd.2, for_range (lo := 0) (n := (((bs.map encO).length : Int)).toNat) (fun t σ J => J = H' ∧ ∃ v3 : Option V, σ = [some (.ref pb), some (.int (i : Int)), some (encO (itN (bo bs) t (some i))), v3]) ⟨rfl, _, rfl⟩ ?_ ?_⟩
      · rintro t σ J ht ⟨rfl, v3, rfl⟩
        have es := itN_succ (f := bo bs) t (some i)
        have lt := itN_lt ok hi t
        generalize itN (bo bs) t (some i) = o at es lt ⊢
        rw [es]
        cases o with
        | none => exact ⟨_, rfl, rfl, _, rfl, iteND rfl ⟨rfl, _, rfl⟩⟩
        | some b => exact ⟨_, rfl, rfl, _, rfl, iteNN (fun z => nomatch z) ⟨_, rfl, _, rfl, _, _, _, _, rfl, rfl, SqL.of hb, atI_nat (boV (lt b rfl)), rfl, _, rfl⟩⟩
      · rintro σ J ⟨rfl, v3, rfl⟩
        rw [lb, Int.toNat_natCast]
        have hi2 : itN (bo bs) bs.length (some i) ≠ none → hasR bs := fun z => ⟨i, hi, z⟩
        have al2 : itN (bo bs) bs.length (some i) = none → ∀ j, j < i + 1 → itN (bo bs) bs.length (some j) = none := fun z j hj => by
          by_cases c : j = i
          · rw [c]; exact z
          · exact al j (by omega)
        generalize itN (bo bs) bs.length (some i) = o at hi2 al2 ⊢
        cases o with
        | none => exact ⟨_, rfl, rfl, _, rfl, iteND rfl ⟨rfl, al2 rfl, _, _, _, rfl⟩⟩
        | some b => exact ⟨_, rfl, rfl, _, rfl, iteNN (fun z => nomatch z) (k (hi2 (fun z => nomatch z)))⟩
    · rintro σ H' ⟨rfl, al, v1, v2, v3, rfl⟩
      rw [lb, Int.toNat_natCast] at al
      exact kn fun ⟨j, hj, z⟩ => z (al j hj)
set_option maxHeartbeats 4000000 in
theorem okLawRules (T : Txt K mg a) : FnOk P w K mg base CX0 3 a.fLawRules a.gLawRules ["_law_names", "_law_bases"] (spRs7 a) := by
  refine T.dLawRules.fn.ok scLawRules (fun vs H Q E h => ?_) (fun cdv A outer s H vs Q E hr h => ?_)
  · obtain ⟨_, _, _, _, rfl, _⟩ := h
    all_goals rfl
  · obtain ⟨pn, pb, nms, bs, rfl, hn, hb, wr, k⟩ := h
    refine ⟨_, (pss_cons (ps_set (i := 2) scLawRules.nd rfl (Or.inl rfl) (pe_lst pa_nil))
      (pss_cons (ps_for PassesOwn.never rfl (pi_range1 rfl T.n_range (pa_cons (pe_callB call_len (by rfl) T.n_len boot_len (pa_cons (pv 0) pa_nil star_nam)) pa_nil star_cal)) (pg_name (i := 3) scLawRules.nd rfl (Or.inl rfl)) (pss_one (ps_if (pt_cmpR op_isN (pe_ix ix_list (pv 1) (pv 3) (fun _ _ => rfl)) pe_non (nomark _)) (pss_one (ps_expr (pe_bm PySem.F.plainAttrs_list PySem.F.slot_list_append PySem.F.type_list_append mt_append (pv 2) (pa_cons (pe_make T.k_Rule (okRuleInit T) (hr.mono (by decide)) rfl T.m_Rule T.e_RuleInit_8 (dvs := [.non]) (.cons rfl .nil) pass0 (pa_cons (pe_ix ix_list (pv 0) (pv 3) (fun _ _ => rfl)) (pa_cons pe_str (pa_cons pe_str (pa_cons pe_str (pa_cons pe_non (pa_cons pe_int (pa_cons pe_str pa_nil star_con) star_con) star_con) star_con) star_con) star_con) star_sub)) pa_nil star_cal)))) (pss_one (ps_expr (pe_bm PySem.F.plainAttrs_list PySem.F.slot_list_append PySem.F.type_list_append mt_append (pv 2) (pa_cons (pe_make T.k_Rule (okRuleInit T) (hr.mono (by decide)) rfl T.m_Rule T.e_RuleInit_8 (dvs := [.non]) (.cons rfl .nil) pass0 (pa_cons (pe_ix ix_list (pv 0) (pv 3) (fun _ _ => rfl)) (pa_cons pe_str (pa_cons pe_str (pa_cons pe_non (pa_cons (pe_ix ix_list (pv 0) (pe_ix ix_list (pv 1) (pv 3) (fun _ _ => rfl)) (fun _ _ => rfl)) (pa_cons pe_int (pa_cons pe_str pa_nil star_con) star_con) star_sub) star_con) star_con) star_con) star_sub)) pa_nil star_cal)))))))
      (pss_one (ps_ret (pv 2))))), ?_⟩
    refine ⟨fit0, fun q hq => ?_⟩
    have s0 := same_upd (o := .lst []) hq
    have h0 := upd_same (H := H) (a := q) (o := .lst [])
    generalize upd H q _ = H0 at s0 h0 ⊢
    have ln : (nms.map V.str).length = nms.length := List.length_map _
    have sm := wr.sm
    have bnd := rb (n := (nms.map V.str).length) (by omega)
    refine ⟨_, rfl, _, _, rfl, .inl ⟨_, SqL.of (s0 _ _ hn), rfl⟩, _, rfl, bnd.1, bnd.2, for_range (lo := 0) (n := (((nms.map V.str).length : Int)).toNat) (fun i σ H' => Same H H' ∧ (∃ us : List V, H' q = some (.lst us) ∧ us.length = i ∧ ∀ (j : Nat) (y : V), us[j]? = some y → Ru a.cRule H' y (nm nms j) (encN nms (bo bs j))) ∧ ∃ v3 : Option V, σ = [some (.ref pn), some (.ref pb), some (.ref q), v3]) ⟨s0, ⟨[], h0, rfl, fun j y e => by cases e⟩, none, rfl⟩ ?_ ?_⟩
    · rintro i σ H' hi ⟨s1, ⟨us, hq', lu, hu⟩, v3, rfl⟩
      have hi : i < nms.length := by rw [ln] at hi; omega
      rw [Int.zero_add]
      have hv := boV (bs := bs) (k := i) (by rw [wr.len]; exact hi)
      have nxt : ∀ (x : Addr) (H2 : Hp), Same H' H2 → Ru a.cRule H2 (.ref x) (nm nms i) (encN nms (bo bs i)) → Same H (upd H2 q (.lst (us ++ [.ref x]))) ∧ (∃ us' : List V, upd H2 q (.lst (us ++ [.ref x])) q = some (.lst us') ∧ us'.length = i + 1 ∧ ∀ (j : Nat) (y : V), us'[j]? = some y → Ru a.cRule (upd H2 q (.lst (us ++ [.ref x]))) y (nm nms j) (encN nms (bo bs j))) ∧ ∃ w3 : Option V, [some (V.ref pn), some (V.ref pb), some (V.ref q), some (V.int (i : Int))] = [some (.ref pn), some (.ref pb), some (.ref q), w3] := fun x H2 s2 ru => by
        have kn : KeepN H2 (upd H2 q (.lst (us ++ [.ref x]))) := KeepN.upd (s2 _ _ hq')
        refine ⟨same_add (s1.trans s2) hq, ⟨_, upd_same, by rw [List.length_append, lu]; rfl, fun j y e => ?_⟩, _, rfl⟩
        by_cases c : j < us.length
        · rw [List.getElem?_append_left c] at e
          exact ((hu j y e).same s2).keep kn
        · rw [List.getElem?_append_right (by omega)] at e
          have l : j - us.length < 1 := (List.getElem?_eq_some_iff.mp e).1
          obtain rfl : j = i := by omega
          rw [show j - us.length = 0 by omega] at e
          cases e
          exact ru.keep kn
      cases eb : bo bs i with
      | none =>
        rw [eb] at hv nxt
        refine ⟨_, rfl, _, rfl, _, _, _, _, rfl, rfl, SqL.of (s1 _ _ hb), atI_nat hv, rfl, _, rfl, iteD rfl ?_⟩
        refine ⟨_, rfl, .inl ⟨rfl, _, SqL.of hq'⟩, _, rfl, _, rfl, _, _, _, _, rfl, rfl, SqL.of (s1 _ _ hn), atI_nat (nmV hi), fun x dx nx nd ne => ?_⟩
        refine ⟨x, dx, _, _, _, _, _, _, _, _, rfl, upd_same, fun H2 fs b2 h1 h2 h3 h4 h5 => ⟨rfl, ?_⟩⟩
        have s2 : Same H' H2 := b2.made nx nd
        refine ⟨_, _, _, rfl, rfl, s2 _ _ hq', lt1000 (by omega), ?_⟩
        exact nxt x H2 s2 ⟨x, dx, fs, rfl, h1, h2, h5⟩

      | some b =>
        rw [eb] at hv nxt
        have hbn := wr.ok i b eb
        refine ⟨_, rfl, _, rfl, _, _, _, _, rfl, rfl, SqL.of (s1 _ _ hb), atI_nat hv, rfl, _, rfl, iteDn (fun z => nomatch z) ?_⟩
        refine ⟨_, rfl, .inl ⟨rfl, _, SqL.of hq'⟩, _, rfl, _, rfl, _, _, _, _, rfl, rfl, SqL.of (s1 _ _ hn), atI_nat (nmV hi), _, rfl, _, rfl, _, rfl, _, _, _, _, rfl, rfl, SqL.of (s1 _ _ hb), atI_nat hv, _, _, _, _, rfl, rfl, SqL.of (s1 _ _ hn), atI_nat (nmV hbn), fun x dx nx nd ne => ?_⟩
        refine ⟨x, dx, _, _, _, _, _, _, _, _, rfl, upd_same, fun H2 fs b2 h1 h2 h3 h4 h5 => ⟨rfl, ?_⟩⟩
        have s2 : Same H' H2 := b2.made nx nd
        refine ⟨_, _, _, rfl, rfl, s2 _ _ hq', lt1000 (by omega), ?_⟩
        exact nxt x H2 s2 ⟨x, dx, fs, rfl, h1, h2, h5⟩

    · rintro σ H' ⟨s1, ⟨us, hq', lu, hu⟩, v3, rfl⟩
      exact ⟨_, rfl, k q H' us hq s1 hq' ⟨by rw [lu]; rw [ln]; rfl, hu⟩⟩
set_option maxHeartbeats 4000000 in
theorem okLawText (T : Txt K mg a) : FnOk P w K mg base CX0 1 a.fLawText a.gLawText ["_law_names", "_law_bases"] spTx7 := by
  refine T.dLawText.fn.ok scLawText (fun vs H Q E h => ?_) (fun cdv A outer s H vs Q E hr h => ?_)
  · obtain ⟨_, _, _, _, rfl, _⟩ := h
    all_goals rfl
  · obtain ⟨pn, pb, nms, bs, rfl, hn, hb, wr, nmo, k⟩ := h
    refine ⟨_, (pss_cons (ps_set (i := 2) scLawText.nd rfl (Or.inl rfl) (pe_lst pa_nil))
      (pss_cons (ps_for PassesOwn.never rfl (pi_range1 rfl T.n_range (pa_cons (pe_callB call_len (by rfl) T.n_len boot_len (pa_cons (pv 0) pa_nil star_nam)) pa_nil star_cal)) (pg_name (i := 3) scLawText.nd rfl (Or.inl rfl)) (pss_cons (ps_set (i := 4) scLawText.nd rfl (Or.inl rfl) pe_str)
      (pss_cons (ps_if (pt_cmpR op_notN (pe_ix ix_list (pv 1) (pv 3) (fun _ _ => rfl)) pe_non (nomark _)) (pss_one (ps_set (i := 4) scLawText.nd rfl (Or.inl rfl) (pe_op op_add_str (pe_op op_add_str pe_str (pe_ix ix_list (pv 0) (pe_ix ix_list (pv 1) (pv 3) (fun _ _ => rfl)) (fun _ _ => rfl))) pe_str))) pss_nil)
      (pss_one (ps_expr (pe_bm PySem.F.plainAttrs_list PySem.F.slot_list_append PySem.F.type_list_append mt_append (pv 2) (pa_cons (pe_op op_add_str (pe_op op_add_str (pe_op op_add_str pe_str (pe_ix ix_list (pv 0) (pv 3) (fun _ _ => rfl))) pe_str) (pv 4)) pa_nil star_bin)))))))
      (pss_one (ps_ret (pe_bm PySem.F.plainAttrs_str PySem.F.slot_str_join PySem.F.type_str_join mt_join pe_str (pa_cons (pv 2) pa_nil star_nam)))))), ?_⟩
    obtain ⟨l1, l2, l3, l4, l5⟩ := len_c
    have lns := lns_ok wr nmo
    have jo := join_ok lns
    refine ⟨fit0, fun q hq => ?_⟩
    have s0 := same_upd (o := .lst []) hq
    have h0 := upd_same (H := H) (a := q) (o := .lst [])
    generalize upd H q _ = H0 at s0 h0 ⊢
    have ln : (nms.map V.str).length = nms.length := List.length_map _
    have sm := wr.sm
    have bnd := rb (n := (nms.map V.str).length) (by omega)
    refine ⟨_, rfl, _, _, rfl, .inl ⟨_, SqL.of (s0 _ _ hn), rfl⟩, _, rfl, bnd.1, bnd.2, for_range (lo := 0) (n := (((nms.map V.str).length : Int)).toNat) (fun i σ H' => Same H H' ∧ H' q = some (.lst (((List.range i).map (lnJ nms bs)).map V.str)) ∧ ∃ v3 v4 : Option V, σ = [some (.ref pn), some (.ref pb), some (.ref q), v3, v4]) ⟨s0, h0, none, none, rfl⟩ ?_ ?_⟩
    · rintro i σ H' hi ⟨s1, hq', v3, v4, rfl⟩
      have hi : i < nms.length := by rw [ln] at hi; omega
      rw [Int.zero_add]
      have hv := boV (bs := bs) (k := i) (by rw [wr.len]; exact hi)
      have nx8 : (nm nms i).length ≤ 8 := (nm_ok nmo hi).2.1
      have lz : (((List.range i).map (lnJ nms bs)).map V.str).length ≤ 90000 := by rw [List.length_map, List.length_map, List.length_range]; omega
      have er : ((List.range i).map (lnJ nms bs)).map V.str ++ [V.str (lnJ nms bs i)] = ((List.range (i + 1)).map (lnJ nms bs)).map V.str := by rw [List.range_succ, List.map_append, List.map_append]; rfl
      cases eb : bo bs i with
      | none =>
        rw [eb] at hv
        refine ⟨_, rfl, _, rfl, _, _, _, _, rfl, rfl, SqL.of (s1 _ _ hb), atI_nat hv, rfl, _, rfl, iteND rfl ?_⟩
        have el : lnJ nms bs i = wS "term " ++ nm nms i ++ wS " of a due b " ++ wS "from c 1 days" := by rw [way0]; unfold lnJ; rw [eb]; rfl
        refine ⟨_, rfl, .inl ⟨rfl, _, SqL.of hq'⟩, _, rfl, _, rfl, _, _, _, _, rfl, rfl, SqL.of (s1 _ _ hn), atI_nat (nmV hi), _, _, rfl, rfl, fits (by (try simp only [cat_len]); omega), _, _, rfl, rfl, fits (by (try simp only [cat_len]); omega), _, rfl, _, _, rfl, rfl, fits (by (try simp only [cat_len]); omega), _, _, _, rfl, rfl, hq', lt1000 lz, ?_⟩
        rw [show Str.ofString "term " ++ nm nms i ++ Str.ofString " of a due b " ++ Str.ofString "from c 1 days" = lnJ nms bs i from el.symm, er]
        exact ⟨same_add s1 hq, upd_same, _, _, rfl⟩
      | some b =>
        rw [eb] at hv
        have hbn := wr.ok i b eb
        have nb8 : (nm nms b).length ≤ 8 := (nm_ok nmo hbn).2.1
        have el : lnJ nms bs i = wS "term " ++ nm nms i ++ wS " of a due b " ++ (wS "behind " ++ nm nms b ++ wS " 2 weeks") := by rw [way1]; unfold lnJ; rw [eb]; rfl
        refine ⟨_, rfl, _, rfl, _, _, _, _, rfl, rfl, SqL.of (s1 _ _ hb), atI_nat hv, rfl, _, rfl, iteNN (fun z => nomatch z) ?_⟩
        refine ⟨_, rfl, _, rfl, _, rfl, _, _, _, _, rfl, rfl, SqL.of (s1 _ _ hb), atI_nat hv, _, _, _, _, rfl, rfl, SqL.of (s1 _ _ hn), atI_nat (nmV hbn), _, _, rfl, rfl, fits (by (try simp only [cat_len]); omega), _, _, rfl, rfl, fits (by (try simp only [cat_len]); omega), ?_⟩
        refine ⟨_, rfl, .inl ⟨rfl, _, SqL.of hq'⟩, _, rfl, _, rfl, _, _, _, _, rfl, rfl, SqL.of (s1 _ _ hn), atI_nat (nmV hi), _, _, rfl, rfl, fits (by (try simp only [cat_len]); omega), _, _, rfl, rfl, fits (by (try simp only [cat_len]); omega), _, rfl, _, _, rfl, rfl, fits (by (try simp only [cat_len]); omega), _, _, _, rfl, rfl, hq', lt1000 lz, ?_⟩
        rw [show Str.ofString "term " ++ nm nms i ++ Str.ofString " of a due b " ++ (Str.ofString "behind " ++ nm nms b ++ Str.ofString " 2 weeks") = lnJ nms bs i from el.symm, er]
        exact ⟨same_add s1 hq, upd_same, _, _, rfl⟩
    · rintro σ H' ⟨s1, hq', v3, v4, rfl⟩
      rw [ln, Int.toNat_natCast] at hq'
      refine ⟨rfl, _, rfl, _, q, _, rfl, rfl, SqL.of hq', jo.1, ?_⟩
      rw [jo.2]
      exact k _ s1
set_option maxHeartbeats 4000000 in
theorem okLawTold (T : Txt K mg a) : FnOk P w K mg base CX0 9 a.fLawTold a.gLawTold ["_law_way", "_law_names", "_law_bases"] (spTd7 a) := by
  refine T.dLawTold.fn.ok scLawTold (fun vs H Q E h => ?_) (fun cdv A outer s H vs Q E hr h => ?_)
  · obtain ⟨_, _, _, _, _, rfl, _⟩ := h
    all_goals rfl
  · obtain ⟨wy, pn, pb, nms, bs, rfl, hn, hb, wr, nmo, k, kr⟩ := h
    refine ⟨_, (pss_cons (ps_set (i := 3) scLawTold.nd rfl (Or.inl rfl) pe_non)
      (pss_cons (ps_try ⟨rfl, rfl⟩ (fun _ _ _ hx hp => (pss_one (ps_if (pt_cmpR op_eq (pv 0) pe_int (nomark _)) (pss_one (ps_expr (pe_callX (okHangingOrder T) (hr.mono (by decide)) rfl T.dHangingOrder.mgx T.dHangingOrder.fn.kp T.dHangingOrder.bd .nil hx (pa_cons (pe_call (okLawRules T) (hr.mono (by decide)) rfl T.dLawRules.mgx T.dLawRules.fn.kp T.dLawRules.bd .nil pass0 (pa_cons (pv 1) (pa_cons (pv 2) pa_nil star_nam) star_nam)) pa_nil star_cal)))) (pss_one (ps_if (pt_cmpR op_eq (pv 0) pe_int (nomark _)) (pss_one (ps_expr (pe_makeX T.k_Book (okBookInit T) (hr.mono (by decide)) rfl T.m_Book T.dBookInit.bd .nil hx (pa_cons (pe_call (okLawRules T) (hr.mono (by decide)) rfl T.dLawRules.mgx T.dLawRules.fn.kp T.dLawRules.bd .nil pass0 (pa_cons (pv 1) (pa_cons (pv 2) pa_nil star_nam) star_nam)) pa_nil star_cal)))) (pss_one (ps_expr (pe_callX (okReadBook T) (hr.mono (by decide)) rfl T.dReadBook.mgx T.dReadBook.fn.kp T.dReadBook.bd .nil hx (pa_cons (pe_call (okLawText T) (hr.mono (by decide)) rfl T.dLawText.mgx T.dLawText.fn.kp T.dLawText.bd .nil pass0 (pa_cons (pv 1) (pa_cons (pv 2) pa_nil star_nam) star_nam)) pa_nil star_cal))))))))) (ph_no (pcs_cons (pc_glob rfl T.m_Adrift) (pcs_cons (pc_glob rfl T.m_Full) (pcs_cons (pc_glob rfl T.m_NoAct) (pcs_cons (pc_glob rfl T.m_NoDay) (pcs_cons (pc_glob rfl T.m_NoName) (pcs_cons (pc_glob rfl T.m_NoRow) (pcs_cons (pc_glob rfl T.m_NoRule) (pcs_cons (pc_glob rfl T.m_NoTable) (pcs_cons (pc_glob rfl T.m_NoTerm) (pcs_cons (pc_glob rfl T.m_Parted) (pcs_cons (pc_glob rfl T.m_Twice) (pcs_cons (pc_glob rfl T.m_Unfit) pcs_nil)))))))))))) (ph_as (i := 4) scLawTold.nd rfl rfl (pc_glob rfl T.m_Ring) (fun _ => (pss_one (ps_set (i := 3) scLawTold.nd rfl (Or.inl rfl) (pe_tup (pa_cons pe_str (pa_cons (pe_xfld (pv 4) rfl) (pa_cons (pe_and (pe_callB call_isx (by rfl) T.n_isinstance boot_isinstance (pa_cons (pv 4) (pa_cons (pe_glob (v := .ref a.cCourtError) rfl T.m_CourtError rfl) pa_nil star_nam) star_nam)) (pe_one (pe_callB call_isx (by rfl) T.n_isinstance boot_isinstance (pa_cons (pv 4) (pa_cons (pe_bltn (v := .ty "ValueError") rfl T.n_ValueError boot_ValueError rfl) pa_nil star_nam) star_nam)))) pa_nil star_boo) star_att) star_con))))) ph_nil)))
      (pss_one (ps_ret (pv 3))))), ?_⟩
    dsimp only []
    have keepB : ∀ {J : Hp} {x dx : Addr}, J x = none → J dx = none → Same J (upd (upd J dx (.own x)) x (.ins a.cBook dx [])) := fun nx nd b u e => by rw [upd_ne (ne_of_none e nx), upd_ne (ne_of_none e nd)]; exact e
    refine ⟨_, rfl, rfl, _, rfl, ite2 (fun c => ?_) (fun c => ⟨_, rfl, rfl, _, rfl, ite2 (fun c => ?_) (fun c => ?_)⟩)⟩
    · refine ⟨_, rfl, _, rfl, pn, pb, nms, bs, rfl, hn, hb, wr, fun q H1 us nq s1 eq rus => ?_⟩
      refine ⟨q, us, nms, bs, rfl, eq, rus, wr, fun q2 H2 os n2 s2 e2 nd lt od al => ⟨_, rfl, k H2 os (s1.trans s2) ⟨nd, lt, od, al⟩⟩, ?_⟩
      · intro x d0 l0 H9 r s9 ex ed el rg
        refine ⟨x, _, rfl, ex, ⟨⟨fits (show 12 ≤ 100000 by decide), fun c hc => ?_⟩, hcl_true T.h_Ring_Ring ?_⟩⟩
        · simp only [List.mem_cons, List.not_mem_nil, or_false] at hc
          rcases hc with rfl | rfl | rfl | rfl | rfl | rfl | rfl | rfl | rfl | rfl | rfl | rfl
          · exact T.h_Ring_Adrift
          · exact T.h_Ring_Full
          · exact T.h_Ring_NoAct
          · exact T.h_Ring_NoDay
          · exact T.h_Ring_NoName
          · exact T.h_Ring_NoRow
          · exact T.h_Ring_NoRule
          · exact T.h_Ring_NoTable
          · exact T.h_Ring_NoTerm
          · exact T.h_Ring_Parted
          · exact T.h_Ring_Twice
          · exact T.h_Ring_Unfit
        · refine ⟨_, rfl, x, _, d0, false, _, _, rfl, ex, ed, T.x_Ring.is, xno_of T.n_Ring (by decide), rfl, _, rfl, _, _, _, _, _, _, _, rfl, ex, ⟨_, ed⟩, T.x_Ring.is, .inr ⟨_, rfl, rfl⟩, xkits_of T.k_Ring (i := 0) rfl rfl, _, rfl, iteT ⟨_, rfl, _, _, _, _, _, _, _, rfl, ex, ⟨_, ed⟩, T.x_Ring.is, .inl ⟨_, rfl, rfl⟩, xkits_of T.k_Ring (i := 1) rfl rfl, fit3 _ _ _, fun t0 ht0 => ?_⟩⟩
          exact ⟨_, rfl, kr t0 l0 _ r ((s1).trans (s9.trans (same_upd ht0))) upd_same (same_upd ht0 _ _ el) rg⟩

    · refine ⟨_, rfl, _, rfl, pn, pb, nms, bs, rfl, hn, hb, wr, fun q H1 us nq s1 eq rus => ?_⟩
      refine fun xb dx nx nd ne => ?_
      have kp := keepB nx nd
      refine ⟨xb, dx, q, us, nms, bs, rfl, upd_same, kp _ _ eq, rus.same kp, wr, fun H8 os b8 bo8 ors => ⟨rfl, _, rfl, k H8 os (s1.trans (b8.made nx nd)) ors⟩, ?_⟩
      · intro x d0 l0 H9 r s9 ex ed el rg
        refine ⟨x, _, rfl, ex, ⟨⟨fits (show 12 ≤ 100000 by decide), fun c hc => ?_⟩, hcl_true T.h_Ring_Ring ?_⟩⟩
        · simp only [List.mem_cons, List.not_mem_nil, or_false] at hc
          rcases hc with rfl | rfl | rfl | rfl | rfl | rfl | rfl | rfl | rfl | rfl | rfl | rfl
          · exact T.h_Ring_Adrift
          · exact T.h_Ring_Full
          · exact T.h_Ring_NoAct
          · exact T.h_Ring_NoDay
          · exact T.h_Ring_NoName
          · exact T.h_Ring_NoRow
          · exact T.h_Ring_NoRule
          · exact T.h_Ring_NoTable
          · exact T.h_Ring_NoTerm
          · exact T.h_Ring_Parted
          · exact T.h_Ring_Twice
          · exact T.h_Ring_Unfit
        · refine ⟨_, rfl, x, _, d0, false, _, _, rfl, ex, ed, T.x_Ring.is, xno_of T.n_Ring (by decide), rfl, _, rfl, _, _, _, _, _, _, _, rfl, ex, ⟨_, ed⟩, T.x_Ring.is, .inr ⟨_, rfl, rfl⟩, xkits_of T.k_Ring (i := 0) rfl rfl, _, rfl, iteT ⟨_, rfl, _, _, _, _, _, _, _, rfl, ex, ⟨_, ed⟩, T.x_Ring.is, .inl ⟨_, rfl, rfl⟩, xkits_of T.k_Ring (i := 1) rfl rfl, fit3 _ _ _, fun t0 ht0 => ?_⟩⟩
          exact ⟨_, rfl, kr t0 l0 _ r ((s1.trans kp).trans (s9.trans (same_upd ht0))) upd_same (same_upd ht0 _ _ el) rg⟩

    · refine ⟨_, rfl, _, rfl, pn, pb, nms, bs, rfl, hn, hb, wr, nmo, fun H1 s1 => ?_⟩
      refine ⟨nms, bs, rfl, wr, nmo, fun xb H8 os s8 bo8 ors => ⟨_, rfl, k H8 os (s1.trans s8) ors⟩, ?_⟩
      · intro x d0 l0 H9 r s9 ex ed el rg
        refine ⟨x, _, rfl, ex, ⟨⟨fits (show 12 ≤ 100000 by decide), fun c hc => ?_⟩, hcl_true T.h_Ring_Ring ?_⟩⟩
        · simp only [List.mem_cons, List.not_mem_nil, or_false] at hc
          rcases hc with rfl | rfl | rfl | rfl | rfl | rfl | rfl | rfl | rfl | rfl | rfl | rfl
          · exact T.h_Ring_Adrift
          · exact T.h_Ring_Full
          · exact T.h_Ring_NoAct
          · exact T.h_Ring_NoDay
          · exact T.h_Ring_NoName
          · exact T.h_Ring_NoRow
          · exact T.h_Ring_NoRule
          · exact T.h_Ring_NoTable
          · exact T.h_Ring_NoTerm
          · exact T.h_Ring_Parted
          · exact T.h_Ring_Twice
          · exact T.h_Ring_Unfit
        · refine ⟨_, rfl, x, _, d0, false, _, _, rfl, ex, ed, T.x_Ring.is, xno_of T.n_Ring (by decide), rfl, _, rfl, _, _, _, _, _, _, _, rfl, ex, ⟨_, ed⟩, T.x_Ring.is, .inr ⟨_, rfl, rfl⟩, xkits_of T.k_Ring (i := 0) rfl rfl, _, rfl, iteT ⟨_, rfl, _, _, _, _, _, _, _, rfl, ex, ⟨_, ed⟩, T.x_Ring.is, .inl ⟨_, rfl, rfl⟩, xkits_of T.k_Ring (i := 1) rfl rfl, fit3 _ _ _, fun t0 ht0 => ?_⟩⟩
          exact ⟨_, rfl, kr t0 l0 _ r ((s1).trans (s9.trans (same_upd ht0))) upd_same (same_upd ht0 _ _ el) rg⟩
set_option maxHeartbeats 4000000 in
theorem okLawIsRing (T : Txt K mg a) : FnOk P w K mg base CX0 1 a.fLawIsRing a.gLawIsRing ["_law_found", "_law_names", "_law_bases"] spIr7 := by
  refine T.dLawIsRing.fn.ok scLawIsRing (fun vs H Q E h => ?_) (fun cdv A outer s H vs Q E hr h => ?_)
  · obtain ⟨_, _, _, _, _, _, _, rfl, _⟩ := h
    all_goals rfl
  · obtain ⟨t, l, pn, pb, nms, bs, r, rfl, hn, hb, wr, ht, hl, rg, k⟩ := h
    refine ⟨_, (pss_cons (ps_if (PW.pt (pw_or (pt_cmpR op_isN (pv 0) pe_non (nomark _)) (pw_or (pt_cmpR op_ne (pe_ix ix_tup (pv 0) pe_int (fun _ _ => rfl)) pe_str (nomark _)) (pw_or1 (pt_cmpR op_notB (pe_ix ix_tup (pv 0) pe_int (fun _ _ => rfl)) pe_bl (nomark _)))))) (pss_one (ps_ret pe_bl)) pss_nil)
      (pss_cons (ps_set (i := 3) scLawIsRing.nd rfl (Or.inl rfl) (pe_ix ix_tup (pv 0) pe_int (fun _ _ => rfl)))
      (pss_cons (ps_if (PW.pt (pw_or (pt_not (pt_val (pe_callB call_isi (by rfl) T.n_isinstance boot_isinstance (pa_cons (pv 3) (pa_cons (pe_bltn (v := .ty "list") rfl T.n_list boot_list rfl) pa_nil star_nam) star_nam)))) (pw_or (pt_cmpR (op_eqL hr.units0) (pv 3) (pe_lst pa_nil) (nomark _)) (pw_or1 (pt_not (pt_val (pe_callB (call_allB rfl) (by rfl) T.n_all boot_all (pa_cons (pe_comp (N := ["_law_name", "_law_names"]) (js := [none, some 1]) (XN := ["_law_found", "_law_names", "_law_bases", "_law_ring", "_law_k", "_law_base_here"]) (xs := defScope sLawIsRing) rfl rfl rfl (by decide +kernel) (pi_list (pv 3)) (fun _ _ _ _ _ _ => (pg_name (i := 0) (show List.Nodup (["_law_name", "_law_names"] : List Str) from by decide +kernel) rfl (Or.inl rfl) (Or.inr rfl))) (fun _ _ _ _ _ _ => pts_nil) (fun _ _ _ _ _ _ => (pe_cmpR (op_in_seqK (K := K) rfl) (pv 0) (pv 1) (by with_unfolding_all rfl)))) pa_nil star_cmp)))))))) (pss_one (ps_ret pe_bl)) pss_nil)
      (pss_cons (ps_for PassesOwn.never rfl (pi_range1 rfl T.n_range (pa_cons (pe_callB call_len (by rfl) T.n_len boot_len (pa_cons (pv 3) pa_nil star_nam)) pa_nil star_cal)) (pg_name (i := 4) scLawIsRing.nd rfl (Or.inl rfl)) (pss_cons (ps_if (PW.pt (pw_or (pt_not (pt_val (pe_callB call_isi (by rfl) T.n_isinstance boot_isinstance (pa_cons (pe_ix ix_list (pv 3) (pv 4) (fun _ _ => rfl)) (pa_cons (pe_bltn (v := .ty "str") rfl T.n_str boot_str rfl) pa_nil star_nam) star_sub)))) (pw_or1 (pt_cmpR op_ne (pe_bm PySem.F.plainAttrs_list PySem.F.slot_list_count PySem.F.type_list_count mt_countS (pv 3) (pa_cons (pe_ix ix_list (pv 3) (pv 4) (fun _ _ => rfl)) pa_nil star_sub)) pe_int (nomark _))))) (pss_one (ps_ret pe_bl)) pss_nil)
      (pss_cons (ps_set (i := 5) scLawIsRing.nd rfl (Or.inl rfl) (pe_ix ix_list (pv 2) (pe_bm PySem.F.plainAttrs_list PySem.F.slot_list_index PySem.F.type_list_index mt_indexS (pv 1) (pa_cons (pe_ix ix_list (pv 3) (pv 4) (fun _ _ => rfl)) pa_nil star_sub)) (fun _ _ => rfl)))
      (pss_one (ps_if (PW.pt (pw_or (pt_cmpR op_isN (pv 5) pe_non (nomark _)) (pw_or1 (pt_cmpR op_ne (pe_ix ix_list (pv 1) (pv 5) (fun _ _ => rfl)) (pe_ix ix_list (pv 3) (pe_op op_mod (pe_op op_add (pv 4) pe_int) (pe_callB call_len (by rfl) T.n_len boot_len (pa_cons (pv 3) pa_nil star_nam))) (fun _ _ => rfl)) (nomark _))))) (pss_one (ps_ret pe_bl)) pss_nil)))))
      (pss_one (ps_ret pe_bl)))))), ?_⟩
    have sm := wr.sm
    have lr := nd_le rg.nd rg.lt
    have ln : ((r.map (nm nms)).map V.str).length = r.length := by rw [List.length_map, List.length_map]
    have r1 : 0 < r.length := List.length_pos_iff.mpr rg.ne
    refine ⟨_, rfl, rfl, _, rfl, iteDn (fun z => nomatch z) ⟨_, rfl, _, _, _, _, rfl, rfl, SqT.of ht, rfl, rfl, _, rfl, iteND rfl ⟨_, rfl, _, _, _, _, rfl, rfl, SqT.of ht, rfl, _, _, rfl, rfl, _, rfl, iteF ?_⟩⟩⟩
    refine ⟨_, rfl, _, _, _, _, rfl, rfl, SqT.of ht, rfl, ?_⟩
    refine ⟨_, rfl, _, _, _, _, rfl, .lst hl, kit_lst_lst, _, rfl, iteF ?_⟩
    refine ⟨_, rfl, fit0, fun q0 hq0 => ?_⟩
    have s0 := same_upd (o := .lst []) hq0
    have e0 := upd_same (H := H) (a := q0) (o := .lst [])
    generalize upd H q0 _ = H0 at s0 e0 ⊢
    refine ⟨_, _, _, _, rfl, rfl, SqL.of (s0 _ _ hl), SqL.of e0, flat_strs _, rfl, _, rfl, ?_⟩
    show if eqVs ((r.map (nm nms)).map V.str) [] = true then _ else _
    rw [show eqVs ((r.map (nm nms)).map V.str) [] = false by
      cases r with
      | nil => exact absurd rfl rg.ne
      | cons _ _ => rfl]
    have hl0 := s0 _ _ hl
    have hn0 := s0 _ _ hn
    have hb0 := s0 _ _ hb
    have memn : ∀ j ∈ r, inV (.str (nm nms j)) (nms.map V.str) = true := fun j hj => by
      rw [inV_strs, List.contains_iff_mem]
      exact List.mem_of_getElem? (nm_at (rg.lt j hj))
    refine iteF ⟨_, rfl, _, rfl, ⟨_, SqL.of hl0⟩, ?_⟩
    refine comp_pure (fun _ => .bl true) (fun σ' => ∃ v, σ' = [v, some (.ref pn)]) (feeds_list (K := K) (SqL.of hl0)) (fits (by rw [ln]; omega)) ⟨none, rfl⟩ (fun v σ' H' RR hv sm s4 q => ?_) gk_name fun p5 hp5 => ?_
    · obtain ⟨v0, rfl⟩ := s4
      obtain ⟨x, hx, rfl⟩ := List.mem_map.mp hv
      obtain ⟨j, hj, rfl⟩ := List.mem_map.mp hx
      have q := q [some (.str (nm nms j)), some (.ref pn)] ⟨_, rfl⟩
      rw [← memn j hj] at q
      exact ⟨_, rfl, _, rfl, _, _, rfl, .inl (SqL.of (sm _ _ hn0)), rfl, flat_strs _, q⟩
    have e5 : (((r.map (nm nms)).map V.str).map fun _ => V.bl true) = (r.map fun _ => true).map V.bl := by rw [List.map_map, List.map_map, List.map_map]; rfl
    rw [e5]
    have s5 := same_upd (o := .lst ((r.map fun _ => true).map V.bl)) hp5
    have ea : (r.map fun _ => true).all (fun b => b) = true := by rw [List.all_map]; exact List.all_eq_true.mpr fun _ _ => rfl
    refine ⟨_, _, rfl, SqL.of upd_same, ?_⟩
    rw [ea]
    have hl5 := s5 _ _ hl0
    have hn5 := s5 _ _ hn0
    have hb5 := s5 _ _ hb0
    have s05 := s0.trans s5
    generalize upd H0 p5 _ = H5 at hl5 hn5 hb5 s05 ⊢
    refine ⟨_, rfl, iteF ?_⟩
    have bnd := rb (n := ((r.map (nm nms)).map V.str).length) (by omega)
    refine ⟨_, rfl, _, _, rfl, .inl ⟨_, SqL.of hl5, rfl⟩, _, rfl, bnd.1, bnd.2, for_range (lo := 0) (n := ((((r.map (nm nms)).map V.str).length : Int)).toNat) (fun i σ H' => H' = H5 ∧ ∃ v4 v5 : Option V, σ = [some (.ref t), some (.ref pn), some (.ref pb), some (.ref l), v4, v5]) ⟨rfl, none, none, rfl⟩ ?_ ?_⟩
    · rintro i σ H' hi ⟨rfl, v4, v5, rfl⟩
      have hi : i < r.length := by rw [ln] at hi; omega
      rw [Int.zero_add]
      obtain ⟨j, ej⟩ : ∃ j, r[i]? = some j := ⟨_, List.getElem?_eq_getElem hi⟩
      have mj := List.mem_of_getElem? ej
      have hj := rg.lt j mj
      have at1 : atI ((r.map (nm nms)).map V.str) (i : Int) = some (.str (nm nms j)) := atI_nat (by rw [List.getElem?_map, List.getElem?_map, ej]; rfl)
      have nx := rg.nx i j ej
      have lm : (i + 1) % r.length < r.length := Nat.mod_lt _ r1
      obtain ⟨b, eb⟩ : ∃ b, r[(i + 1) % r.length]? = some b := ⟨_, List.getElem?_eq_getElem lm⟩
      rw [eb] at nx
      have hbb := rg.lt b (List.mem_of_getElem? eb)
      have cnt : (r.map (nm nms)).count (nm nms j) = 1 := by
        have nd : (r.map (nm nms)).Nodup := List.pairwise_map.mpr (rg.nd.imp_of_mem fun {x y} hx hy ne e => ne (nm_inj wr.nd (rg.lt x hx) (rg.lt y hy) e))
        rw [nd.count, if_pos (List.mem_map.mpr ⟨j, mj, rfl⟩)]
      have no : ∀ m, m < j → nms[m]? ≠ some (nm nms j) := fun m hm z => by
        have e := nm_at (nms := nms) (k := m) (by omega)
        rw [e] at z
        have := nm_inj wr.nd (by omega) hj (Option.some.inj z)
        omega
      have at2 : atI ((r.map (nm nms)).map V.str) (((i : Int) + 1) % ((((r.map (nm nms)).map V.str).length : Nat) : Int)) = some (.str (nm nms b)) := by
        rw [ln, show ((i : Int) + 1) % ((r.length : Nat) : Int) = (((i + 1) % r.length : Nat) : Int) by push_cast; rfl]
        exact atI_nat (by rw [List.getElem?_map, List.getElem?_map, eb]; rfl)
      have hvj := boV (bs := bs) (k := j) (by rw [wr.len]; exact hj)
      rw [nx] at hvj
      refine ⟨_, rfl, _, rfl, _, _, _, _, rfl, rfl, SqL.of hl5, at1, _, _, _, _, rfl, .str _, kit_str_str, _, rfl, iteF ⟨_, rfl, .inl ⟨rfl, _, SqL.of hl5⟩, _, rfl, _, rfl, _, _, _, _, rfl, rfl, SqL.of hl5, at1, l, _, _, rfl, rfl, hl5, rfl, _, rfl, iteND (by rw [cnt]; rfl) ?_⟩⟩
      refine ⟨_, rfl, _, rfl, .inl ⟨rfl, _, SqL.of hn5⟩, _, rfl, _, rfl, _, _, _, _, rfl, rfl, SqL.of hl5, at1, pn, nms, _, j, rfl, rfl, hn5, nm_at hj, no, _, _, _, _, rfl, rfl, SqL.of hb5, atI_nat hvj, ?_⟩
      refine ⟨_, rfl, rfl, _, rfl, iteDn (fun z => nomatch z) ⟨_, rfl, _, rfl, _, _, _, _, rfl, rfl, SqL.of hn5, atI_nat (nmV hbb), _, rfl, _, rfl, _, _, rfl, rfl, _, rfl, _, _, rfl, .inl ⟨_, SqL.of hl5, rfl⟩, _, _, rfl, rfl, (pos (by rw [ln]; omega)), _, _, _, _, rfl, rfl, SqL.of hl5, at2, rfl, _, rfl, iteND rfl ?_⟩⟩
      exact ⟨rfl, _, _, rfl⟩
    · rintro σ H' ⟨rfl, v4, v5, rfl⟩
      exact k _ s05
set_option maxHeartbeats 4000000 in
theorem okBookHanging (T : Txt K mg a) : FnOk P w K mg base CX0 1 a.fBookHanging a.gBookHanging ["self"] (spBH7 a) := by
  refine T.dBookHanging.fn.ok scBookHanging (fun vs H Q E h => ?_) (fun cdv A outer s H vs Q E hr h => ?_)
  · obtain ⟨_, _, _, rfl, _⟩ := h
    all_goals rfl
  · obtain ⟨x, nms, os, rfl, hx, k⟩ := h
    refine ⟨_, (pss_one (ps_ret (pe_callTy call_list_of (by rfl) T.n_list boot_list (pa_cons (pe_fld (pv 0) rfl) pa_nil star_att)))), ?_⟩
    obtain ⟨dx, po, pd, h1, h2⟩ := hx
    exact ⟨_, rfl, _, _, _, _, _, rfl, h1, T.c_Book, xno_of T.n_Book (by decide), rfl, _, _, rfl, .inl (SqL.of h2), fun l hl => k l hl⟩
set_option maxHeartbeats 4000000 in
theorem okLawInOrder (T : Txt K mg a) : FnOk P w K mg base CX0 9 a.fLawInOrder a.gLawInOrder ["_law_names", "_law_bases"] spIo7 := by
  refine T.dLawInOrder.fn.ok scLawInOrder (fun vs H Q E h => ?_) (fun cdv A outer s H vs Q E hr h => ?_)
  · obtain ⟨_, _, _, _, rfl, _⟩ := h
    all_goals rfl
  · obtain ⟨pn, pb, nms, bs, rfl, hn, hb, wr, nmo, ors, k⟩ := h
    refine ⟨_, (pss_cons (ps_for PassesOwn.never rfl (pi_list (pe_lst (pa_cons (pe_call (okHangingOrder T) (hr.mono (by decide)) rfl T.dHangingOrder.mgx T.dHangingOrder.fn.kp T.dHangingOrder.bd .nil passF (pa_cons (pe_call (okLawRules T) (hr.mono (by decide)) rfl T.dLawRules.mgx T.dLawRules.fn.kp T.dLawRules.bd .nil pass0 (pa_cons (pv 0) (pa_cons (pv 1) pa_nil star_nam) star_nam)) pa_nil star_cal)) (pa_cons (pe_meth0 (pe_call (okReadBook T) (hr.mono (by decide)) rfl T.dReadBook.mgx T.dReadBook.fn.kp T.dReadBook.bd .nil passF (pa_cons (pe_call (okLawText T) (hr.mono (by decide)) rfl T.dLawText.mgx T.dLawText.fn.kp T.dLawText.bd .nil pass0 (pa_cons (pv 0) (pa_cons (pv 1) pa_nil star_nam) star_nam)) pa_nil star_cal)) T.c_Book T.t_dBookHanging (okBookHanging T) (hr.mono (by decide)) T.dBookHanging.bd .nil pass0) pa_nil star_cal) star_cal))) (pg_name (i := 2) scLawInOrder.nd rfl (Or.inl rfl)) (pss_cons (ps_if (PW.pt (pw_or (pt_not (pt_val (pe_callB call_isi (by rfl) T.n_isinstance boot_isinstance (pa_cons (pv 2) (pa_cons (pe_bltn (v := .ty "list") rfl T.n_list boot_list rfl) pa_nil star_nam) star_nam)))) (pw_or1 (pt_cmpR (op_neL hr.units0) (pe_callB call_sortedU (by rfl) T.n_sorted boot_sorted (pa_cons (pv 2) pa_nil star_nam)) (pe_callB call_sortedU (by rfl) T.n_sorted boot_sorted (pa_cons (pv 0) pa_nil star_nam)) (nomark _))))) (pss_one (ps_ret pe_bl)) pss_nil)
      (pss_one (ps_for PassesOwn.never rfl (pi_range1 rfl T.n_range (pa_cons (pe_callB call_len (by rfl) T.n_len boot_len (pa_cons (pv 0) pa_nil star_nam)) pa_nil star_cal)) (pg_name (i := 3) scLawInOrder.nd rfl (Or.inl rfl)) (pss_one (ps_if (PW.pt (pw_and (pt_cmpR op_notN (pe_ix ix_list (pv 1) (pv 3) (fun _ _ => rfl)) pe_non (nomark _)) (pw_and1 (pt_cmpR op_gt (pe_bm PySem.F.plainAttrs_list PySem.F.slot_list_index PySem.F.type_list_index mt_indexS (pv 2) (pa_cons (pe_ix ix_list (pv 0) (pe_ix ix_list (pv 1) (pv 3) (fun _ _ => rfl)) (fun _ _ => rfl)) pa_nil star_sub)) (pe_bm PySem.F.plainAttrs_list PySem.F.slot_list_index PySem.F.type_list_index mt_indexS (pv 2) (pa_cons (pe_ix ix_list (pv 0) (pv 3) (fun _ _ => rfl)) pa_nil star_sub)) (nomark _))))) (pss_one (ps_ret pe_bl)) pss_nil))))))
      (pss_one (ps_ret pe_bl))), ?_⟩
    obtain ⟨os0, ors0⟩ := ors
    have no : ∀ {J : Hp}, OutR a nms bs J E0 := fun x d l H9 r s9 ex ed el rg => absurd (rg_has wr.len rg) (ors_no (os := os0) (by rw [wr.len]; exact ors0))
    refine ⟨_, rfl, _, rfl, pn, pb, nms, bs, rfl, hn, hb, wr, fun q H1 us nq s1 eq rus => ?_⟩
    refine ⟨q, us, nms, bs, rfl, eq, rus, wr, fun q2 H2 os n2 s2 e2 nd lt od al => ?_, no⟩
    have s12 := s1.trans s2
    refine ⟨_, rfl, _, rfl, pn, pb, nms, bs, rfl, s12 _ _ hn, s12 _ _ hb, wr, nmo, fun H3 s3 => ?_⟩
    refine ⟨nms, bs, rfl, wr, nmo, fun xb H4 os4 s4 bo4 ors4 => ?_, no⟩
    obtain ⟨dx4, po4, d4, hx4, ho4⟩ := id bo4
    refine ⟨xb, dx4, _, rfl, hx4, rfl, xb, nms, os4, rfl, bo4, fun q5 n5 => ?_⟩
    have s5 := same_upd (o := .lst ((os4.map (nm nms)).map V.str)) n5
    have e5 := upd_same (H := H4) (a := q5) (o := .lst ((os4.map (nm nms)).map V.str))
    generalize upd H4 q5 _ = H5 at s5 e5 ⊢
    refine ⟨fit2 _ _, fun pl hpl => ?_⟩
    have s6 := same_upd (o := .lst [V.ref q2, V.ref q5]) hpl
    have e6 := upd_same (H := H5) (a := pl) (o := .lst [V.ref q2, V.ref q5])
    generalize upd H5 pl _ = H6 at s6 e6 ⊢
    have s26 := s3.trans (s4.trans (s5.trans s6))
    have sA := s12.trans s26
    have two : ∀ (i : Nat) (v : V), [V.ref q2, V.ref q5][i]? = some v → ∃ (q' : Addr) (os' : List Nat), v = .ref q' ∧ H6 q' = some (.lst ((os'.map (nm nms)).map V.str)) ∧ Ors bs nms.length os' := fun i v e => by
      have hi : i < 2 := (List.getElem?_eq_some_iff.mp e).1
      rcases (by omega : i = 0 ∨ i = 1) with rfl | rfl
      · cases e; exact ⟨q2, os, rfl, s26 _ _ e2, ⟨nd, lt, od, al⟩⟩
      · cases e; exact ⟨q5, os4, rfl, s6 _ _ e5, ors4⟩
    have sm := wr.sm
    have lnn : (nms.map V.str).length = nms.length := List.length_map _
    have bnd := rb (n := (nms.map V.str).length) (by omega)
    refine ⟨_, rfl, ⟨_, SqL.of e6⟩, for_list (K := K) (a := pl) (xs := [V.ref q2, V.ref q5]) (fun i σ H' => Same H6 H' ∧ ∃ v2 v3 : Option V, σ = [some (.ref pn), some (.ref pb), v2, v3]) ⟨Same.refl _, none, none, rfl⟩ (fun i σ H' _ h => SqL.of (h.1 _ _ e6)) ?_ ?_⟩
    · rintro i v σ H' hv ⟨sH, v2, v3, rfl⟩
      obtain ⟨q', os', rfl, eq', ors'⟩ := two i v hv
      have hq' := sH _ _ eq'
      have hn' := (sA.trans sH) _ _ hn
      have lo := nd_le ors'.nd ors'.lt
      have ndm : (os'.map (nm nms)).Nodup := List.pairwise_map.mpr (ors'.nd.imp_of_mem fun {x y} hx hy ne e => ne (nm_inj wr.nd (ors'.lt x hx) (ors'.lt y hy) e))
      have pm : (os'.map (nm nms)).Perm nms := (List.perm_ext_iff_of_nodup ndm wr.nd).mpr fun y => by
        rw [List.mem_map]
        constructor
        · rintro ⟨j, hj, rfl⟩
          exact List.mem_of_getElem? (nm_at (ors'.lt j hj))
        · intro hy
          obtain ⟨j, hj, rfl⟩ := List.getElem_of_mem hy
          refine ⟨j, ors'.al j hj, ?_⟩
          have := nm_at hj
          rw [List.getElem?_eq_getElem hj] at this
          exact (Option.some.inj this).symm
      refine ⟨_, rfl, _, _, _, _, rfl, .lst hq', kit_lst_lst, _, rfl, iteF ⟨_, rfl, q', _, rfl, SqL.of hq', (by rw [List.length_map]; omega), fun qa sa na pa wa => ?_⟩⟩
      have s7 := same_upd (o := .lst (sa.map V.str)) na
      have e7 := upd_same (H := H') (a := qa) (o := .lst (sa.map V.str))
      generalize upd H' qa _ = H7 at s7 e7 ⊢
      refine ⟨_, rfl, pn, nms, rfl, SqL.of (s7 _ _ hn'), by omega, fun qb sb nb pb' wb => ?_⟩
      have s8 := same_upd (o := .lst (sb.map V.str)) nb
      have e8 := upd_same (H := H7) (a := qb) (o := .lst (sb.map V.str))
      generalize upd H7 qb _ = H8 at s8 e8 ⊢
      obtain rfl := srt_uniq wa wb ((pa.trans pm).trans pb'.symm)
      have s68 := sH.trans (s7.trans s8)
      have hq8 := s68 _ _ eq'
      have hn8 := (sA.trans s68) _ _ hn
      have hb8 := (sA.trans s68) _ _ hb
      refine ⟨_, _, _, _, rfl, rfl, SqL.of (s8 _ _ e7), SqL.of e8, flat_strs _, flat_strs _, _, rfl, ?_⟩
      show if (!eqVs (sa.map V.str) (sa.map V.str)) = true then _ else _
      rw [eqVs_self (flat_strs _)]
      refine iteF ⟨_, rfl, _, _, rfl, .inl ⟨_, SqL.of hn8, rfl⟩, _, rfl, bnd.1, bnd.2, for_range (lo := 0) (n := (((nms.map V.str).length : Int)).toNat) (fun i σ J => J = H8 ∧ ∃ v3 : Option V, σ = [some (.ref pn), some (.ref pb), some (.ref q'), v3]) ⟨rfl, _, rfl⟩ ?_ ?_⟩
      · rintro j σ J hj ⟨rfl, v3, rfl⟩
        have hj : j < nms.length := by rw [lnn] at hj; omega
        rw [Int.zero_add]
        have hvj := boV (bs := bs) (k := j) (by rw [wr.len]; exact hj)
        cases eb : bo bs j with
        | none =>
          rw [eb] at hvj
          exact ⟨_, rfl, _, rfl, _, _, _, _, rfl, rfl, SqL.of hb8, atI_nat hvj, rfl, _, rfl, iteND rfl (iteF ⟨rfl, _, rfl⟩)⟩
        | some b =>
          rw [eb] at hvj
          have hbb := wr.ok j b eb
          obtain ⟨ij, g1, g2, g3⟩ := nm_ix wr.nd ors'.lt hj ors'.nd (ors'.al j hj)
          obtain ⟨ib, k1, k2, k3⟩ := nm_ix wr.nd ors'.lt hbb ors'.nd (ors'.al b hbb)
          have lt2 : ib < ij := by
            obtain ⟨p', hp', ep⟩ := List.getElem_of_mem (ors'.od ij j g1 b eb)
            rw [List.length_take] at hp'
            rw [List.getElem_take] at ep
            have : os'[ib]? = os'[p']? := by rw [k1, List.getElem?_eq_getElem (by omega), ep]
            have := (List.getElem?_inj (List.getElem?_eq_some_iff.mp k1).1 ors'.nd).mp this
            omega
          refine ⟨_, rfl, _, rfl, _, _, _, _, rfl, rfl, SqL.of hb8, atI_nat hvj, rfl, _, rfl, iteNN (fun z => nomatch z) ?_⟩
          refine ⟨_, rfl, .inl ⟨rfl, _, SqL.of hq8⟩, _, rfl, _, rfl, _, rfl, _, _, _, _, rfl, rfl, SqL.of hb8, atI_nat hvj, _, _, _, _, rfl, rfl, SqL.of hn8, atI_nat (nmV hbb), q', _, _, ib, rfl, rfl, hq8, k2, k3, _, rfl, .inl ⟨rfl, _, SqL.of hq8⟩, _, rfl, _, rfl, _, _, _, _, rfl, rfl, SqL.of hn8, atI_nat (nmV hj), q', _, _, ij, rfl, rfl, hq8, g2, g3, _, _, rfl, rfl, _, rfl, iteDn (by omega) ?_⟩
          exact ⟨rfl, _, rfl⟩
      · rintro σ J ⟨rfl, v3, rfl⟩
        exact ⟨s68, _, _, rfl⟩
    · rintro σ H' ⟨sH, v2, v3, rfl⟩
      exact k _ (sA.trans sH)
set_option maxHeartbeats 4000000 in
theorem okLawRight (T : Txt K mg a) : FnOk P w K mg base CX0 10 a.fLawRight a.gLawRight ["_law_names", "_law_bases", "_law_way"] spRt7 := by
  refine T.dLawRight.fn.ok scLawRight (fun vs H Q E h => ?_) (fun cdv A outer s H vs Q E hr h => ?_)
  · obtain ⟨_, _, _, _, _, rfl, _⟩ := h
    all_goals rfl
  · obtain ⟨wy, pn, pb, nms, bs, rfl, hn, hb, wr, nmo, k⟩ := h
    refine ⟨_, (pss_cons (ps_set (i := 3) scLawRight.nd rfl (Or.inl rfl) (pe_call (okLawTold T) (hr.mono (by decide)) rfl T.dLawTold.mgx T.dLawTold.fn.kp T.dLawTold.bd .nil pass0 (pa_cons (pv 2) (pa_cons (pv 0) (pa_cons (pv 1) pa_nil star_nam) star_nam) star_nam)))
      (pss_cons (ps_if (pt_val (pe_call (okLawHasRing T) (hr.mono (by decide)) rfl T.dLawHasRing.mgx T.dLawHasRing.fn.kp T.dLawHasRing.bd .nil pass0 (pa_cons (pv 1) pa_nil star_nam))) (pss_one (ps_ret (pe_call (okLawIsRing T) (hr.mono (by decide)) rfl T.dLawIsRing.mgx T.dLawIsRing.fn.kp T.dLawIsRing.bd .nil pass0 (pa_cons (pv 3) (pa_cons (pv 0) (pa_cons (pv 1) pa_nil star_nam) star_nam) star_nam)))) pss_nil)
      (pss_one (ps_ret (pe_and (pe_cmpR op_isN (pv 3) pe_non (nomark _)) (pe_one (pe_call (okLawInOrder T) (hr.mono (by decide)) rfl T.dLawInOrder.mgx T.dLawInOrder.fn.kp T.dLawInOrder.bd .nil pass0 (pa_cons (pv 0) (pa_cons (pv 1) pa_nil star_nam) star_nam)))))))), ?_⟩
    have lb := wr.len
    refine ⟨_, rfl, _, rfl, _, rfl, wy, pn, pb, nms, bs, rfl, hn, hb, wr, nmo, fun H1 os s1 ors => ?_, fun t l H1 r s1 et el rg => ?_⟩
    · have nh : ¬ hasR bs := ors_no (os := os) (by rw [lb]; exact ors)
      refine ⟨_, rfl, pb, bs, rfl, s1 _ _ hb, (by rw [lb]; exact wr.sm), (by rw [lb]; exact wr.ok), fun z => absurd z nh, fun _ => ⟨_, rfl, iteF ?_⟩⟩
      refine ⟨_, rfl, rfl, _, rfl, iteD rfl ⟨_, rfl, _, rfl, pn, pb, nms, bs, rfl, s1 _ _ hn, s1 _ _ hb, wr, nmo, ⟨os, ors⟩, fun H2 s2 => k _ (s1.trans s2)⟩⟩
    · refine ⟨_, rfl, pb, bs, rfl, s1 _ _ hb, (by rw [lb]; exact wr.sm), (by rw [lb]; exact wr.ok), fun _ => ⟨_, rfl, iteT ?_⟩, fun z => absurd (rg_has lb rg) z⟩
      exact ⟨_, rfl, _, rfl, _, rfl, t, l, pn, pb, nms, bs, r, rfl, s1 _ _ hn, s1 _ _ hb, wr, et, el, rg, fun H2 s2 => k _ (s1.trans s2)⟩
set_option maxHeartbeats 4000000 in
theorem okLaw (T : Txt K mg a) : FnOk P w K mg base CX0 12 a.fLaw a.gLaw ["_law_script"] (spLaw K) := by
  refine T.dLaw.fn.ok scLaw (fun vs H Q E h => ?_) (fun cdv A outer s H vs Q E hr h => ?_)
  · obtain ⟨_, _, rfl, _⟩ := h
    all_goals rfl
  · obtain ⟨l, ns, rfl, hS, hlen, k⟩ := h
    refine ⟨_, (pss_cons (ps_set (i := 1) scLaw.nd rfl (Or.inr rfl) (pe_op op_mod (pe_call (okLawCellAt T) (hr.mono (by decide)) rfl T.dLawCellAt.mgx T.dLawCellAt.fn.kp T.dLawCellAt.bd .nil pass0 (pa_cons (pv 0) (pa_cons pe_int pa_nil star_con) star_nam)) pe_int))
      (pss_cons (ps_set (i := 2) scLaw.nd rfl (Or.inl rfl) (pe_call (okLawWords T) (hr.mono (by decide)) rfl T.dLawWords.mgx T.dLawWords.fn.kp T.dLawWords.bd .nil pass0 (pa_cons (pe_call (okLawCellAt T) (hr.mono (by decide)) rfl T.dLawCellAt.mgx T.dLawCellAt.fn.kp T.dLawCellAt.bd .nil pass0 (pa_cons (pv 0) (pa_cons pe_int pa_nil star_con) star_nam)) (pa_cons (pv 1) pa_nil star_nam) star_cal)))
      (pss_cons (ps_setComp (i := 3) scLaw.nd rfl rfl (N := ["_law_k", "_law_many", "_law_script"]) (js := [none, some 1, some 0]) (XN := ["_law_script", "_law_many", "_law_names", "_law_bases", "_law_first", "_law_k", "_law_cut"]) (xs := defScope sLaw) rfl rfl rfl (by decide +kernel) (pi_range1 rfl T.n_range (pa_cons (pv 1) pa_nil star_nam)) (fun _ _ _ _ _ _ => (pg_name (i := 0) (show List.Nodup (["_law_k", "_law_many", "_law_script"] : List Str) from by decide +kernel) rfl (Or.inl rfl) (Or.inr rfl))) (fun _ _ _ _ _ _ => pts_nil) (fun _ _ _ _ _ _ => (pe_call (okLawBase T) (hr.mono (by decide)) rfl T.dLawBase.mgx T.dLawBase.fn.kp T.dLawBase.bd .nil pass0 (pa_cons (pe_call (okLawCellAt T) (hr.mono (by decide)) rfl T.dLawCellAt.mgx T.dLawCellAt.fn.kp T.dLawCellAt.bd .nil pass0 (pa_cons (pv 2) (pa_cons (pe_op op_add pe_int (pv 0)) pa_nil star_bin) star_nam)) (pa_cons (pv 0) (pa_cons (pv 1) pa_nil star_nam) star_nam) star_cal))))
      (pss_cons (ps_set (i := 4) scLaw.nd rfl (Or.inl rfl) (pe_call (okLawCellAt T) (hr.mono (by decide)) rfl T.dLawCellAt.mgx T.dLawCellAt.fn.kp T.dLawCellAt.bd .nil pass0 (pa_cons (pv 0) (pa_cons pe_int pa_nil star_con) star_nam)))
      (pss_cons (ps_for PassesOwn.never rfl (pi_range1 rfl T.n_range (pa_cons pe_int pa_nil star_con)) (pg_name (i := 5) scLaw.nd rfl (Or.inl rfl)) (pss_one (ps_if (pt_not (pt_val (pe_call (okLawRight T) (hr.mono (by decide)) rfl T.dLawRight.mgx T.dLawRight.fn.kp T.dLawRight.bd .nil pass0 (pa_cons (pv 2) (pa_cons (pv 3) (pa_cons (pe_op op_mod (pe_op op_add (pv 4) (pv 5)) pe_int) pa_nil star_bin) star_nam) star_nam)))) (pss_one (ps_ret pe_bl)) pss_nil)))
      (pss_cons (ps_if (pt_cmpR op_eq (pv 1) pe_int (nomark _)) (pss_one (ps_ret pe_bl)) pss_nil)
      (pss_cons (ps_set (i := 6) scLaw.nd rfl (Or.inl rfl) (pe_callTy call_list_of (by rfl) T.n_list boot_list (pa_cons (pv 3) pa_nil star_nam)))
      (pss_cons (ps_asg pe_non (pg_sub (pv 6) (pe_op op_mod (pe_call (okLawCellAt T) (hr.mono (by decide)) rfl T.dLawCellAt.mgx T.dLawCellAt.fn.kp T.dLawCellAt.bd .nil pass0 (pa_cons (pv 0) (pa_cons pe_int pa_nil star_con) star_nam)) (pv 1)) set_list))
      (pss_one (ps_ret (pe_and (pe_call (okLawRight T) (hr.mono (by decide)) rfl T.dLawRight.mgx T.dLawRight.fn.kp T.dLawRight.bd .nil pass0 (pa_cons (pv 2) (pa_cons (pv 6) (pa_cons (pe_op op_mod (pv 4) pe_int) pa_nil star_bin) star_nam) star_nam)) (pe_one (pe_call (okLawRight T) (hr.mono (by decide)) rfl T.dLawRight.mgx T.dLawRight.fn.kp T.dLawRight.bd .nil pass0 (pa_cons (pv 2) (pa_cons (pv 3) (pa_cons (pe_op op_mod (pv 4) pe_int) pa_nil star_bin) star_nam) star_nam)))))))))))))), ?_⟩
    obtain ⟨m, em, hm⟩ : ∃ m : Nat, cell ns 0 % 7 = (m : Int) ∧ m ≤ 6 := ⟨(cell ns 0 % 7).toNat, by omega, by omega⟩
    refine ⟨_, rfl, _, _, _, rfl, hS, by decide, _, _, rfl, rfl, (pos (by decide)), ?_⟩
    dsimp only []
    rw [em]
    refine ⟨_, rfl, _, _, _, rfl, hS, by decide, _, rfl, _, m, rfl, hm, fun q1 H1 nms n1 s1 e1 ln nd nmo => ?_⟩
    have bm := rb (n := m) (by omega)
    let f : V → V := fun v => match v with
      | .int j => encO (baF (cell ns (4 + j)) j m)
      | _ => .non
    refine ⟨_, rfl, _, rfl, bm.1, bm.2, ?_⟩
    refine comp_pure f (fun σ' => ∃ v, σ' = [v, some (.int (m : Int)), some (.ref l)]) feeds_range (fits (by rw [List.length_map, List.length_range]; omega)) ⟨none, rfl⟩ (fun v σ' H' RR hv sm s4 q => ?_) gk_name fun pb hpb => ?_
    · obtain ⟨v0, rfl⟩ := s4
      obtain ⟨j, hj, rfl⟩ := List.mem_map.mp hv
      have hj : j < m := by have := List.mem_range.mp hj; omega
      have q := q [some (.int (0 + (j : Int))), some (.int (m : Int)), some (.ref l)] ⟨_, rfl⟩
      exact ⟨_, rfl, _, rfl, _, _, rfl, rfl, _, _, _, rfl, (s1.trans sm).seq hS, by omega, _, rfl, _, rfl, _, _, m, rfl, by omega, hm, q⟩
    obtain ⟨bs, hbs⟩ : ∃ bs : List (Option Nat), bs = (List.range m).map fun (j : Nat) => baF (cell ns (4 + (0 + (j : Int)))) (0 + (j : Int)) m := ⟨_, rfl⟩
    have eb : ((List.range ((m : Int)).toNat).map fun (i : Nat) => V.int (0 + (i : Int))).map f = bs.map encO := by
      rw [hbs, List.map_map, List.map_map, Int.toNat_natCast]
      rfl
    rw [eb]
    have lb : bs.length = m := by rw [hbs, List.length_map, List.length_range]
    have s2 := same_upd (o := .lst (bs.map encO)) hpb
    have e2 := upd_same (H := H1) (a := pb) (o := .lst (bs.map encO))
    generalize upd H1 pb _ = H2 at s2 e2 ⊢
    have wr : Wr nms bs := ⟨nd, by rw [lb, ln], by omega, fun k b e => by
      unfold bo at e
      rw [List.getD_eq_getElem?_getD, hbs, List.getElem?_map] at e
      by_cases c : k < m
      · rw [List.getElem?_range c] at e
        rw [ln]
        exact baF_lt (by omega) e
      · rw [List.getElem?_eq_none (by rw [List.length_range]; omega)] at e
        cases e⟩
    have s12 := s1.trans s2
    have hn2 := s2 _ _ e1
    refine ⟨_, rfl, _, _, _, rfl, s12.seq hS, (by decide), ?_⟩
    dsimp only []
    generalize cell ns 2 = c2
    refine ⟨_, rfl, by decide, by decide, for_range (lo := 0) (n := ((3 : Int)).toNat) (fun i σ H' => Same H2 H' ∧ ∃ v5 v6 : Option V, σ = [some (.ref l), some (.int (m : Int)), some (.ref q1), some (.ref pb), some (.int c2), v5, v6]) ⟨Same.refl _, none, none, rfl⟩ ?_ ?_⟩
    · rintro i σ H' hi ⟨sH, v5, v6, rfl⟩
      refine ⟨_, rfl, _, rfl, _, rfl, _, rfl, _, _, rfl, rfl, _, _, rfl, rfl, (pos (by decide)), _, q1, pb, nms, bs, rfl, sH _ _ hn2, sH _ _ e2, wr, nmo, fun H3 s3 => ⟨_, rfl, iteF ⟨sH.trans s3, _, _, rfl⟩⟩⟩
    · rintro σ H' ⟨sH, v5, v6, rfl⟩
      refine ⟨_, rfl, rfl, _, rfl, ite2 (fun c => k H') (fun c => ?_)⟩
      have hm1 : 1 ≤ m := by
        by_cases z : m = 0
        · exact absurd (decide_eq_true (by rw [z]; rfl)) c
        · omega
      refine ⟨_, rfl, _, _, rfl, .inl (SqL.of (sH _ _ e2)), fun pc hpc => ?_⟩
      have s5 := same_upd (o := .lst (bs.map encO)) hpc
      have e5 := upd_same (H := H') (a := pc) (o := .lst (bs.map encO))
      have ncn : q1 ≠ pc := ne_of_none (sH _ _ hn2) hpc
      have ncb : pb ≠ pc := ne_of_none (sH _ _ e2) hpc
      generalize upd H' pc _ = H5 at s5 e5 ⊢
      have s25 := sH.trans s5
      have z0 := Int.emod_nonneg (cell ns 3) (show ((m : Nat) : Int) ≠ 0 by omega)
      have z1 := Int.emod_lt_of_pos (cell ns 3) (show (0 : Int) < (m : Nat) by omega)
      obtain ⟨j, ej⟩ : ∃ j : Nat, cell ns 3 % ((m : Nat) : Int) = (j : Int) := ⟨(cell ns 3 % ((m : Nat) : Int)).toNat, by omega⟩
      refine ⟨_, rfl, _, rfl, _, _, _, rfl, (s12.trans s25).seq hS, (by decide), _, rfl, _, _, rfl, rfl, (pos (by omega)), _, _, _, j, rfl, rfl, e5, ?_, ?_⟩
      · rw [ej, List.length_map, lb]
        unfold ixN
        rw [if_pos (by omega), if_pos (by omega)]
        rfl
      rw [set_none]
      have k6 : ∀ b o, b ≠ pc → H5 b = some o → upd H5 pc (.lst ((bs.set j none).map encO)) b = some o := fun b o n e => by rw [upd_ne n]; exact e
      have e6 := upd_same (H := H5) (a := pc) (o := .lst ((bs.set j none).map encO))
      generalize upd H5 pc _ = H6 at k6 e6 ⊢
      have hn6 := k6 _ _ ncn (s25 _ _ hn2)
      have hb6 := k6 _ _ ncb (s25 _ _ e2)
      refine ⟨_, rfl, _, rfl, _, rfl, _, _, rfl, rfl, (pos (by decide)), _, q1, pc, nms, bs.set j none, rfl, hn6, e6, wr_set wr j, nmo, fun H7 s7 => ⟨_, rfl, iteT ⟨_, rfl, _, rfl, _, rfl, _, _, rfl, rfl, (pos (by decide)), _, q1, pb, nms, bs, rfl, s7 _ _ hn6, s7 _ _ hb6, wr, nmo, fun H8 s8 => k H8⟩⟩⟩
end
set_option maxHeartbeats 4000000 in
theorem all_mk {l : PySem.W.OpenLaw} {w : World} {K : PySem.W.Frag} {h : Heap} {mg : Str → Option Value} {fa : Addr} (X : K.In h) (G : h.Ns mainGlobals mg) (hfa : mg "law" = some (.ref fa))
    {C_Adrift : Addr} {C_Book : Addr} {C_CourtError : Addr} {C_Full : Addr} {C_NoAct : Addr} {C_NoDay : Addr} {C_NoName : Addr} {C_NoRow : Addr} {C_NoRule : Addr} {C_NoTable : Addr} {C_NoTerm : Addr} {C_Parted : Addr} {C_Ring : Addr} {C_Rule : Addr} {C_Twice : Addr} {C_Unfit : Addr} {f0 : Addr} {f1 : Addr} {f2 : Addr} {f3 : Addr} {f4 : Addr} {f5 : Addr} {f6 : Addr} {f7 : Addr} {f8 : Addr} {f9 : Addr} {f10 : Addr} {f11 : Addr} {f12 : Addr} {od12 an12 : Option Addr} {sl12 : Array (Option Value)} {oc12 kV12 dc12 pm12 cd12 ct12 : Value} {dV12 : Value} {f13 : Addr} {f14 : Addr} {f15 : Addr} {f16 : Addr} {f17 : Addr} {f18 : Addr} {f19 : Addr} {f20 : Addr} {f21 : Addr} {f22 : Addr} {f23 : Addr} {f24 : Addr} {f25 : Addr} {f26 : Addr} {f27 : Addr} {f28 : Addr} {od28 an28 : Option Addr} {sl28 : Array (Option Value)} {oc28 kV28 dc28 pm28 cd28 ct28 : Value} {tk_LONGEST_NAME : Tok} {tk_MOST_ROWS : Tok} {tk_MOST_TERMS : Tok} {A_UNITS : Addr} {oa_UNITS : Option Addr} {na_UNITS : Nat} {tt0_UNITS tt1_UNITS tt2_UNITS : Tok} {sa_UNITS : Array (Option Value)} {A_FORMS : Addr} {oa_FORMS : Option Addr} {na_FORMS : Nat} {sa_FORMS : Array (Option Value)} {A_FORMS_0 : Addr} {oa_FORMS_0 : Option Addr} {na_FORMS_0 : Nat} {tt0_FORMS_0 tt1_FORMS_0 tt2_FORMS_0 tt3_FORMS_0 tt4_FORMS_0 tt5_FORMS_0 tt6_FORMS_0 tt7_FORMS_0 tt8_FORMS_0 tt9_FORMS_0 : Tok} {sa_FORMS_0 : Array (Option Value)} {A_FORMS_1 : Addr} {oa_FORMS_1 : Option Addr} {na_FORMS_1 : Nat} {tt0_FORMS_1 tt1_FORMS_1 tt2_FORMS_1 tt3_FORMS_1 tt4_FORMS_1 tt5_FORMS_1 tt6_FORMS_1 tt7_FORMS_1 tt8_FORMS_1 tt9_FORMS_1 : Tok} {sa_FORMS_1 : Array (Option Value)} {A_FORMS_2 : Addr} {oa_FORMS_2 : Option Addr} {na_FORMS_2 : Nat} {tt0_FORMS_2 tt1_FORMS_2 tt2_FORMS_2 : Tok} {sa_FORMS_2 : Array (Option Value)} {A_FORMS_3 : Addr} {oa_FORMS_3 : Option Addr} {na_FORMS_3 : Nat} {tt0_FORMS_3 tt1_FORMS_3 tt2_FORMS_3 : Tok} {sa_FORMS_3 : Array (Option Value)} {A_FORMS_4 : Addr} {oa_FORMS_4 : Option Addr} {na_FORMS_4 : Nat} {tt0_FORMS_4 tt1_FORMS_4 tt2_FORMS_4 tt3_FORMS_4 tt4_FORMS_4 tt5_FORMS_4 : Tok} {sa_FORMS_4 : Array (Option Value)} {A_FORMS_5 : Addr} {oa_FORMS_5 : Option Addr} {na_FORMS_5 : Nat} {tt0_FORMS_5 tt1_FORMS_5 tt2_FORMS_5 tt3_FORMS_5 : Tok} {sa_FORMS_5 : Array (Option Value)} {A_FORMS_6 : Addr} {oa_FORMS_6 : Option Addr} {na_FORMS_6 : Nat} {tt0_FORMS_6 tt1_FORMS_6 tt2_FORMS_6 : Tok} {sa_FORMS_6 : Array (Option Value)}
    (ca_Adrift : PySem.W.nsIn K mainGlobals "Adrift" = some (some (.ref C_Adrift))) (ca_Book : PySem.W.nsIn K mainGlobals "Book" = some (some (.ref C_Book))) (ca_CourtError : PySem.W.nsIn K mainGlobals "CourtError" = some (some (.ref C_CourtError))) (ca_Full : PySem.W.nsIn K mainGlobals "Full" = some (some (.ref C_Full))) (ca_NoAct : PySem.W.nsIn K mainGlobals "NoAct" = some (some (.ref C_NoAct))) (ca_NoDay : PySem.W.nsIn K mainGlobals "NoDay" = some (some (.ref C_NoDay))) (ca_NoName : PySem.W.nsIn K mainGlobals "NoName" = some (some (.ref C_NoName))) (ca_NoRow : PySem.W.nsIn K mainGlobals "NoRow" = some (some (.ref C_NoRow))) (ca_NoRule : PySem.W.nsIn K mainGlobals "NoRule" = some (some (.ref C_NoRule))) (ca_NoTable : PySem.W.nsIn K mainGlobals "NoTable" = some (some (.ref C_NoTable))) (ca_NoTerm : PySem.W.nsIn K mainGlobals "NoTerm" = some (some (.ref C_NoTerm))) (ca_Parted : PySem.W.nsIn K mainGlobals "Parted" = some (some (.ref C_Parted))) (ca_Ring : PySem.W.nsIn K mainGlobals "Ring" = some (some (.ref C_Ring))) (ca_Rule : PySem.W.nsIn K mainGlobals "Rule" = some (some (.ref C_Rule))) (ca_Twice : PySem.W.nsIn K mainGlobals "Twice" = some (some (.ref C_Twice))) (ca_Unfit : PySem.W.nsIn K mainGlobals "Unfit" = some (some (.ref C_Unfit))) (p0 : Pm K C_Ring "__init__" "Ring.__init__" sRingInit f0) (p1 : Pd K "untaken" sUntaken f1) (p2 : Pd K "hanging_order" sHangingOrder f2) (p3 : Pd K "is_figure" sIsFigure f3) (p4 : Pd K "is_written_number" sIsWrittenNumber f4) (p5 : Pd K "number" sNumber f5) (p6 : Pd K "is_small_letter" sIsSmallLetter f6) (p7 : Pd K "is_name" sIsName f7) (p8 : Pm K C_Book "__init__" "Book.__init__" sBookInit f8) (p9 : Pd K "lines_of" sLinesOf f9) (p10 : Pd K "value_of" sValueOf f10) (p11 : Pd K "row_of" sRowOf f11) (a12 : PySem.W.findIn K (.ref C_Rule) "__init__" = some (some (.ref f12))) (t12 : PySem.W.typeIn K (.ref f12) = some (.type "function")) (l12 : K.lookup f12 = some ⟨oc12, od12, .func (PySem.W.fnOf "__init__" "Rule.__init__" (defArgs sRuleInit) (defBody sRuleInit) (defScope sRuleInit) dV12 kV12 dc12 pm12 an12 cd12 ct12), sl12⟩) (c12 : PySem.W.codeIn K cd12 "Rule.__init__" = true) (k12 : PySem.W.keepIn K (.ref f12) = true) (pk12 : ∀ (u0 u1 u2 u3 u4 u5 u6 u7 u8 : Value) (S : Setting), PySem.W.peek K S (bindArgs (PySem.W.fnOf "__init__" "Rule.__init__" (defArgs sRuleInit) (defBody sRuleInit) (defScope sRuleInit) dV12 kV12 dc12 pm12 an12 cd12 ct12) ⟨[u0, u1, u2, u3, u4, u5, u6, u7, u8], []⟩) = some [(Str.ofString "self", u0), (Str.ofString "name", u1), (Str.ofString "who", u2), (Str.ofString "owes", u3), (Str.ofString "opens", u4), (Str.ofString "base", u5), (Str.ofString "many", u6), (Str.ofString "unit", u7), (Str.ofString "still", u8)]) (pe_RuleInit_8 : ∀ (u0 u1 u2 u3 u4 u5 u6 u7 : Value) (S : Setting), PySem.W.peek K S (bindArgs (PySem.W.fnOf "__init__" "Rule.__init__" (defArgs sRuleInit) (defBody sRuleInit) (defScope sRuleInit) dV12 kV12 dc12 pm12 an12 cd12 ct12) ⟨[u0, u1, u2, u3, u4, u5, u6, u7], []⟩) = some [(Str.ofString "self", u0), (Str.ofString "name", u1), (Str.ofString "who", u2), (Str.ofString "owes", u3), (Str.ofString "opens", u4), (Str.ofString "base", u5), (Str.ofString "many", u6), (Str.ofString "unit", u7), (Str.ofString "still", Value.none)]) (p13 : Pd K "read_term" sReadTerm f13) (p14 : Pd K "read_row" sReadRow f14) (p15 : Pd K "settle_names" sSettleNames f15) (p16 : Pd K "read_book" sReadBook f16) (p17 : Pd K "_law_cell_at" sLawCellAt f17) (p18 : Pd K "_law_words" sLawWords f18) (p19 : Pd K "_law_base" sLawBase f19) (p20 : Pd K "_law_has_ring" sLawHasRing f20) (p21 : Pd K "_law_rules" sLawRules f21) (p22 : Pd K "_law_text" sLawText f22) (p23 : Pd K "_law_told" sLawTold f23) (p24 : Pd K "_law_is_ring" sLawIsRing f24) (p25 : Pm K C_Book "hanging" "Book.hanging" sBookHanging f25) (p26 : Pd K "_law_in_order" sLawInOrder f26) (p27 : Pd K "_law_right" sLawRight f27) (a28 : PySem.W.nsIn K mainGlobals "law" = some (some (.ref f28))) (l28 : K.lookup f28 = some ⟨oc28, od28, .func (PySem.W.fnOf "law" "law" (defArgs sLaw) (defBody sLaw) (defScope sLaw) .none kV28 dc28 pm28 an28 cd28 ct28), sl28⟩) (c28 : PySem.W.codeIn K cd28 "law" = true) (k28 : PySem.W.keepIn K (.ref f28) = true) (z_ValueError : PySem.W.nsIn K mainGlobals "ValueError" = some none) (z_all : PySem.W.nsIn K mainGlobals "all" = some none) (z_enumerate : PySem.W.nsIn K mainGlobals "enumerate" = some none) (z_int : PySem.W.nsIn K mainGlobals "int" = some none) (z_isinstance : PySem.W.nsIn K mainGlobals "isinstance" = some none) (z_len : PySem.W.nsIn K mainGlobals "len" = some none) (z_list : PySem.W.nsIn K mainGlobals "list" = some none) (z_range : PySem.W.nsIn K mainGlobals "range" = some none) (z_reversed : PySem.W.nsIn K mainGlobals "reversed" = some none) (z_sorted : PySem.W.nsIn K mainGlobals "sorted" = some none) (z_str : PySem.W.nsIn K mainGlobals "str" = some none) (z_zip : PySem.W.nsIn K mainGlobals "zip" = some none) (q_LONGEST_NAME : PySem.W.nsIn K mainGlobals "LONGEST_NAME" = some (some (.int 8 tk_LONGEST_NAME))) (q_MOST_ROWS : PySem.W.nsIn K mainGlobals "MOST_ROWS" = some (some (.int 40 tk_MOST_ROWS))) (q_MOST_TERMS : PySem.W.nsIn K mainGlobals "MOST_TERMS" = some (some (.int 6 tk_MOST_TERMS))) (q_UNITS : PySem.W.nsIn K mainGlobals "UNITS" = some (some (.ref A_UNITS))) (lt_UNITS : K.lookup A_UNITS = some ⟨.type "tuple", oa_UNITS, .seq #[.str (Str.ofString "days") tt0_UNITS, .str (Str.ofString "weeks") tt1_UNITS, .str (Str.ofString "court") tt2_UNITS] na_UNITS, sa_UNITS⟩) (q_FORMS : PySem.W.nsIn K mainGlobals "FORMS" = some (some (.ref A_FORMS))) (lt_FORMS : K.lookup A_FORMS = some ⟨.type "tuple", oa_FORMS, .seq #[.ref A_FORMS_0, .ref A_FORMS_1, .ref A_FORMS_2, .ref A_FORMS_3, .ref A_FORMS_4, .ref A_FORMS_5, .ref A_FORMS_6] na_FORMS, sa_FORMS⟩) (lt_FORMS_0 : K.lookup A_FORMS_0 = some ⟨.type "tuple", oa_FORMS_0, .seq #[.str (Str.ofString "term") tt0_FORMS_0, .str (Str.ofString "NAME") tt1_FORMS_0, .str (Str.ofString "of") tt2_FORMS_0, .str (Str.ofString "NAME") tt3_FORMS_0, .str (Str.ofString "due") tt4_FORMS_0, .str (Str.ofString "NAME") tt5_FORMS_0, .str (Str.ofString "from") tt6_FORMS_0, .str (Str.ofString "NAME") tt7_FORMS_0, .int 40 tt8_FORMS_0, .str (Str.ofString "UNIT") tt9_FORMS_0] na_FORMS_0, sa_FORMS_0⟩) (lt_FORMS_1 : K.lookup A_FORMS_1 = some ⟨.type "tuple", oa_FORMS_1, .seq #[.str (Str.ofString "term") tt0_FORMS_1, .str (Str.ofString "NAME") tt1_FORMS_1, .str (Str.ofString "of") tt2_FORMS_1, .str (Str.ofString "NAME") tt3_FORMS_1, .str (Str.ofString "due") tt4_FORMS_1, .str (Str.ofString "NAME") tt5_FORMS_1, .str (Str.ofString "behind") tt6_FORMS_1, .str (Str.ofString "NAME") tt7_FORMS_1, .int 40 tt8_FORMS_1, .str (Str.ofString "UNIT") tt9_FORMS_1] na_FORMS_1, sa_FORMS_1⟩) (lt_FORMS_2 : K.lookup A_FORMS_2 = some ⟨.type "tuple", oa_FORMS_2, .seq #[.str (Str.ofString "ends") tt0_FORMS_2, .str (Str.ofString "NAME") tt1_FORMS_2, .str (Str.ofString "NAME") tt2_FORMS_2] na_FORMS_2, sa_FORMS_2⟩) (lt_FORMS_3 : K.lookup A_FORMS_3 = some ⟨.type "tuple", oa_FORMS_3, .seq #[.str (Str.ofString "anew") tt0_FORMS_3, .str (Str.ofString "NAME") tt1_FORMS_3, .str (Str.ofString "NAME") tt2_FORMS_3] na_FORMS_3, sa_FORMS_3⟩) (lt_FORMS_4 : K.lookup A_FORMS_4 = some ⟨.type "tuple", oa_FORMS_4, .seq #[.str (Str.ofString "longer") tt0_FORMS_4, .str (Str.ofString "NAME") tt1_FORMS_4, .str (Str.ofString "NAME") tt2_FORMS_4, .int 20 tt3_FORMS_4, .str (Str.ofString "times") tt4_FORMS_4, .int 3 tt5_FORMS_4] na_FORMS_4, sa_FORMS_4⟩) (lt_FORMS_5 : K.lookup A_FORMS_5 = some ⟨.type "tuple", oa_FORMS_5, .seq #[.str (Str.ofString "still") tt0_FORMS_5, .str (Str.ofString "NAME") tt1_FORMS_5, .str (Str.ofString "NAME") tt2_FORMS_5, .str (Str.ofString "NAME") tt3_FORMS_5] na_FORMS_5, sa_FORMS_5⟩) (lt_FORMS_6 : K.lookup A_FORMS_6 = some ⟨.type "tuple", oa_FORMS_6, .seq #[.str (Str.ofString "yields") tt0_FORMS_6, .str (Str.ofString "NAME") tt1_FORMS_6, .str (Str.ofString "NAME") tt2_FORMS_6] na_FORMS_6, sa_FORMS_6⟩) (cc_Book : clsB K C_Book = true) (cm_Book : mkB K C_Book f8 = true) (cn_Book : xNo K C_Book ["name", "who", "owes", "opens", "base", "many", "unit", "still", "ends", "anew", "longer", "yields", "order", "by_name", "names"] = true) (ct_dBookHanging : methB K C_Book "hanging" f25 = true) (cb_CourtError : xBase K C_CourtError = true) (cx_Ring : xAll K C_Ring (some (.ref f0)) = true) (cn_Ring : xNo K C_Ring ["name", "who", "owes", "opens", "base", "many", "unit", "still", "ends", "anew", "longer", "yields", "order", "by_name", "names"] = true) (ck_Ring : xKits K C_Ring [Value.ref C_CourtError, Value.type "ValueError"] [true, true] = true) (cc_Rule : clsB K C_Rule = true) (cm_Rule : mkB K C_Rule f12 = true) (cn_Rule : xNo K C_Rule ["name", "who", "owes", "opens", "base", "many", "unit", "still", "ends", "anew", "longer", "yields", "order", "by_name", "names"] = true) (cr_Ring : xRaise K C_Ring = true) (ch_Ring_Adrift : (PySem.W.exmOne K (.ref C_Ring) (.ref C_Adrift) == some false) = true) (ch_Ring_Full : (PySem.W.exmOne K (.ref C_Ring) (.ref C_Full) == some false) = true) (ch_Ring_NoAct : (PySem.W.exmOne K (.ref C_Ring) (.ref C_NoAct) == some false) = true) (ch_Ring_NoDay : (PySem.W.exmOne K (.ref C_Ring) (.ref C_NoDay) == some false) = true) (ch_Ring_NoName : (PySem.W.exmOne K (.ref C_Ring) (.ref C_NoName) == some false) = true) (ch_Ring_NoRow : (PySem.W.exmOne K (.ref C_Ring) (.ref C_NoRow) == some false) = true) (ch_Ring_NoRule : (PySem.W.exmOne K (.ref C_Ring) (.ref C_NoRule) == some false) = true) (ch_Ring_NoTable : (PySem.W.exmOne K (.ref C_Ring) (.ref C_NoTable) == some false) = true) (ch_Ring_NoTerm : (PySem.W.exmOne K (.ref C_Ring) (.ref C_NoTerm) == some false) = true) (ch_Ring_Parted : (PySem.W.exmOne K (.ref C_Ring) (.ref C_Parted) == some false) = true) (ch_Ring_Ring : (PySem.W.exmOne K (.ref C_Ring) (.ref C_Ring) == some true) = true) (ch_Ring_Twice : (PySem.W.exmOne K (.ref C_Ring) (.ref C_Twice) == some false) = true) (ch_Ring_Unfit : (PySem.W.exmOne K (.ref C_Ring) (.ref C_Unfit) == some false) = true)
    : ∃ fd : FuncData, (∀ (s : Shared) (v : Value), BindsTo s fd ⟨[v], []⟩ [("_law_script", v)]) ∧ ∀ base : Heap, K.In base → base.Ns mainGlobals mg → FnOk l.prog w K mg base CX0 12 fa fd ["_law_script"] (spLaw K) := by
  have e := hfa.symm.trans (PySem.W.mg_of X G a28)
  cases e
  obtain ⟨g0, d0⟩ := pm_mk p0 (ps := ["self", "names"]) fun _ _ _ _ _ _ => arg2 fun _ _ => rfl
  obtain ⟨g1, d1⟩ := pd_mk X G p1 (ps := ["name", "bases", "taken"]) fun _ _ _ _ _ _ => arg3 fun _ _ _ => rfl
  obtain ⟨g2, d2⟩ := pd_mk X G p2 (ps := ["rules"]) fun _ _ _ _ _ _ => arg1 fun _ => rfl
  obtain ⟨g3, d3⟩ := pd_mk X G p3 (ps := ["sign"]) fun _ _ _ _ _ _ => arg1 fun _ => rfl
  obtain ⟨g4, d4⟩ := pd_mk X G p4 (ps := ["text", "most_figures"]) fun _ _ _ _ _ _ => arg2 fun _ _ => rfl
  obtain ⟨g5, d5⟩ := pd_mk X G p5 (ps := ["text", "most"]) fun _ _ _ _ _ _ => arg2 fun _ _ => rfl
  obtain ⟨g6, d6⟩ := pd_mk X G p6 (ps := ["sign"]) fun _ _ _ _ _ _ => arg1 fun _ => rfl
  obtain ⟨g7, d7⟩ := pd_mk X G p7 (ps := ["thing"]) fun _ _ _ _ _ _ => arg1 fun _ => rfl
  obtain ⟨g8, d8⟩ := pm_mk p8 (ps := ["self", "rules"]) fun _ _ _ _ _ _ => arg2 fun _ _ => rfl
  obtain ⟨g9, d9⟩ := pd_mk X G p9 (ps := ["text"]) fun _ _ _ _ _ _ => arg1 fun _ => rfl
  obtain ⟨g10, d10⟩ := pd_mk X G p10 (ps := ["word", "asked"]) fun _ _ _ _ _ _ => arg2 fun _ _ => rfl
  obtain ⟨g11, d11⟩ := pd_mk X G p11 (ps := ["line"]) fun _ _ _ _ _ _ => arg1 fun _ => rfl
  obtain ⟨g13, d13⟩ := pd_mk X G p13 (ps := ["told", "at", "row"]) fun _ _ _ _ _ _ => arg3 fun _ _ _ => rfl
  obtain ⟨g14, d14⟩ := pd_mk X G p14 (ps := ["told", "at", "row"]) fun _ _ _ _ _ _ => arg3 fun _ _ _ => rfl
  obtain ⟨g15, d15⟩ := pd_mk X G p15 (ps := ["told", "at", "row"]) fun _ _ _ _ _ _ => arg3 fun _ _ _ => rfl
  obtain ⟨g16, d16⟩ := pd_mk X G p16 (ps := ["text"]) fun _ _ _ _ _ _ => arg1 fun _ => rfl
  obtain ⟨g17, d17⟩ := pd_mk X G p17 (ps := ["_law_script", "_law_k"]) fun _ _ _ _ _ _ => arg2 fun _ _ => rfl
  obtain ⟨g18, d18⟩ := pd_mk X G p18 (ps := ["_law_cell", "_law_many"]) fun _ _ _ _ _ _ => arg2 fun _ _ => rfl
  obtain ⟨g19, d19⟩ := pd_mk X G p19 (ps := ["_law_cell", "_law_k", "_law_many"]) fun _ _ _ _ _ _ => arg3 fun _ _ _ => rfl
  obtain ⟨g20, d20⟩ := pd_mk X G p20 (ps := ["_law_bases"]) fun _ _ _ _ _ _ => arg1 fun _ => rfl
  obtain ⟨g21, d21⟩ := pd_mk X G p21 (ps := ["_law_names", "_law_bases"]) fun _ _ _ _ _ _ => arg2 fun _ _ => rfl
  obtain ⟨g22, d22⟩ := pd_mk X G p22 (ps := ["_law_names", "_law_bases"]) fun _ _ _ _ _ _ => arg2 fun _ _ => rfl
  obtain ⟨g23, d23⟩ := pd_mk X G p23 (ps := ["_law_way", "_law_names", "_law_bases"]) fun _ _ _ _ _ _ => arg3 fun _ _ _ => rfl
  obtain ⟨g24, d24⟩ := pd_mk X G p24 (ps := ["_law_found", "_law_names", "_law_bases"]) fun _ _ _ _ _ _ => arg3 fun _ _ _ => rfl
  obtain ⟨g25, d25⟩ := pm_mk p25 (ps := ["self"]) fun _ _ _ _ _ _ => arg1 fun _ => rfl
  obtain ⟨g26, d26⟩ := pd_mk X G p26 (ps := ["_law_names", "_law_bases"]) fun _ _ _ _ _ _ => arg2 fun _ _ => rfl
  obtain ⟨g27, d27⟩ := pd_mk X G p27 (ps := ["_law_names", "_law_bases", "_law_way"]) fun _ _ _ _ _ _ => arg3 fun _ _ _ => rfl
  have F12 := fund_mk (st := sRuleInit) l12 c12 k12
  have b12 : Binds K _ ["self", "name", "who", "owes", "opens", "base", "many", "unit", "still"] [] := bindsD (ds := []) fun us hl S => match us, hl with | [u0, u1, u2, u3, u4, u5, u6, u7, u8], _ => pk12 u0 u1 u2 u3 u4 u5 u6 u7 u8 S
  have F28 := fun_mk (st := sLaw) l28 c28 k28
  have b28 := F28.binds (ps := ["_law_script"]) fun _ _ _ _ _ _ us hl => match us, hl with | [_], _ => rfl
  have he_RuleInit_8 : Binds K _ ["self", "name", "who", "owes", "opens", "base", "many", "unit", "still"] [.none] := bindsD fun us hl S => match us, (show us.length = 8 by rw [List.length_append] at hl; exact Nat.add_right_cancel hl) with | [u0, u1, u2, u3, u4, u5, u6, u7], _ => pe_RuleInit_8 u0 u1 u2 u3 u4 u5 u6 u7 S
  have T : Txt K mg { fRingInit := f0, gRingInit := g0, fUntaken := f1, gUntaken := g1, fHangingOrder := f2, gHangingOrder := g2, fIsFigure := f3, gIsFigure := g3, fIsWrittenNumber := f4, gIsWrittenNumber := g4, fNumber := f5, gNumber := g5, fIsSmallLetter := f6, gIsSmallLetter := g6, fIsName := f7, gIsName := g7, fBookInit := f8, gBookInit := g8, fLinesOf := f9, gLinesOf := g9, fValueOf := f10, gValueOf := g10, fRowOf := f11, gRowOf := g11, fRuleInit := f12, gRuleInit := _, fReadTerm := f13, gReadTerm := g13, fReadRow := f14, gReadRow := g14, fSettleNames := f15, gSettleNames := g15, fReadBook := f16, gReadBook := g16, fLawCellAt := f17, gLawCellAt := g17, fLawWords := f18, gLawWords := g18, fLawBase := f19, gLawBase := g19, fLawHasRing := f20, gLawHasRing := g20, fLawRules := f21, gLawRules := g21, fLawText := f22, gLawText := g22, fLawTold := f23, gLawTold := g23, fLawIsRing := f24, gLawIsRing := g24, fBookHanging := f25, gBookHanging := g25, fLawInOrder := f26, gLawInOrder := g26, fLawRight := f27, gLawRight := g27, fLaw := fa, gLaw := _, cAdrift := C_Adrift, cBook := C_Book, cCourtError := C_CourtError, cFull := C_Full, cNoAct := C_NoAct, cNoDay := C_NoDay, cNoName := C_NoName, cNoRow := C_NoRow, cNoRule := C_NoRule, cNoTable := C_NoTable, cNoTerm := C_NoTerm, cParted := C_Parted, cRing := C_Ring, cRule := C_Rule, cTwice := C_Twice, cUnfit := C_Unfit, tUNITS := A_UNITS, tFORMS := A_FORMS, tFORMS_0 := A_FORMS_0, tFORMS_1 := A_FORMS_1, tFORMS_2 := A_FORMS_2, tFORMS_3 := A_FORMS_3, tFORMS_4 := A_FORMS_4, tFORMS_5 := A_FORMS_5, tFORMS_6 := A_FORMS_6 } := {
    dRingInit := d0,
    dUntaken := d1,
    dHangingOrder := d2,
    dIsFigure := d3,
    dIsWrittenNumber := d4,
    dNumber := d5,
    dIsSmallLetter := d6,
    dIsName := d7,
    dBookInit := d8,
    dLinesOf := d9,
    dValueOf := d10,
    dRowOf := d11,
    dRuleInit := ⟨F12, b12, t12⟩,
    dReadTerm := d13,
    dReadRow := d14,
    dSettleNames := d15,
    dReadBook := d16,
    dLawCellAt := d17,
    dLawWords := d18,
    dLawBase := d19,
    dLawHasRing := d20,
    dLawRules := d21,
    dLawText := d22,
    dLawTold := d23,
    dLawIsRing := d24,
    dBookHanging := d25,
    dLawInOrder := d26,
    dLawRight := d27,
    dLaw := ⟨F28, PySem.W.mg_of X G a28, b28⟩,
    m_Adrift := PySem.W.mg_of X G ca_Adrift,
    m_Book := PySem.W.mg_of X G ca_Book,
    c_Book := cls_of cc_Book,
    k_Book := mk_of cm_Book,
    n_Book := cn_Book,
    t_dBookHanging := meth_of ct_dBookHanging,
    m_CourtError := PySem.W.mg_of X G ca_CourtError,
    b_CourtError := xb_of cb_CourtError,
    m_Full := PySem.W.mg_of X G ca_Full,
    m_NoAct := PySem.W.mg_of X G ca_NoAct,
    m_NoDay := PySem.W.mg_of X G ca_NoDay,
    m_NoName := PySem.W.mg_of X G ca_NoName,
    m_NoRow := PySem.W.mg_of X G ca_NoRow,
    m_NoRule := PySem.W.mg_of X G ca_NoRule,
    m_NoTable := PySem.W.mg_of X G ca_NoTable,
    m_NoTerm := PySem.W.mg_of X G ca_NoTerm,
    m_Parted := PySem.W.mg_of X G ca_Parted,
    m_Ring := PySem.W.mg_of X G ca_Ring,
    x_Ring := xa_of cx_Ring,
    n_Ring := cn_Ring,
    k_Ring := ck_Ring,
    m_Rule := PySem.W.mg_of X G ca_Rule,
    c_Rule := cls_of cc_Rule,
    k_Rule := mk_of cm_Rule,
    n_Rule := cn_Rule,
    m_Twice := PySem.W.mg_of X G ca_Twice,
    m_Unfit := PySem.W.mg_of X G ca_Unfit,
    r_Ring := xr_of cr_Ring,
    h_Ring_Adrift := beq_iff_eq.mp ch_Ring_Adrift,
    h_Ring_Full := beq_iff_eq.mp ch_Ring_Full,
    h_Ring_NoAct := beq_iff_eq.mp ch_Ring_NoAct,
    h_Ring_NoDay := beq_iff_eq.mp ch_Ring_NoDay,
    h_Ring_NoName := beq_iff_eq.mp ch_Ring_NoName,
    h_Ring_NoRow := beq_iff_eq.mp ch_Ring_NoRow,
    h_Ring_NoRule := beq_iff_eq.mp ch_Ring_NoRule,
    h_Ring_NoTable := beq_iff_eq.mp ch_Ring_NoTable,
    h_Ring_NoTerm := beq_iff_eq.mp ch_Ring_NoTerm,
    h_Ring_Parted := beq_iff_eq.mp ch_Ring_Parted,
    h_Ring_Ring := beq_iff_eq.mp ch_Ring_Ring,
    h_Ring_Twice := beq_iff_eq.mp ch_Ring_Twice,
    h_Ring_Unfit := beq_iff_eq.mp ch_Ring_Unfit,
    e_RuleInit_8 := he_RuleInit_8,
    n_ValueError := PySem.W.mg_none_of X G z_ValueError,
    n_all := PySem.W.mg_none_of X G z_all,
    n_enumerate := PySem.W.mg_none_of X G z_enumerate,
    n_int := PySem.W.mg_none_of X G z_int,
    n_isinstance := PySem.W.mg_none_of X G z_isinstance,
    n_len := PySem.W.mg_none_of X G z_len,
    n_list := PySem.W.mg_none_of X G z_list,
    n_range := PySem.W.mg_none_of X G z_range,
    n_reversed := PySem.W.mg_none_of X G z_reversed,
    n_sorted := PySem.W.mg_none_of X G z_sorted,
    n_str := PySem.W.mg_none_of X G z_str,
    n_zip := PySem.W.mg_none_of X G z_zip,
    g_LONGEST_NAME := ⟨_, PySem.W.mg_of X G q_LONGEST_NAME⟩,
    g_MOST_ROWS := ⟨_, PySem.W.mg_of X G q_MOST_ROWS⟩,
    g_MOST_TERMS := ⟨_, PySem.W.mg_of X G q_MOST_TERMS⟩,
    g_UNITS := PySem.W.mg_of X G q_UNITS, s_UNITS := fun H => .inr ⟨_, _, _, lt_UNITS, rfl, rfl, by show 3 ≤ sizeLine; rw [sizeLine_eq]; decide, .cons ⟨_, rfl⟩ (.cons ⟨_, rfl⟩ (.cons ⟨_, rfl⟩ (.nil)))⟩,
    g_FORMS := PySem.W.mg_of X G q_FORMS, s_FORMS := fun H => .inr ⟨_, _, _, lt_FORMS, rfl, rfl, by show 7 ≤ sizeLine; rw [sizeLine_eq]; decide, .cons rfl (.cons rfl (.cons rfl (.cons rfl (.cons rfl (.cons rfl (.cons rfl (.nil)))))))⟩,
    s_FORMS_0 := fun H => .inr ⟨_, _, _, lt_FORMS_0, rfl, rfl, by show 10 ≤ sizeLine; rw [sizeLine_eq]; decide, .cons ⟨_, rfl⟩ (.cons ⟨_, rfl⟩ (.cons ⟨_, rfl⟩ (.cons ⟨_, rfl⟩ (.cons ⟨_, rfl⟩ (.cons ⟨_, rfl⟩ (.cons ⟨_, rfl⟩ (.cons ⟨_, rfl⟩ (.cons ⟨_, rfl⟩ (.cons ⟨_, rfl⟩ (.nil))))))))))⟩,
    s_FORMS_1 := fun H => .inr ⟨_, _, _, lt_FORMS_1, rfl, rfl, by show 10 ≤ sizeLine; rw [sizeLine_eq]; decide, .cons ⟨_, rfl⟩ (.cons ⟨_, rfl⟩ (.cons ⟨_, rfl⟩ (.cons ⟨_, rfl⟩ (.cons ⟨_, rfl⟩ (.cons ⟨_, rfl⟩ (.cons ⟨_, rfl⟩ (.cons ⟨_, rfl⟩ (.cons ⟨_, rfl⟩ (.cons ⟨_, rfl⟩ (.nil))))))))))⟩,
    s_FORMS_2 := fun H => .inr ⟨_, _, _, lt_FORMS_2, rfl, rfl, by show 3 ≤ sizeLine; rw [sizeLine_eq]; decide, .cons ⟨_, rfl⟩ (.cons ⟨_, rfl⟩ (.cons ⟨_, rfl⟩ (.nil)))⟩,
    s_FORMS_3 := fun H => .inr ⟨_, _, _, lt_FORMS_3, rfl, rfl, by show 3 ≤ sizeLine; rw [sizeLine_eq]; decide, .cons ⟨_, rfl⟩ (.cons ⟨_, rfl⟩ (.cons ⟨_, rfl⟩ (.nil)))⟩,
    s_FORMS_4 := fun H => .inr ⟨_, _, _, lt_FORMS_4, rfl, rfl, by show 6 ≤ sizeLine; rw [sizeLine_eq]; decide, .cons ⟨_, rfl⟩ (.cons ⟨_, rfl⟩ (.cons ⟨_, rfl⟩ (.cons ⟨_, rfl⟩ (.cons ⟨_, rfl⟩ (.cons ⟨_, rfl⟩ (.nil))))))⟩,
    s_FORMS_5 := fun H => .inr ⟨_, _, _, lt_FORMS_5, rfl, rfl, by show 4 ≤ sizeLine; rw [sizeLine_eq]; decide, .cons ⟨_, rfl⟩ (.cons ⟨_, rfl⟩ (.cons ⟨_, rfl⟩ (.cons ⟨_, rfl⟩ (.nil))))⟩,
    s_FORMS_6 := fun H => .inr ⟨_, _, _, lt_FORMS_6, rfl, rfl, by show 3 ≤ sizeLine; rw [sizeLine_eq]; decide, .cons ⟨_, rfl⟩ (.cons ⟨_, rfl⟩ (.cons ⟨_, rfl⟩ (.nil)))⟩ }
  exact ⟨_, fun s v => .of_eq rfl, fun base _ _ => okLaw T⟩
theorem walk {l : PySem.W.OpenLaw} {q : Program} {loose : List Str} {XP : (Str → Option Value) → Heap → Prop} {YP : World → Heap → Prop} {d : DefRec} {K : Params → PySem.W.Frag} (hn : l.most = some 63) (hdf : d.params.defaults = [])
    (hY : ∀ (w : World) (h : Heap), YP w h → (K w.params).In h)
    (F : ∀ (w : World) (mg : Str → Option Value) (fa : Addr) (h : Heap), (K w.params).In h → h.Ns mainGlobals mg → mg d.name = some (.ref fa) →
      ∃ fd : FuncData, (∀ (s : Shared) (u : Value), BindsTo s fd ⟨[u], []⟩ [("_law_script", u)]) ∧ ∀ base : Heap, (K w.params).In base → base.Ns mainGlobals mg → FnOk l.prog w (K w.params) mg base CX0 12 fa fd ["_law_script"] (spLaw (K w.params))) :
    PySem.W.WalkO q loose XP YP l.row.toRowW d [] (fun f vs => PySem.call f vs) :=
  L2.walk_of (n := 63) (k := 12) (x := "_law_script") (CX := fun _ => CX0) (sp := fun w => spLaw (K w.params)) hn (by decide) hdf ⟨rfl, by decide, by decide⟩ hY F (fun _ _ a ns hl _ hS => ⟨a, ns, rfl, hS, hl, fun _ => rfl⟩) fun _ _ _ _ _ z => z
end K47
noncomputable def PySem.W.Fast.tw12221161193154827844 : Unit := ()
noncomputable def PySem.W.Fast.tw7666145503307746904 : Unit := ()
noncomputable def PySem.W.Fast.tw11418925959647606933 : Unit := ()
noncomputable def PySem.W.Fast.tw17659748571538567491 : Unit := ()
noncomputable def PySem.W.Fast.tw15704784209657732308 : Unit := ()
noncomputable def PySem.W.Fast.tw9234289467407262461 : Unit := ()
noncomputable def PySem.W.Fast.tw13657048045462011671 : Unit := ()
noncomputable def PySem.W.Fast.tw7201334785806598130 : Unit := ()
noncomputable def PySem.W.Fast.tw12357447442210051245 : Unit := ()
noncomputable def PySem.W.Fast.tw17194286525494876871 : Unit := ()
noncomputable def PySem.W.Fast.tw18441051303732625046 : Unit := ()
noncomputable def PySem.W.Fast.tw6934099461800481552 : Unit := ()
noncomputable def PySem.W.Fast.tw16934434829699881283 : Unit := ()
noncomputable def PySem.W.Fast.tw8330703045025846711 : Unit := ()
noncomputable def PySem.W.Fast.tw9959791351028363753 : Unit := ()
noncomputable def PySem.W.Fast.tw3051055388279130600 : Unit := ()
noncomputable def PySem.W.Fast.tw18025386916694078977 : Unit := ()
noncomputable def PySem.W.Fast.tw3249883681103609553 : Unit := ()
noncomputable def PySem.W.Fast.tw2288473367620942402 : Unit := ()
noncomputable def PySem.W.Fast.tw1407611385692789274 : Unit := ()
noncomputable def PySem.W.Fast.tw11059298429290805424 : Unit := ()
noncomputable def PySem.W.Fast.tw7379280176249261304 : Unit := ()
noncomputable def PySem.W.Fast.tw14632035662988737782 : Unit := ()
noncomputable def PySem.W.Fast.tw7855262435221698037 : Unit := ()
noncomputable def PySem.W.Fast.tw14518789250925399096 : Unit := ()
noncomputable def PySem.W.Fast.tw4026711925491877359 : Unit := ()
noncomputable def PySem.W.Fast.tw334399879309508762 : Unit := ()
noncomputable def PySem.W.Fast.tw10387045366467405065 : Unit := ()
noncomputable def PySem.W.Fast.tw2354595399317648316 : Unit := ()
noncomputable def PySem.W.Fast.tw9849047573835105970 : Unit := ()
noncomputable def PySem.W.Fast.tw5301223282647874770 : Unit := ()
noncomputable def PySem.W.Fast.tw15740819705584660105 : Unit := ()
noncomputable def PySem.W.Fast.tw15431586277323013404 : Unit := ()
noncomputable def PySem.W.Fast.tw16622623311493903596 : Unit := ()
noncomputable def PySem.W.Fast.tw14010739195214933555 : Unit := ()
noncomputable def PySem.W.Fast.tw11046896981009526462 : Unit := ()
noncomputable def PySem.W.Fast.tw11340694301899186502 : Unit := ()
noncomputable def PySem.W.Fast.tw7912817650105498778 : Unit := ()
noncomputable def PySem.W.Fast.tw8314143029502187400 : Unit := ()
noncomputable def PySem.W.Fast.tw7236734864407219725 : Unit := ()
noncomputable def PySem.W.Fast.tw5584504789790874703 : Unit := ()
noncomputable def PySem.W.Fast.tw2424111809081347055 : Unit := ()
noncomputable def PySem.W.Fast.tw2534339362145749630 : Unit := ()
noncomputable def PySem.W.Fast.tw11506204020231299316 : Unit := ()
noncomputable def PySem.W.Fast.tw18408040000142396316 : Unit := ()
noncomputable def PySem.W.Fast.tw2803212500543591978 : Unit := ()
noncomputable def PySem.W.Fast.tw13489683173423190865 : Unit := ()
noncomputable def PySem.W.Fast.tw2518535146801802018 : Unit := ()
noncomputable def PySem.W.Fast.tw12299775165592973555 : Unit := ()
noncomputable def PySem.W.Fast.tw2415479417098139133 : Unit := ()
noncomputable def PySem.W.Fast.tw11447637940450455391 : Unit := ()
noncomputable def PySem.W.Fast.tw18323117635057401958 : Unit := ()
noncomputable def PySem.W.Fast.tw12616224099890505901 : Unit := ()
noncomputable def PySem.W.Fast.tw13928810866890311052 : Unit := ()
noncomputable def PySem.W.Fast.tw2963890854182503794 : Unit := ()
noncomputable def PySem.W.Fast.tw13582290637563278064 : Unit := ()
noncomputable def PySem.W.Fast.tw9192522871324781505 : Unit := ()
noncomputable def PySem.W.Fast.tw18006007512112286651 : Unit := ()
noncomputable def PySem.W.Fast.tw15807765518207221997 : Unit := ()
noncomputable def PySem.W.Fast.tw10216654630942865700 : Unit := ()
noncomputable def PySem.W.Fast.tw10826885601011877889 : Unit := ()
noncomputable def PySem.W.Fast.tw4199369736796539322 : Unit := ()
noncomputable def PySem.W.Fast.tw8672219674063245291 : Unit := ()
noncomputable def PySem.W.Fast.tw17106757139655231087 : Unit := ()
noncomputable def PySem.W.Fast.tw12961502750792355608 : Unit := ()
noncomputable def PySem.W.Fast.tw13233330709915179082 : Unit := ()
noncomputable def PySem.W.Fast.tw17982976653426108724 : Unit := ()
noncomputable def PySem.W.Fast.tw15524842892403061851 : Unit := ()
noncomputable def PySem.W.Fast.tw4789061672671755148 : Unit := ()
noncomputable def PySem.W.Fast.tw772367283724064400 : Unit := ()
noncomputable def PySem.W.Fast.tw3635488812023049841 : Unit := ()
noncomputable def PySem.W.Fast.tw11823307642180679238 : Unit := ()
noncomputable def PySem.W.Fast.tw5389071281429212461 : Unit := ()
noncomputable def PySem.W.Fast.tw17125755613390685119 : Unit := ()
noncomputable def PySem.W.Fast.tw697077884215608418 : Unit := ()
noncomputable def PySem.W.Fast.tw4796172025119829611 : Unit := ()
noncomputable def PySem.W.Fast.tw1250731465951720348 : Unit := ()
noncomputable def PySem.W.Fast.tw64994205035901290 : Unit := ()
noncomputable def PySem.W.Fast.tw9056548250240103648 : Unit := ()
noncomputable def PySem.W.Fast.tw8142469343526369061 : Unit := ()
noncomputable def PySem.W.Fast.tw1797315487184779166 : Unit := ()
noncomputable def PySem.W.Fast.tw8220064008253968831 : Unit := ()
noncomputable def PySem.W.Fast.tw6159660641457608949 : Unit := ()
noncomputable def PySem.W.Fast.tw7587529186806657612 : Unit := ()
noncomputable def PySem.W.Fast.tw1926356425494890881 : Unit := ()
noncomputable def PySem.W.Fast.tw15457439483072595357 : Unit := ()
noncomputable def PySem.W.Fast.tw7316780038478570933 : Unit := ()
noncomputable def PySem.W.Fast.tw7542128325114985454 : Unit := ()
noncomputable def PySem.W.Fast.tw5491191674642709170 : Unit := ()
noncomputable def PySem.W.Fast.tw1629195653719618847 : Unit := ()
noncomputable def PySem.W.Fast.tw1784419758107025132 : Unit := ()
noncomputable def PySem.W.Fast.tw2991666810821907709 : Unit := ()
noncomputable def PySem.W.Fast.tw10974775228114683371 : Unit := ()
noncomputable def PySem.W.Fast.tw7482038203026391546 : Unit := ()
noncomputable def PySem.W.Fast.tw9162989151891142893 : Unit := ()
noncomputable def PySem.W.Fast.tw152697521553278223 : Unit := ()
noncomputable def PySem.W.Fast.tw3245908742116020507 : Unit := ()
noncomputable def PySem.W.Fast.tw1491060603318515973 : Unit := ()
noncomputable def PySem.W.Fast.tw1896818996019824495 : Unit := ()
noncomputable def PySem.W.Fast.tw482655451575908207 : Unit := ()
noncomputable def PySem.W.Fast.tw4893363511777878492 : Unit := ()
open PySem PySem.W PyProof.Rows
set_option maxRecDepth 100000 in
set_option maxHeartbeats 0 in
theorem PySem.Challenge.cw_termcourt_k47_rings_told_holds : PySem.Challenge.rw_termcourt_k47_rings_told.Holds := by
  w_on; o_law; k_head; (case hw => w_witness2)
  k_fill
  refine K47.walk (l := PySem.Challenge.rw_termcourt_k47_rings_told) rfl rfl (fun w h Y => PySem.W.kIn_of Y) ?F
  case F =>
    intro w mg fa h KX G hmg
    refine' K47.all_mk KX G hmg ?ca_Adrift ?ca_Book ?ca_CourtError ?ca_Full ?ca_NoAct ?ca_NoDay ?ca_NoName ?ca_NoRow ?ca_NoRule ?ca_NoTable ?ca_NoTerm ?ca_Parted ?ca_Ring ?ca_Rule ?ca_Twice ?ca_Unfit ?p0 ?p1 ?p2 ?p3 ?p4 ?p5 ?p6 ?p7 ?p8 ?p9 ?p10 ?p11 ?a12 ?t12 ?l12 ?c12 ?k12 ?pk12 ?pe_RuleInit_8 ?p13 ?p14 ?p15 ?p16 ?p17 ?p18 ?p19 ?p20 ?p21 ?p22 ?p23 ?p24 ?p25 ?p26 ?p27 ?a28 ?l28 ?c28 ?k28 ?z_ValueError ?z_all ?z_enumerate ?z_int ?z_isinstance ?z_len ?z_list ?z_range ?z_reversed ?z_sorted ?z_str ?z_zip ?q_LONGEST_NAME ?q_MOST_ROWS ?q_MOST_TERMS ?q_UNITS ?lt_UNITS ?q_FORMS ?lt_FORMS ?lt_FORMS_0 ?lt_FORMS_1 ?lt_FORMS_2 ?lt_FORMS_3 ?lt_FORMS_4 ?lt_FORMS_5 ?lt_FORMS_6 ?cc_Book ?cm_Book ?cn_Book ?ct_dBookHanging ?cb_CourtError ?cx_Ring ?cn_Ring ?ck_Ring ?cc_Rule ?cm_Rule ?cn_Rule ?cr_Ring ?ch_Ring_Adrift ?ch_Ring_Full ?ch_Ring_NoAct ?ch_Ring_NoDay ?ch_Ring_NoName ?ch_Ring_NoRow ?ch_Ring_NoRule ?ch_Ring_NoTable ?ch_Ring_NoTerm ?ch_Ring_Parted ?ch_Ring_Ring ?ch_Ring_Twice ?ch_Ring_Unfit
    (case ca_Adrift | ca_Book | ca_CourtError | ca_Full | ca_NoAct | ca_NoDay | ca_NoName | ca_NoRow | ca_NoRule | ca_NoTable | ca_NoTerm | ca_Parted | ca_Ring | ca_Rule | ca_Twice | ca_Unfit => k_is)
    (case p0 => refine' K47.pm_of ?pa ?pt ?pl ?pc ?pk; (case pa | pt | pl | pc | pk => k_is))
    (case p1 | p2 | p3 | p4 | p5 | p6 | p7 => refine' K47.pd_of ?pa ?pl ?pc ?pk; (case pa | pl | pc | pk => k_is))
    (case p8 => refine' K47.pm_of ?pa ?pt ?pl ?pc ?pk; (case pa | pt | pl | pc | pk => k_is))
    (case p9 | p10 | p11 => refine' K47.pd_of ?pa ?pl ?pc ?pk; (case pa | pl | pc | pk => k_is))
    (case a12 | t12 | l12 | c12 | k12 => k_is)
    (case pk12 | pe_RuleInit_8 => intros; kernel_rfl)
    (case p13 | p14 | p15 | p16 | p17 | p18 | p19 | p20 | p21 | p22 | p23 | p24 => refine' K47.pd_of ?pa ?pl ?pc ?pk; (case pa | pl | pc | pk => k_is))
    (case p25 => refine' K47.pm_of ?pa ?pt ?pl ?pc ?pk; (case pa | pt | pl | pc | pk => k_is))
    (case p26 | p27 => refine' K47.pd_of ?pa ?pl ?pc ?pk; (case pa | pl | pc | pk => k_is))
    (case a28 | l28 | c28 | k28 | z_ValueError | z_all | z_enumerate | z_int | z_isinstance | z_len | z_list | z_range | z_reversed | z_sorted | z_str | z_zip | q_LONGEST_NAME | q_MOST_ROWS | q_MOST_TERMS | q_UNITS | lt_UNITS | q_FORMS | lt_FORMS | lt_FORMS_0 | lt_FORMS_1 | lt_FORMS_2 | lt_FORMS_3 | lt_FORMS_4 | lt_FORMS_5 | lt_FORMS_6 => k_is)
    (case cc_Book | cm_Book | cn_Book | ct_dBookHanging | cb_CourtError | cx_Ring | cn_Ring | ck_Ring | cc_Rule | cm_Rule | cn_Rule | cr_Ring | ch_Ring_Adrift | ch_Ring_Full | ch_Ring_NoAct | ch_Ring_NoDay | ch_Ring_NoName | ch_Ring_NoRow | ch_Ring_NoRule | ch_Ring_NoTable | ch_Ring_NoTerm | ch_Ring_Parted | ch_Ring_Ring | ch_Ring_Twice | ch_Ring_Unfit => kernel_rfl)



