import PyProof.Rows.All
import Wide.All
import OpenK.AllK
import Wide.FinOn
import Lean
import PyProof.EqAt
import PyProof.EqKinds
import PyProof.TupleCall
import PySem.Challenge.RW_termcourt_k46_order_of_hanging
set_option Elab.async false
set_option linter.all false
set_option maxRecDepth 100000
/-! THE HAND LAYER, for ints, bools, texts, own classes, LISTS and tuples (index, slices, in, append, pop ..), calls, loops. Paste it whole ahead of your own text; what your proof does not reach may be deleted. -/
namespace L2
open PySem PySem.Spec PyProof.Rows

/-- a key: an int or a str -/
noncomputable abbrev Key := Sum Int Str
noncomputable def keyIs : Key → Value → Bool
  | .inl k, v => Value.isInt k v
  | .inr x, v => Value.isStrOf x v
noncomputable def keyH (w : World) : Key → Int
  | .inl k => hashInt k
  | .inr x => hashStr w x
theorem keyIs_shape : ∀ {k : Key} {v : Value}, keyIs k v = true → (∃ i t, k = Sum.inl i ∧ v = Value.int i t) ∨ (∃ x t, k = Sum.inr x ∧ v = Value.str x t)
  | .inl i, v, h => by
    obtain ⟨t, e⟩ := Value.isInt_shape (k := i) (v := v) h
    exact .inl ⟨i, t, rfl, e⟩
  | .inr x, v, h => by
    obtain ⟨t, e⟩ := Value.isStrOf_shape (x := x) (v := v) h
    exact .inr ⟨x, t, rfl, e⟩
theorem keyIs_int (i : Int) (t : Tok) : keyIs (.inl i) (.int i t) = true := by simp [keyIs, Value.isInt]
theorem keyIs_str (x : Str) (t : Tok) : keyIs (.inr x) (.str x t) = true := by simp [keyIs, Value.isStrOf]
theorem key_ll (a b : Int) : decide ((Sum.inl a : Key) = Sum.inl b) = (a == b) := by
  by_cases e : a = b
  · subst e; simp
  · have h : ¬ (Sum.inl a : Key) = Sum.inl b := fun q => e (Sum.inl.inj q)
    rw [decide_eq_false h]
    exact (beq_eq_false_iff_ne.mpr e).symm
theorem key_rr (a b : Str) : decide ((Sum.inr a : Key) = Sum.inr b) = decide (a = b) := by
  by_cases e : a = b
  · subst e; simp
  · have h : ¬ (Sum.inr a : Key) = Sum.inr b := fun q => e (Sum.inr.inj q)
    rw [decide_eq_false h, decide_eq_false e]
theorem key_lr (a : Int) (b : Str) : decide ((Sum.inl a : Key) = Sum.inr b) = false := decide_eq_false (fun q => nomatch q)
theorem key_rl (a : Str) (b : Int) : decide ((Sum.inr a : Key) = Sum.inl b) = false := decide_eq_false (fun q => nomatch q)

noncomputable def mixKind (prog : Program) (w : World) : PySem.KeyKind prog w Key where
  is := keyIs
  hash := keyH w
  inj := fun v a b ha hb => by
    rcases keyIs_shape ha with ⟨i, t, rfl, rfl⟩ | ⟨x, t, rfl, rfl⟩
    · rcases keyIs_shape hb with ⟨j, u, rfl, e⟩ | ⟨y, u, rfl, e⟩
      · injection e with e1 _; rw [e1]
      · exact nomatch e
    · rcases keyIs_shape hb with ⟨j, u, rfl, e⟩ | ⟨y, u, rfl, e⟩
      · exact nomatch e
      · injection e with e1 _; rw [e1]
  byValue := fun k v h => by
    rcases keyIs_shape h with ⟨i, t, rfl, rfl⟩ | ⟨x, t, rfl, rfl⟩ <;> rfl
  pyHash := fun hv h => by
    rcases keyIs_shape hv with ⟨i, t, rfl, rfl⟩ | ⟨x, t, rfl, rfl⟩
    · exact wpAny_pyHash_int h
    · exact wpAny_pyHash_str h
  eqBool := fun hu hv h => by
    rcases keyIs_shape hu with ⟨i, t, rfl, rfl⟩ | ⟨x, t, rfl, rfl⟩
    · rcases keyIs_shape hv with ⟨j, u, rfl, rfl⟩ | ⟨y, u, rfl, rfl⟩
      · rw [key_ll] at h; exact wpAny_eqBool_int h
      · rw [key_lr] at h; exact SeqAt.EqAt.int_str i t y u _ _ _ _ h
    · rcases keyIs_shape hv with ⟨j, u, rfl, rfl⟩ | ⟨y, u, rfl, rfl⟩
      · rw [key_rl] at h; exact SeqAt.EqAt.str_int x t j u _ _ _ _ h
      · rw [key_rr] at h; exact wpAny_eqBool_str h
  «strs» := fun k x t v h => by
    rcases keyIs_shape h with ⟨i, u, rfl, e⟩ | ⟨y, u, rfl, e⟩
    · exact nomatch e
    · injection e with e1 _
      subst e1
      cases v <;> rfl

theorem mixKind_int (prog : Program) (w : World) (i : Int) (t : Tok) : (mixKind prog w).is (.inl i) (.int i t) = true := keyIs_int i t
theorem mixKind_str (prog : Program) (w : World) (x : Str) (t : Tok) : (mixKind prog w).is (.inr x) (.str x t) = true := keyIs_str x t
end L2

namespace L2
open PySem PySem.Spec PyProof.Rows

/-- a value, without the heap -/
inductive V where
  | non | bl (b : Bool) | int (i : Int) | str (x : Str) | byt (b : Array UInt8) | flt (b : UInt64) | ref (a : Addr) | ty (n : String)
  deriving DecidableEq

noncomputable def RelV : V → Value → Prop
  | .non, u => u = Value.none
  | .bl b, u => u = Value.bool b
  | .int i, u => ∃ t, u = Value.int i t
  | .str x, u => ∃ t, u = Value.str x t
  | .byt b, u => ∃ t, u = Value.bytes b t
  | .flt b, u => ∃ t, u = Value.float b t
  | .ref a, u => u = Value.ref a
  | .ty n, u => u = Value.type n

noncomputable abbrev Vals : List V → List Value → Prop := Paired RelV
theorem Vals.length {xs : List V} {us : List Value} (r : Vals xs us) : xs.length = us.length := Paired.length r
theorem Vals.get : ∀ {xs : List V} {us : List Value} {i : Nat} {x : V}, Vals xs us → xs[i]? = some x → ∃ u, us[i]? = some u ∧ RelV x u
  | _, _, _, _, .nil, e => by simp at e
  | _, _, 0, _, .cons r _, e => by simp at e; subst e; exact ⟨_, rfl, r⟩
  | _, _, i + 1, x, .cons _ t, e => by
    obtain ⟨u, h1, h2⟩ := Vals.get (i := i) (x := x) t (by simpa using e)
    exact ⟨u, by simpa using h1, h2⟩
theorem Vals.append : ∀ {xs ys : List V} {us ws : List Value}, Vals xs us → Vals ys ws → Vals (xs ++ ys) (us ++ ws)
  | _, _, _, _, .nil, s => s
  | _, _, _, _, .cons r t, s => .cons r (Vals.append t s)
noncomputable def RelO : Option V → Option Value → Prop
  | some v, some u => RelV v u
  | none, none => True
  | _, _ => False
noncomputable def KV {κ : Type} : List (κ × V) → List (κ × Value) → Prop := Paired fun (p : κ × V) (q : κ × Value) => p.1 = q.1 ∧ RelV p.2 q.2

/-- a key of a dict (00_mix): an int or a text -/
noncomputable def kV : Key → V
  | .inl i => .int i
  | .inr x => .str x

/-- what stands at a tracked address -/
inductive HO where
  /-- a list -/
  | lst (xs : List V)
  /-- a tuple (never changes) -/
  | tup (xs : List V)
  /-- a dict whose keys are ints and texts; one whose keys are tuples of ints and texts (the empty one is both) -/
  | dK (kvs : List (Key × V)) | dT (kvs : List (List Key × V))
  /-- a set of ints: its members, its size -/
  | set (S : Int → Bool) (n : Nat)
  /-- an instance of the class at C, its dict at dx, its attributes -/
  | ins (C dx : Addr) (fs : List (Str × V))
  /-- the dict of the instance at x -/
  | own (x : Addr)
  /-- the dict of an exception -/
  | xd (fs : List (Str × V))
  /-- a bound method, f of x -/
  | met (f x : Addr)
  /-- a range object lo, lo + 1, .. below hi -/
  | rng (lo hi : Int)
  /-- a thing that is known to the object (the script; a dict while a loop walks it): read, never written while it is so -/
  | frz (o : Obj) (u : HO)
  /-- a code object's table -/
  | tbl (ps : Array Value)
  /-- any other thing, by what is true of its one object (a def of one's own: SetO a S n := HO.ext fun h => ..) -/
  | ext (φ : Heap → Prop)

noncomputable abbrev Hp := Addr → Option HO
noncomputable def upd (H : Hp) (a : Addr) (o : HO) : Hp := fun b => if b = a then some o else H b
theorem upd_same {H : Hp} {a : Addr} {o : HO} : upd H a o a = some o := by unfold upd; rw [if_pos rfl]
theorem upd_ne {H : Hp} {a b : Addr} {o : HO} (h : b ≠ a) : upd H a o b = H b := by unfold upd; rw [if_neg h]
theorem upd_upd {H : Hp} {a : Addr} {o u : HO} : upd (upd H a o) a u = upd H a u := by
  funext b; unfold upd; split <;> rfl
/-- two objects of different content stand apart -/
theorem ne_of {H : Hp} {a b : Addr} {o u : HO} (h : H a = some o) (h' : H b = some u) (d : o ≠ u) : a ≠ b := by
  intro e; subst e; rw [h] at h'; exact d (Option.some.inj h')
theorem ne_of_none {H : Hp} {a b : Addr} {o : HO} (h : H a = some o) (h' : H b = none) : a ≠ b := by
  intro e; subst e; rw [h] at h'; cases h'

section
variable (P : Program) (w : World)
noncomputable def ObjOk (H : Hp) (h : Heap) (a : Addr) : HO → Prop
  | .lst xs => xs.length ≤ sizeLine ∧ ∃ (its : List Value) (n : Nat), Vals xs its ∧ h.get? a = some { cls := .type "list", data := .seq its.toArray n }
  | .tup xs => xs.length ≤ sizeLine ∧ ∃ its : List Value, Vals xs its ∧ IsTup h a its.toArray
  | .dK kvs => kvs.length ≤ sizeLine ∧ (a == sysModules) = false ∧ ∃ vs, KV kvs vs ∧ h.DictOf (mixKind P w) a vs
  | .dT kvs => kvs.length ≤ sizeLine ∧ (a == sysModules) = false ∧ ∃ xs : List (List Key × Addr × Value),
      Paired (fun (p : List Key × V) (q : List Key × Addr × Value) => p.1 = q.1 ∧ H q.2.1 = some (.tup (p.1.map kV)) ∧ RelV p.2 q.2.2) kvs xs ∧
      ∃ o es ep, h.get? a = some o ∧ o.ExactDict ∧ o.data = .dict es ep ∧ es.toList = xs.map (entryOfKey (tupleKind (mixKind P w))) ∧ (xs.map (·.1)).Nodup
  | .set S n => h.SetOf (intKind P w) a S n
  | .ins C dx fs => H dx = some (.own a) ∧ fs.length ≤ 1000 ∧ dx ≠ a ∧ h.get? a = some (PySem.W.instObj C dx) ∧
      ∃ mA, h.Ns1 dx mA ∧ (∀ f, RelO (fs.lookup f) (mA f)) ∧ PySem.Within mA (fs.map (·.1))
  | .own _ => ∃ o, h.get? a = some o
  | .xd fs => ∃ mA, h.Ns1 a mA ∧ ∀ f, RelO (fs.lookup f) (mA f)
  | .rng lo hi => ∃ t u v, h.get? a = some { cls := .type "range", data := .fields #[.int lo t, .int hi u, .int 1 v] }
  | .frz o u => h.get? a = some o ∧ ObjOk H h a u
  | .tbl ps => h.get? a = some { cls := .none, data := .fields ps }
  | .met f x => h.get? a = some (PySem.W.methodObj (.ref f) (.ref x))
  | .ext φ => φ h ∧ (∃ o, h.get? a = some o) ∧ ∀ h1 h2 : Heap, φ h1 → (∀ o, h1.get? a = some o → h2.get? a = some o) → φ h2
/-- the abstract heap is held -/
noncomputable def HOk (H : Hp) (h : Heap) : Prop := ∀ a o, H a = some o → ObjOk P w H h a o
end

section
variable {P : Program} {w : World} {H H' : Hp} {h h' : Heap} {a : Addr} {o : HO}
theorem ObjOk.lt (x : ObjOk P w H h a o) : a < h.objs.size := by
  cases o with
  | lst xs => obtain ⟨_, _, _, _, e⟩ := x; exact Heap.lt_size e
  | tup xs => obtain ⟨_, _, _, p⟩ := x; exact p.lt
  | dK kvs => obtain ⟨_, _, _, _, o, _, _, e, _⟩ := x; exact Heap.lt_size e
  | dT kvs => obtain ⟨_, _, _, _, o, _, _, e, _⟩ := x; exact Heap.lt_size e
  | set S n => obtain ⟨o, _, _, _, e, _⟩ := x; exact Heap.lt_size e
  | ins C dx fs => obtain ⟨_, _, _, e, _⟩ := x; exact Heap.lt_size e
  | own y => obtain ⟨_, e⟩ := x; exact Heap.lt_size e
  | xd fs => obtain ⟨_, ⟨_, _, _, e, _⟩, _⟩ := x; exact Heap.lt_size e
  | rng lo hi => obtain ⟨_, _, _, e⟩ := x; exact Heap.lt_size e
  | frz ob u => obtain ⟨e, _⟩ := x; exact Heap.lt_size e
  | tbl ps => exact Heap.lt_size (show h.get? a = some _ from x)
  | met f y => exact Heap.lt_size (show h.get? a = some _ from x)
  | ext φ => obtain ⟨_, ⟨_, e⟩, _⟩ := x; exact Heap.lt_size e
theorem Paired.mapP {α β : Type} {F G : α → β → Prop} : ∀ {l₁ : List α} {l₂ : List β}, Paired F l₁ l₂ → (∀ a b, F a b → G a b) → Paired G l₁ l₂
  | _, _, .nil, _ => .nil
  | _, _, .cons r t, f => .cons (f _ _ r) (Paired.mapP t f)
/-- what an object's description leans on: its own object, its own dict, the tuples -/
theorem ObjOk.stay (x : ObjOk P w H h a o) (k : ∀ b u, (b = a ∨ H b = some (.own a)) → h.get? b = some u → h'.get? b = some u)
    (ho : ∀ b, H b = some (.own a) → H' b = some (.own a)) (ht : ∀ b xs, H b = some (.tup xs) → H' b = some (.tup xs)) : ObjOk P w H' h' a o := by
  induction o with
  | lst xs => obtain ⟨z, its, n, r, e⟩ := x; exact ⟨z, its, n, r, k _ _ (.inl rfl) e⟩
  | tup xs => obtain ⟨z, its, r, ob, e, c⟩ := x; exact ⟨z, its, r, ob, k _ _ (.inl rfl) e, c⟩
  | dK kvs => obtain ⟨z, y, vs, r, ob, es, ep, e, c⟩ := x; exact ⟨z, y, vs, r, ob, es, ep, k _ _ (.inl rfl) e, c⟩
  | dT kvs =>
    obtain ⟨z, y, xs, r, ob, es, ep, e, c⟩ := x
    exact ⟨z, y, xs, Paired.mapP r fun p q z => ⟨z.1, ht _ _ z.2.1, z.2.2⟩, ob, es, ep, k _ _ (.inl rfl) e, c⟩
  | set S n => obtain ⟨ob, es, ep, t, e, c⟩ := x; exact ⟨ob, es, ep, t, k _ _ (.inl rfl) e, c⟩
  | ins C dx fs =>
    obtain ⟨d, z, ne, e, mA, ⟨od, es, ep, e2, c⟩, r⟩ := x
    exact ⟨ho _ d, z, ne, k _ _ (.inl rfl) e, mA, ⟨od, es, ep, k _ _ (.inr d) e2, c⟩, r⟩
  | own y => obtain ⟨ob, e⟩ := x; exact ⟨ob, k _ _ (.inl rfl) e⟩
  | xd fs => obtain ⟨mA, ⟨od, es, ep, e, c⟩, r⟩ := x; exact ⟨mA, ⟨od, es, ep, k _ _ (.inl rfl) e, c⟩, r⟩
  | rng lo hi => obtain ⟨t, u, v, e⟩ := x; exact ⟨t, u, v, k _ _ (.inl rfl) e⟩
  | frz ob u ih => obtain ⟨e, q⟩ := x; exact ⟨k _ _ (.inl rfl) e, ih q⟩
  | tbl ps =>
    have e : h.get? a = some { cls := .none, data := .fields ps } := x
    show h'.get? a = some { cls := .none, data := .fields ps }
    exact k a _ (.inl rfl) e
  | met f y =>
    have e : h.get? a = some (PySem.W.methodObj (.ref f) (.ref y)) := x
    show h'.get? a = some (PySem.W.methodObj (.ref f) (.ref y))
    exact k a _ (.inl rfl) e
  | ext φ => obtain ⟨p, ⟨o, e⟩, st⟩ := x; exact ⟨st _ _ p fun o q => k _ _ (.inl rfl) q, ⟨o, k _ _ (.inl rfl) e⟩, st⟩
theorem HOk.lt (x : HOk P w H h) (e : H a = some o) : a < h.objs.size := (x a o e).lt
theorem HOk.fresh (x : HOk P w H h) (e : h.objs.size ≤ a) : H a = none := by
  cases q : H a with
  | none => rfl
  | some u => exact absurd (Nat.lt_of_lt_of_le (x.lt q) e) (Nat.lt_irrefl _)
/-- every object of the heap is kept -/
theorem HOk.kept (x : HOk P w H h) (k : ∀ b u, h.get? b = some u → h'.get? b = some u) : HOk P w H h' := fun a o e =>
  (x a o e).stay (fun b u _ q => k b u q) (fun _ q => q) fun _ _ q => q
/-- a new object is laid and tracked -/
theorem HOk.laid (x : HOk P w H h) (k : ∀ b u, h.get? b = some u → h'.get? b = some u) (hp : h.objs.size ≤ a) (new : ObjOk P w (upd H a o) h' a o) : HOk P w (upd H a o) h' := fun b u e => by
  have hn := x.fresh hp
  by_cases hb : b = a
  · subst hb; rw [upd_same] at e; cases e; exact new
  · rw [upd_ne hb] at e
    exact (x b u e).stay (fun c v _ q => k c v q) (fun c q => by rw [upd_ne (ne_of_none q hn)]; exact q) fun c xs q => by rw [upd_ne (ne_of_none q hn)]; exact q
end

/-- what may be read as u: it is u, or a known u -/
noncomputable def Rd (H : Hp) (a : Addr) (u : HO) : Prop := H a = some u ∨ ∃ o, H a = some (.frz o u)
theorem Rd.ok {P : Program} {w : World} {H : Hp} {h : Heap} {a : Addr} {u : HO} (r : Rd H a u) (x : HOk P w H h) : ObjOk P w H h a u := by
  rcases r with r | ⟨o, r⟩
  · exact x a u r
  · obtain ⟨_, q⟩ := x a _ r
    exact q
/-- what may be written -/
noncomputable def Mut : Option HO → Prop
  | some (.lst _) => True
  | some (.dK _) => True
  | some (.dT _) => True
  | some (.set _ _) => True
  | some (.ins _ _ _) => True
  | some (.ext _) => True
  | _ => False
section
variable {P : Program} {w : World} {H : Hp} {h h' : Heap} {x e : Addr} {o' : HO}
/-- the object at e is changed: x itself, or the dict of the instance x -/
theorem HOk.write (ok : HOk P w H h) (mu : Mut (H x)) (he : e = x ∨ H e = some (.own x)) (k : ∀ b u, b ≠ e → h.get? b = some u → h'.get? b = some u) (heo : ∃ u, h'.get? e = some u)
    (new : ObjOk P w (upd H x o') h' x o') : HOk P w (upd H x o') h' := fun b u q => by
  have nown : ∀ c y, H c = some (.own y) → c ≠ x := fun c y r z => by subst z; rw [r] at mu; exact mu
  have ntup : ∀ c xs, H c = some (.tup xs) → c ≠ x := fun c xs r z => by subst z; rw [r] at mu; exact mu
  by_cases hb : b = x
  · subst hb; rw [upd_same] at q; cases q; exact new
  · rw [upd_ne hb] at q
    by_cases hbe : b = e
    · have q' : H b = some (.own x) := by
        rcases he with z | z
        · exact absurd (hbe.trans z) hb
        · rw [hbe]; exact z
      rw [q] at q'; cases q'
      obtain ⟨v, hv⟩ := heo
      exact ⟨v, by rw [hbe]; exact hv⟩
    · refine (ok b u q).stay (fun c v hc r => k c v ?_ r) (fun c r => by rw [upd_ne (nown c b r)]; exact r) fun c xs r => by rw [upd_ne (ntup c xs r)]; exact r
      rcases hc with rfl | hc
      · exact hbe
      · rintro rfl
        rcases he with z | z
        · exact nown c b hc z
        · rw [hc] at z; cases z; exact hb rfl
end

/-! ### kept unless tracked; of the frames at fs (the callers') the slots may change (an exception that passes writes there); of the records at ex (iterators) nothing is said -/
structure Un (fs ex : List Addr) (H H' : Hp) (h h' : Heap) : Prop where
  keep : ∀ b o, h.get? b = some o → H b = none → b ∉ fs → b ∉ ex → h'.get? b = some o
  slot : ∀ b o, h.get? b = some o → H b = none → b ∈ fs → b ∉ ex → ∃ sl, h'.get? b = some { o with slots := sl }
  free : ∀ b o, h.get? b = some o → H b = none → b ∉ ex → H' b = none
  there : ∀ b o, h.get? b = some o → b ∉ ex → ∃ o', h'.get? b = some o'
  tups : ∀ b xs, H b = some (.tup xs) → H' b = some (.tup xs)
  frzs : ∀ b o u, H b = some (.frz o u) → H' b = some (.frz o u)
  tbls : ∀ b ps, H b = some (.tbl ps) → ∃ more, H' b = some (.tbl (ps ++ more))
section
variable {fs fs' ex ex' : List Addr} {H H1 H2 : Hp} {h h1 h2 h' : Heap} {a x e : Addr} {o : HO}
theorem Un.any (u : Un fs ex H H1 h h1) {b : Addr} {ob : Obj} (q : h.get? b = some ob) (n : H b = none) (hx : b ∉ ex) : ∃ sl, h1.get? b = some { ob with slots := sl } := by
  by_cases hb : b ∈ fs
  · exact u.slot b ob q n hb hx
  · exact ⟨ob.slots, u.keep b ob q n hb hx⟩
theorem Un.kept (k : ∀ b u, h.get? b = some u → h'.get? b = some u) : Un fs ex H H h h' :=
  ⟨fun b ob q _ _ _ => k b ob q, fun b ob q _ _ _ => ⟨ob.slots, k b ob q⟩, fun _ _ _ n _ => n, fun b ob q _ => ⟨ob, k b ob q⟩, fun _ _ q => q, fun _ _ _ q => q, fun _ ps q => ⟨#[], by rw [q]; simp⟩⟩
theorem Un.refl : Un fs ex H H h h := Un.kept fun _ _ q => q
theorem Un.laid (k : ∀ b u, h.get? b = some u → h'.get? b = some u) (hp : h.objs.size ≤ a) (hn : H a = none) : Un fs ex H (upd H a o) h h' where
  keep := fun b u q _ _ _ => k b u q
  slot := fun b u q _ _ _ => ⟨u.slots, k b u q⟩
  free := fun b u q n _ => by rw [upd_ne (Nat.ne_of_lt (Nat.lt_of_lt_of_le (Heap.lt_size q) hp))]; exact n
  there := fun b u q _ => ⟨u, k b u q⟩
  tups := fun b xs q => by rw [upd_ne (ne_of_none q hn)]; exact q
  frzs := fun b u xs q => by rw [upd_ne (ne_of_none q hn)]; exact q
  tbls := fun b ps q => ⟨#[], by rw [upd_ne (ne_of_none q hn), q]; simp⟩
theorem Un.write (mu : Mut (H x)) (he : e = x ∨ H e = some (.own x)) (k : ∀ b u, b ≠ e → h.get? b = some u → h'.get? b = some u) (heo : ∃ u, h'.get? e = some u) : Un fs ex H (upd H x o) h h' := by
  have hx : ∀ b, H b = none → b ≠ x := fun b n z => by subst z; rw [n] at mu; exact mu
  have hb : ∀ b, H b = none → b ≠ e := fun b n z => by
    subst z
    rcases he with r | r
    · exact hx b n r
    · rw [n] at r; cases r
  have hm : ∀ b u, H b = some u → ¬ Mut (some u) → b ≠ x := fun b u q nm z => by subst z; rw [q] at mu; exact nm mu
  refine ⟨fun b u q n _ _ => k b u (hb b n) q, fun b u q n _ _ => ⟨u.slots, k b u (hb b n) q⟩, fun b u q n _ => by rw [upd_ne (hx b n)]; exact n, fun b u q _ => ?_,
    fun b xs q => by rw [upd_ne (hm b _ q fun z => z)]; exact q, fun b u xs q => by rw [upd_ne (hm b _ q fun z => z)]; exact q, fun b ps q => ⟨#[], by rw [upd_ne (hm b _ q fun z => z), q]; simp⟩⟩
  by_cases hbe : b = e
  · subst hbe; exact heo
  · exact ⟨u, k b u hbe q⟩
end

/-! ### the heap without what is tracked -/
noncomputable def trk (h : Heap) (H : Hp) : List Addr := (List.range h.objs.size).filter fun a => (H a).isSome
noncomputable def hidT (h : Heap) (H : Hp) : Heap := PySem.W.hideAll h (trk h H)
theorem hidT_size (h : Heap) (H : Hp) : (hidT h H).objs.size = h.objs.size := PySem.W.hideAll_size _ _
theorem hidT_get {h : Heap} {H : Hp} {b : Addr} {o : Obj} (e : h.get? b = some o) (n : H b = none) : (hidT h H).get? b = some o :=
  PySem.W.hideAll_get _ e fun hm => by
    have q : (H b).isSome = true := (List.mem_filter.mp hm).2
    rw [n] at q; simp at q
theorem of_hidT {h : Heap} {H : Hp} {b : Addr} {o : Obj} (e : (hidT h H).get? b = some o) : h.get? b = some o ∧ H b = none := by
  have e' : h.get? b = some o := PySem.W.of_hideAll (trk h H) e
  refine ⟨e', ?_⟩
  cases q : H b with
  | none => rfl
  | some x =>
    have hm : b ∈ trk h H := List.mem_filter.mpr ⟨List.mem_range.mpr (Heap.lt_size e'), by simp [q]⟩
    have z : (hidT h H).get? b = none := PySem.W.hideAll_none (trk h H) hm
    rw [z] at e; cases e

/-! ### OpenK's ledger, filled with every new object but one -/
noncomputable def allNews (g h : Heap) (L : Addr) : List (Addr × Obj) := (List.range h.objs.size).filterMap fun a => if a = L ∨ (g.get? a).isSome = true then none else (h.get? a).map fun o => (a, o)
noncomputable def rest (g h : Heap) (L d : Addr) : List (Addr × Obj) := (allNews g h L).filter fun p => decide (p.1 ≠ d)
end L2

namespace L2
open PySem PySem.Spec PyProof.Rows

/-- the module's facts, over the base: the heap at the law's entry without what is tracked there -/
structure Mod (K : PySem.W.Frag) (mg : Str → Option Value) (base : Heap) : Prop where
  kin : K.In base
  glob : base.Ns mainGlobals mg
  blt : ∃ mb, base.Ns builtinsNs mb ∧ ∀ x : Str, x ≠ "__name__" → mb x = bootBuiltins x
  nolimit : base.NoLimit

/-- the context: a def's body (or a comprehension's block) running. base: fixed through the whole law; s₀, H₀: the entry; outer: the frames whose slots others may change (a def's callers); stack: all frames that run;
   ex: iterators that were made ahead of the entry and are walked here (a comprehension's); fn: the names whose cells were made at the entry (a def: all; a comprehension's block: its own); calm: not within an except suite; pn: pins that every state bears; xe: what is wanted of an exception that leaves the code -/
structure Cx where
  prog : Program
  w : World
  K : PySem.W.Frag
  mg : Str → Option Value
  base : Heap
  A : Around
  N : List Str
  s₀ : Shared
  H₀ : Hp
  env : Env
  outer : List Env
  stack : List Env
  ex : List Addr
  fn : Str → Bool
  calm : Bool
  pn : List (Addr × Obj)
  xe : Value → Shared → Prop
/-- the callers' frames -/
noncomputable def frs (l : List Env) : List Addr := l.filterMap (·.frame)
noncomputable abbrev Cx.fs (X : Cx) : List Addr := frs X.outer

noncomputable def Vis (sc : Scope) (x : Str) : Prop := sc.names.lookup x = some .local ∨ sc.names.lookup x = some .cell ∨ sc.names.lookup x = some .free
noncomputable def Loc (sc : Scope) (x : Str) : Prop := sc.names.lookup x = some .local ∨ sc.names.lookup x = some .cell
noncomputable def Look (env : Env) (h : Heap) (m : Str → Option Value) (x : Str) (u : Value) : Prop :=
  (env.kindOf x = some .local ∧ m x = some u) ∨ ((env.kindOf x = some .cell ∨ env.kindOf x = some .free) ∧ ∃ c, env.cells.lookup x = some c ∧ h.IsCell c (some u))

structure Cx.Ok (X : Cx) : Prop where
  mod : Mod X.K X.mg X.base
  kind : X.env.scope.kind = .function
  glob : X.env.globals = mainGlobals
  blt : X.env.builtins = builtinsNs
  above : X.s₀.heap.objs.size ≤ X.env.locals
  inj : ∀ x y c, X.env.cells.lookup x = some c → X.env.cells.lookup y = some c → x = y
  has : ∀ x, (X.env.kindOf x = some .cell ∨ X.env.kindOf x = some .free) → ∃ c, X.env.cells.lookup x = some c
  cab : ∀ x c, X.fn x = true → X.env.cells.lookup x = some c → X.s₀.heap.objs.size ≤ c
  hd : X.calm = true → X.A.handled = none
  frames : X.A.frames = some X.stack
  stk : X.stack = X.outer ∨ (X.stack = X.env :: X.outer ∧ X.env.frame = some X.env.locals)
  exf : ∀ b ∈ X.ex, b ≠ X.env.locals ∧ ∀ x c, X.env.cells.lookup x = some c → c ≠ b
  bs : ∀ b o, X.base.get? b = some o → X.s₀.heap.get? b = some o ∧ X.H₀ b = none
  bsz : X.base.objs.size ≤ X.s₀.heap.objs.size
  noex : ∀ b o, X.base.get? b = some o → b ∉ X.ex
  exfs : ∀ b ∈ X.ex, b ∉ X.fs
  funs : X.s₀.heap.FunFrames X.base X.outer
  frf : ∀ b ∈ X.fs, X.H₀ b = none

structure Inv (X : Cx) (pins : List (Addr × Obj)) (σ : List (Option V)) (H : Hp) (s : Shared) : Prop where
  ok : X.Ok
  os : s.os = X.s₀.os
  bare : AllBare s.gens
  base : Un X.fs X.ex X.H₀ H X.s₀.heap s.heap
  loc : ∃ m, s.heap.Ns X.env.locals m ∧ ∀ (i : Nat) (x : Str) (v : V), X.N[i]? = some x → σ[i]? = some (some v) → Vis X.env.scope x → ∃ u, RelV v u ∧ Look X.env s.heap m x u
  cell : ∀ x c, X.env.cells.lookup x = some c → ∃ v, s.heap.IsCell c v
  free : H X.env.locals = none
  freeC : ∀ x c, X.env.cells.lookup x = some c → H c = none
  pin : ∀ p ∈ X.pn ++ pins, s.heap.get? p.1 = some p.2 ∧ H p.1 = none ∧ p.1 ≠ X.env.locals ∧ p.1 ∉ X.fs ∧ ∀ v, p.2.data ≠ .cell v
  hok : HOk X.prog X.w H s.heap
  len : σ.length = X.N.length

section
variable {X : Cx} {pins : List (Addr × Obj)} {σ : List (Option V)} {H H' : Hp} {s : Shared} {h' : Heap}

theorem Cx.Ok.nofr (ok : X.Ok) {b : Addr} {o : Obj} (e : X.base.get? b = some o) : b ∉ X.fs := fun hb => by
  have := (ok.funs.mem hb).1
  rw [e] at this; cases this
theorem Inv.bs (I : Inv X pins σ H s) : ∀ b o, X.base.get? b = some o → s.heap.get? b = some o ∧ H b = none := fun b o e =>
  ⟨I.base.keep b o (I.ok.bs b o e).1 (I.ok.bs b o e).2 (I.ok.nofr e) (I.ok.noex b o e), I.base.free b o (I.ok.bs b o e).1 (I.ok.bs b o e).2 (I.ok.noex b o e)⟩
theorem Inv.bk (I : Inv X pins σ H s) : ∀ b o, X.base.get? b = some o → s.heap.get? b = some o := fun b o e => (I.bs b o e).1
theorem Inv.mod (I : Inv X pins σ H s) : Mod X.K X.mg X.base := I.ok.mod
theorem Inv.kIn (I : Inv X pins σ H s) : X.K.In s.heap := I.ok.mod.kin.keeps I.bk
theorem Inv.lt (I : Inv X pins σ H s) : X.env.locals < s.heap.objs.size := let ⟨_, hn, _⟩ := I.loc; hn.lt
theorem Inv.sz (I : Inv X pins σ H s) : X.s₀.heap.objs.size ≤ s.heap.objs.size := Nat.le_trans I.ok.above (Nat.le_of_lt I.lt)
theorem Inv.nofs (I : Inv X pins σ H s) {a : Addr} (h : s.heap.objs.size ≤ a) : a ∉ X.fs := fun hb => by
  obtain ⟨_, o, ho, _⟩ := I.ok.funs.mem hb
  exact absurd (Nat.lt_of_lt_of_le (Heap.lt_size ho) (Nat.le_trans I.sz h)) (Nat.lt_irrefl _)
theorem Inv.cne (I : Inv X pins σ H s) : ∀ x c, X.env.cells.lookup x = some c → c ≠ X.env.locals := fun x c e z => by
  obtain ⟨v, o, ho, hd⟩ := I.cell x c e
  obtain ⟨m, ⟨o', es, ep, ho', hd', _⟩, _⟩ := I.loc
  rw [z, ho'] at ho; cases ho; rw [hd'] at hd; cases hd
theorem Inv.funs (I : Inv X pins σ H s) : s.heap.FunFrames X.base X.outer := by
  have all : ∀ (l : List Env), (∀ b ∈ frs l, b ∈ X.fs) → X.s₀.heap.FunFrames X.base l → s.heap.FunFrames X.base l := by
    intro l
    induction l with
    | nil => intro _ _; trivial
    | cons env r ih =>
      intro hs hl
      obtain ⟨hk, ⟨L, o, hf, hn, ho, hd⟩, hr⟩ := hl
      have hL : L ∈ X.fs := hs L (by unfold frs; rw [List.filterMap_cons, hf]; exact List.mem_cons_self)
      obtain ⟨sl, e⟩ := I.base.slot L o ho (I.ok.frf L hL) hL fun z => I.ok.exfs L z hL
      exact ⟨hk, ⟨L, _, hf, hn, e, hd⟩, ih (fun b hb => hs b (by unfold frs; rw [List.filterMap_cons, hf]; exact List.mem_cons_of_mem _ hb)) hr⟩
  exact all X.outer (fun _ hb => hb) I.ok.funs

/-- the frames that run, for a call -/
theorem Inv.stack (I : Inv X pins σ H s) : s.heap.FunFrames X.base X.stack := by
  rcases I.ok.stk with e | ⟨e, hf⟩
  · rw [e]; exact I.funs
  · rw [e]
    obtain ⟨m, hn, _⟩ := I.loc
    refine .cons (by rw [I.ok.kind]; decide) hf hn ?_ I.funs
    exact Heap.get?_none_of_le (Nat.le_trans I.ok.bsz I.ok.above)
theorem Inv.stkSub (I : Inv X pins σ H s) : ∀ b ∈ frs X.stack, b ∈ X.env.locals :: X.fs := fun b hb => by
  rcases I.ok.stk with e | ⟨e, hf⟩
  · rw [e] at hb; exact List.mem_cons_of_mem _ hb
  · rw [e] at hb
    unfold frs at hb
    rw [List.filterMap_cons, hf] at hb
    exact hb
theorem Inv.stkFree (I : Inv X pins σ H s) : ∀ b ∈ frs X.stack, H b = none := fun b hb => by
  rcases List.mem_cons.mp (I.stkSub b hb) with e | hb
  · rw [e]; exact I.free
  · obtain ⟨_, o, ho, _⟩ := I.ok.funs.mem hb
    exact I.base.free b o ho (I.ok.frf b hb) fun z => I.ok.exfs b z hb

/-- THE STEP: the untracked objects but the frame and the records at ch are kept (the callers' frames up to slots), the frame's map is kept, the new abstract heap is held -/
theorem Inv.step {g' : Array GenState} {t' : Nat} {d' : Drawn} {ch : List Addr} (I : Inv X pins σ H s)
    (hch : ∀ b ∈ ch, (b ∈ X.ex ∨ X.s₀.heap.objs.size ≤ b) ∧ b ≠ X.env.locals ∧ (∀ x c, X.env.cells.lookup x = some c → c ≠ b) ∧ ∀ p ∈ X.pn ++ pins, p.1 ≠ b)
    (keep : ∀ b o, b ≠ X.env.locals → b ∉ X.fs → b ∉ ch → s.heap.get? b = some o → H b = none → h'.get? b = some o)
    (slot : ∀ b o, b ≠ X.env.locals → b ∈ X.fs → b ∉ ch → s.heap.get? b = some o → H b = none → ∃ sl, h'.get? b = some { o with slots := sl }) (free : ∀ b o, b ∉ ch → s.heap.get? b = some o → H b = none → H' b = none)
    (there : ∀ b o, b ∉ ch → s.heap.get? b = some o → ∃ o', h'.get? b = some o')
    (tups : ∀ b xs, H b = some (.tup xs) → H' b = some (.tup xs)) (frzs : ∀ b o u, H b = some (.frz o u) → H' b = some (.frz o u)) (tbls : ∀ b ps, H b = some (.tbl ps) → ∃ more, H' b = some (.tbl (ps ++ more)))
    (ns : ∀ m, s.heap.Ns X.env.locals m → h'.Ns X.env.locals m) (hok : HOk X.prog X.w H' h') (hg : AllBare g') :
    Inv X pins σ H' { s with heap := h', gens := g', drawn := d', toks := t' } := by
  have neL : ∀ b o, X.s₀.heap.get? b = some o → b ≠ X.env.locals := fun b o e => Nat.ne_of_lt (Nat.lt_of_lt_of_le (Heap.lt_size e) I.ok.above)
  have neC : ∀ b o, X.s₀.heap.get? b = some o → b ∉ X.ex → b ∉ ch := fun b o e hx hb => by
    rcases (hch b hb).1 with z | z
    · exact hx z
    · exact absurd (Nat.lt_of_lt_of_le (Heap.lt_size e) z) (Nat.lt_irrefl _)
  have cellK : ∀ x c, X.env.cells.lookup x = some c → ∀ v, s.heap.IsCell c v → h'.IsCell c v := fun x c e v ⟨o, ho, hd⟩ => by
    have nch : c ∉ ch := fun z => (hch c z).2.2.1 x c e rfl
    by_cases hc : c ∈ X.fs
    · obtain ⟨sl, q⟩ := slot c o (I.cne x c e) hc nch ho (I.freeC x c e)
      exact ⟨_, q, hd⟩
    · exact ⟨o, keep c o (I.cne x c e) hc nch ho (I.freeC x c e), hd⟩
  refine ⟨I.ok, I.os, hg, ⟨fun b o e n hb hx => ?_, fun b o e n hb hx => ?_, fun b o e n hx => ?_, fun b o e hx => ?_, fun b xs e => tups b xs (I.base.tups b xs e), fun b o xs e => frzs b o xs (I.base.frzs b o xs e), fun b ps e => ?_⟩, ?_, fun x c e => ?_, ?_, fun x c e => ?_, fun p hp => ?_, hok, I.len⟩
  · exact keep b o (neL b o e) hb (neC b o e hx) (I.base.keep b o e n hb hx) (I.base.free b o e n hx)
  · obtain ⟨sl, e1⟩ := I.base.slot b o e n hb hx
    obtain ⟨sl', e2⟩ := slot b _ (neL b o e) hb (neC b o e hx) e1 (I.base.free b o e n hx)
    exact ⟨sl', e2⟩
  · obtain ⟨o', e1⟩ := I.base.there b o e hx
    exact free b o' (neC b o e hx) e1 (I.base.free b o e n hx)
  · obtain ⟨o', e1⟩ := I.base.there b o e hx
    exact there b o' (neC b o e hx) e1
  · obtain ⟨m1, e1⟩ := I.base.tbls b ps e
    obtain ⟨m2, e2⟩ := tbls b _ e1
    exact ⟨m1 ++ m2, by rw [e2, Array.append_assoc]⟩
  · obtain ⟨m, hn, hl⟩ := I.loc
    refine ⟨m, ns m hn, fun i x v e1 e2 e3 => ?_⟩
    obtain ⟨u, r, l⟩ := hl i x v e1 e2 e3
    refine ⟨u, r, ?_⟩
    rcases l with l | ⟨k, c, e, z⟩
    · exact .inl l
    · exact .inr ⟨k, c, e, cellK x c e _ z⟩
  · obtain ⟨v, z⟩ := I.cell x c e
    exact ⟨v, cellK x c e v z⟩
  · obtain ⟨m, ⟨o, _, _, ho, _⟩, _⟩ := I.loc
    exact free _ o (fun z => (hch _ z).2.1 rfl) ho I.free
  · obtain ⟨v, o, ho, hd⟩ := I.cell x c e
    exact free c o (fun z => (hch c z).2.2.1 x c e rfl) ho (I.freeC x c e)
  · obtain ⟨e, n, ne, nf, d⟩ := I.pin p hp
    have nch : p.1 ∉ ch := fun z => (hch p.1 z).2.2.2 p hp rfl
    exact ⟨keep p.1 p.2 ne nf nch e n, free p.1 p.2 nch e n, ne, nf, d⟩
/-- .. where the frame's own object is kept too -/
theorem Inv.un {t' : Nat} (I : Inv X pins σ H s) (u : Un X.fs [] H H' s.heap h') (hok : HOk X.prog X.w H' h') : Inv X pins σ H' { s with heap := h', toks := t' } := by
  obtain ⟨m, ⟨o, es, ep, ho, r⟩, _⟩ := id I.loc
  obtain ⟨sl, hL⟩ := u.any ho I.free (by simp)
  exact I.step (g' := s.gens) (d' := s.drawn) (ch := []) (fun _ z => nomatch z) (fun b o _ hb _ e n => u.keep b o e n hb (by simp)) (fun b o _ hb _ e n => u.slot b o e n hb (by simp)) (fun b o _ e n => u.free b o e n (by simp)) (fun b o _ e => u.there b o e (by simp)) u.tups u.frzs u.tbls (fun m' hm => by
    obtain ⟨o', es', ep', ho', r'⟩ := hm
    rw [ho] at ho'; cases ho'
    exact ⟨_, es', ep', hL, r'⟩) hok I.bare
/-- behind a call (or a comprehension's block): the slots of this frame may have changed too, the records at ch may have turned -/
theorem Inv.call {g' : Array GenState} {t' : Nat} {d' : Drawn} {ch : List Addr} (I : Inv X pins σ H s) (u : Un (frs X.stack) ch H H' s.heap h') (hok : HOk X.prog X.w H' h') (hg : AllBare g')
    (hch : ∀ b ∈ ch, (b ∈ X.ex ∨ X.s₀.heap.objs.size ≤ b) ∧ b ≠ X.env.locals ∧ (∀ x c, X.env.cells.lookup x = some c → c ≠ b) ∧ ∀ p ∈ X.pn ++ pins, p.1 ≠ b) :
    Inv X pins σ H' { s with heap := h', gens := g', drawn := d', toks := t' } := by
  obtain ⟨m, ⟨o, es, ep, ho, r⟩, _⟩ := id I.loc
  obtain ⟨sl, hL⟩ := u.any ho I.free fun z => (hch _ z).2.1 rfl
  exact I.step (ch := ch) hch (fun b o hL hb hc e n => u.keep b o e n (fun z => (List.mem_cons.mp (I.stkSub b z)).elim hL hb) hc) (fun b o _ _ hc e n => u.any e n hc) (fun b o hc e n => u.free b o e n hc) (fun b o hc e => u.there b o e hc) u.tups u.frzs u.tbls (fun m' hm => by
    obtain ⟨o', es', ep', ho', r'⟩ := hm
    rw [ho] at ho'; cases ho'
    exact ⟨_, es', ep', hL, r'⟩) hok hg
/-- an untracked record of ours (an iterator) has turned -/
theorem Inv.turned {t' : Nat} {it : Addr} (I : Inv X pins σ H s) (k : ∀ b o, b ≠ it → s.heap.get? b = some o → h'.get? b = some o) (hn : H it = none) (hL : it ≠ X.env.locals)
    (h1 : it ∈ X.ex ∨ X.s₀.heap.objs.size ≤ it) (h2 : ∀ x c, X.env.cells.lookup x = some c → c ≠ it) (h3 : ∀ p ∈ X.pn ++ pins, p.1 ≠ it) : Inv X pins σ H { s with heap := h', toks := t' } := by
  have nit : ∀ b u, H b = some u → b ≠ it := fun b u e z => by rw [z, hn] at e; cases e
  refine I.step (g' := s.gens) (d' := s.drawn) (ch := [it]) (fun b hb => ?_) (fun b o _ _ hc e _ => k b o (fun z => hc (by simp [z])) e) (fun b o _ _ hc e _ => ⟨o.slots, k b o (fun z => hc (by simp [z])) e⟩) (fun _ _ _ _ n => n)
    (fun b o hc e => ⟨o, k b o (fun z => hc (by simp [z])) e⟩) (fun _ _ e => e) (fun _ _ _ e => e) (fun b ps e => ⟨#[], by rw [e]; simp⟩) (fun m hm => ?_) (fun b u e => ?_) I.bare
  · have e : b = it := by simpa using hb
    subst e
    exact ⟨h1, hL, h2, h3⟩
  · obtain ⟨o, es, ep, ho, r⟩ := hm
    exact ⟨o, es, ep, k _ o (Ne.symm hL) ho, r⟩
  · refine (I.hok b u e).stay (fun c v hc q => k c v ?_ q) (fun _ q => q) fun _ _ q => q
    rcases hc with z | z
    · rw [z]; exact nit b u e
    · exact nit c _ z
theorem Inv.tok (I : Inv X pins σ H s) (t : Nat) : Inv X pins σ H { s with toks := t } := I.un (h' := s.heap) (t' := t) Un.refl I.hok
/-- all objects kept -/
theorem Inv.kept {t' : Nat} (I : Inv X pins σ H s) (k : ∀ b u, s.heap.get? b = some u → h'.get? b = some u) : Inv X pins σ H { s with heap := h', toks := t' } := I.un (Un.kept k) (I.hok.kept k)
/-- a new object laid and tracked -/
theorem Inv.laid {a : Addr} {o : HO} {t' : Nat} (I : Inv X pins σ H s) (k : ∀ b u, s.heap.get? b = some u → h'.get? b = some u) (hp : s.heap.objs.size ≤ a) (new : ObjOk X.prog X.w (upd H a o) h' a o) :
    Inv X pins σ (upd H a o) { s with heap := h', toks := t' } := I.un (Un.laid k hp (I.hok.fresh hp)) (I.hok.laid k hp new)
/-- an object written -/
theorem Inv.write {x e : Addr} {o : HO} {t' : Nat} (I : Inv X pins σ H s) (mu : Mut (H x)) (he : e = x ∨ H e = some (.own x)) (k : ∀ b u, b ≠ e → s.heap.get? b = some u → h'.get? b = some u) (heo : ∃ u, h'.get? e = some u)
    (new : ObjOk X.prog X.w (upd H x o) h' x o) : Inv X pins σ (upd H x o) { s with heap := h', toks := t' } := I.un (Un.write mu he k heo) (I.hok.write mu he k heo new)
theorem Inv.pins_of {pins' : List (Addr × Obj)} (I : Inv X pins σ H s) (h : ∀ p ∈ pins', s.heap.get? p.1 = some p.2 ∧ H p.1 = none ∧ p.1 ≠ X.env.locals ∧ p.1 ∉ X.fs ∧ ∀ v, p.2.data ≠ .cell v) : Inv X pins' σ H s :=
  ⟨I.ok, I.os, I.bare, I.base, I.loc, I.cell, I.free, I.freeC, fun p hp => (List.mem_append.mp hp).elim (fun z => I.pin p (List.mem_append_left _ z)) (h p), I.hok, I.len⟩

theorem nodup_ix {N : List Str} (hN : N.Nodup) {i j : Nat} {x : Str} (a : N[i]? = some x) (b : N[j]? = some x) : i = j := by
  obtain ⟨h1, e1⟩ := List.getElem?_eq_some_iff.mp a
  obtain ⟨h2, e2⟩ := List.getElem?_eq_some_iff.mp b
  exact (List.getElem_inj hN).mp (e1.trans e2.symm)

/-- a name is stored; what changed -/
theorem store_ok2 {M : Model} {A : Around} {E : Value → Shared → Prop} {i : Nat} {x : Str} {v : V} {u : Value} {Q : Unit → Shared → Prop} (I : Inv X pins σ H s) (hN : X.N.Nodup) (hi : X.N[i]? = some x) (hx : Loc X.env.scope x) (r : RelV v u)
    (h : ∀ s', Inv X pins (σ.set i (some v)) H s' → (∃ a, Heap.SameBut a s.heap s'.heap ∧ (a = X.env.locals ∨ X.env.cells.lookup x = some a)) → Q () s') (hf : X.fn x = true ∨ X.env.scope.names.lookup x = some .local := by first | exact .inl rfl | exact .inr rfl | assumption) : wpAny M A (storeName X.env x u) Q E s := by
  obtain ⟨m, hn, hl⟩ := id I.loc
  have hcls : (X.env.scope.kind == .class || (X.env.scope.kind == .module && X.env.locals != X.env.globals)) = false := by rw [I.ok.kind]; rfl
  have hiσ : i < σ.length := by rw [I.len]; exact (List.getElem?_eq_some_iff.mp hi).1
  have cne := I.cne
  have tracked : ∀ {a : Addr} {h' : Heap}, (∃ o, s.heap.get? a = some o ∧ H a = none) → Heap.SameBut a s.heap h' → HOk X.prog X.w H h' := fun {a h'} ha hs b ob e => by
    obtain ⟨_, _, hfree⟩ := ha
    refine (I.hok b ob e).stay (fun c w' hc q => (hs.2 c ?_).trans q) (fun _ q => q) fun _ _ q => q
    rintro rfl
    rcases hc with rfl | hc
    · rw [hfree] at e; cases e
    · rw [hfree] at hc; cases hc
  rcases hx with hk | hk
  · refine wpAny_storeName_local hk hn (fun h' hn' hs => ?_) hcls
    obtain ⟨oL, _, _, hoL, _⟩ := id hn
    refine h _ ⟨I.ok, I.os, I.bare, ⟨fun b o e n hb hx => ?_, fun b o e n hb hx => ?_, I.base.free, fun b o e hx => ?_, I.base.tups, I.base.frzs, I.base.tbls⟩, ⟨_, hn', fun j y v' e1 e2 e3 => ?_⟩, fun y c e => ?_, I.free, I.freeC, fun p hp => ?_, tracked ⟨oL, hoL, I.free⟩ hs, by simpa using I.len⟩ ⟨_, hs, .inl rfl⟩
    · exact (hs.2 b (Nat.ne_of_lt (Nat.lt_of_lt_of_le (Heap.lt_size e) I.ok.above))).trans (I.base.keep b o e n hb hx)
    · obtain ⟨sl, e1⟩ := I.base.slot b o e n hb hx
      exact ⟨sl, (hs.2 b (Nat.ne_of_lt (Nat.lt_of_lt_of_le (Heap.lt_size e) I.ok.above))).trans e1⟩
    · obtain ⟨o', e1⟩ := I.base.there b o e hx
      exact ⟨o', (hs.2 b (Nat.ne_of_lt (Nat.lt_of_lt_of_le (Heap.lt_size e) I.ok.above))).trans e1⟩
    · by_cases hj : j = i
      · subst hj
        rw [hi] at e1; cases e1
        rw [List.getElem?_set_self hiσ] at e2
        cases e2
        exact ⟨u, r, .inl ⟨hk, by simp⟩⟩
      · rw [List.getElem?_set_ne (Ne.symm hj)] at e2
        obtain ⟨u', r', q⟩ := hl j y v' e1 e2 e3
        refine ⟨u', r', ?_⟩
        rcases q with ⟨k, e⟩ | ⟨k, c, e, z⟩
        · refine .inl ⟨k, ?_⟩
          have : y ≠ x := fun e => hj (nodup_ix hN e1 (e ▸ hi))
          simp [this, e]
        · exact .inr ⟨k, c, e, z.sameBut hs (cne y c e)⟩
    · obtain ⟨w', z⟩ := I.cell y c e
      exact ⟨w', z.sameBut hs (cne y c e)⟩
    · obtain ⟨e, n, ne, nf, d⟩ := I.pin p hp
      exact ⟨(hs.2 p.1 ne).trans e, n, ne, nf, d⟩
  · have hfn : X.fn x = true := by
      rcases hf with z | z
      · exact z
      · rw [z] at hk; cases hk
    obtain ⟨c, hc⟩ := I.ok.has x (.inl hk)
    obtain ⟨w', z⟩ := I.cell x c hc
    refine wpAny_storeName_cell I.ok.kind hk hc z (fun h' hc' hs => ?_)
    obtain ⟨oc, hoc, hocd⟩ := id z
    refine h { s with heap := h' } ⟨I.ok, I.os, I.bare, ⟨fun b o e n hb hx => ?_, fun b o e n hb hx => ?_, I.base.free, fun b o e hx => ?_, I.base.tups, I.base.frzs, I.base.tbls⟩, ⟨m, hn.sameBut hs (Ne.symm (cne x c hc)), fun j y v' e1 e2 e3 => ?_⟩, fun y c' e => ?_, I.free, I.freeC, fun p hp => ?_, tracked ⟨oc, hoc, I.freeC x c hc⟩ hs, by simpa using I.len⟩ ⟨c, hs, .inr hc⟩
    · exact (hs.2 b (Nat.ne_of_lt (Nat.lt_of_lt_of_le (Heap.lt_size e) (I.ok.cab x c hfn hc)))).trans (I.base.keep b o e n hb hx)
    · obtain ⟨sl, e1⟩ := I.base.slot b o e n hb hx
      exact ⟨sl, (hs.2 b (Nat.ne_of_lt (Nat.lt_of_lt_of_le (Heap.lt_size e) (I.ok.cab x c hfn hc)))).trans e1⟩
    · obtain ⟨o', e1⟩ := I.base.there b o e hx
      exact ⟨o', (hs.2 b (Nat.ne_of_lt (Nat.lt_of_lt_of_le (Heap.lt_size e) (I.ok.cab x c hfn hc)))).trans e1⟩
    · by_cases hj : j = i
      · subst hj
        rw [hi] at e1; cases e1
        rw [List.getElem?_set_self hiσ] at e2
        cases e2
        exact ⟨u, r, .inr ⟨.inl hk, c, hc, hc'⟩⟩
      · rw [List.getElem?_set_ne (Ne.symm hj)] at e2
        obtain ⟨u', r', q⟩ := hl j y v' e1 e2 e3
        refine ⟨u', r', ?_⟩
        rcases q with q | ⟨k, c', e, z'⟩
        · exact .inl q
        · refine .inr ⟨k, c', e, z'.sameBut hs ?_⟩
          rintro rfl
          exact hj (nodup_ix hN e1 (I.ok.inj _ _ _ e hc ▸ hi))
    · by_cases hcc : c' = c
      · subst hcc; exact ⟨_, hc'⟩
      · obtain ⟨w2, z2⟩ := I.cell y c' e
        exact ⟨w2, z2.sameBut hs hcc⟩
    · obtain ⟨e, n, ne, nf, d⟩ := I.pin p hp
      refine ⟨(hs.2 p.1 ?_).trans e, n, ne, nf, d⟩
      intro q
      rw [q, hoc] at e
      have q' : oc = p.2 := Option.some.inj e
      exact d w' (by rw [← q']; exact hocd)
theorem store_ok {M : Model} {A : Around} {E : Value → Shared → Prop} {i : Nat} {x : Str} {v : V} {u : Value} {Q : Unit → Shared → Prop} (I : Inv X pins σ H s) (hN : X.N.Nodup) (hi : X.N[i]? = some x) (hx : Loc X.env.scope x) (r : RelV v u)
    (h : ∀ s', Inv X pins (σ.set i (some v)) H s' → Q () s') (hf : X.fn x = true ∨ X.env.scope.names.lookup x = some .local := by first | exact .inl rfl | exact .inr rfl | assumption) : wpAny M A (storeName X.env x u) Q E s :=
  store_ok2 I hN hi hx r (fun s' I' _ => h s' I') hf
/-- behind a call or a block, the state as it is -/
theorem Inv.call' {s' : Shared} {ch : List Addr} (I : Inv X pins σ H s) (ho : s'.os = s.os) (u : Un (frs X.stack) ch H H' s.heap s'.heap) (hok : HOk X.prog X.w H' s'.heap) (hg : AllBare s'.gens)
    (hch : ∀ b ∈ ch, (b ∈ X.ex ∨ X.s₀.heap.objs.size ≤ b) ∧ b ≠ X.env.locals ∧ (∀ x c, X.env.cells.lookup x = some c → c ≠ b) ∧ ∀ p ∈ X.pn ++ pins, p.1 ≠ b) : Inv X pins σ H' s' := by
  obtain ⟨h', g', d', t', o'⟩ := s'
  have e : o' = s.os := ho
  subst e
  exact I.call (g' := g') (t' := t') (d' := d') u hok hg hch
end

/-! ### the judgements -/
/-- an exception: its class, its own dict's address (where it has one), the abstract heap behind it -/
noncomputable abbrev XK := Value → Option Addr → Hp → Prop
noncomputable abbrev St := List (Option V)
noncomputable abbrev VK := V → Hp → Prop
/-- an expression's reading; a test's; an argument list's -/
noncomputable abbrev TE := St → Hp → VK → Prop
noncomputable abbrev TT := St → Hp → (Bool → Hp → Prop) → Prop
noncomputable abbrev TA := St → Hp → (List V → Hp → Prop) → Prop
/-- what is wanted behind a statement -/
structure Ends where
  nx : St → Hp → Prop
  rt : VK
  bk : St → Hp → Prop := fun _ _ => False
  ct : St → Hp → Prop := fun _ _ => False
noncomputable abbrev TS := Ends → St → Hp → Prop

noncomputable def EP (X : Cx) (pins : List (Addr × Obj)) (σ : St) (Q : VK) (u : Value) (s' : Shared) : Prop := ∃ v H', Inv X pins σ H' s' ∧ RelV v u ∧ Q v H'
noncomputable def TP (X : Cx) (pins : List (Addr × Obj)) (σ : St) (Q : Bool → Hp → Prop) (b : Bool) (s' : Shared) : Prop := ∃ H', Inv X pins σ H' s' ∧ Q b H'
noncomputable def AP (X : Cx) (pins : List (Addr × Obj)) (σ : St) (Q : List V → Hp → Prop) (us : List Value) (s' : Shared) : Prop := ∃ vs H', Inv X pins σ H' s' ∧ Vals vs us ∧ Q vs H'
noncomputable def SP (X : Cx) (pins : List (Addr × Obj)) (D : Ends) (f : Flow) (s' : Shared) : Prop :=
  match f with
  | .next => ∃ σ' H', Inv X pins σ' H' s' ∧ D.nx σ' H'
  | .brk => ∃ σ' H', Inv X pins σ' H' s' ∧ D.bk σ' H'
  | .cont => ∃ σ' H', Inv X pins σ' H' s' ∧ D.ct σ' H'
  | .ret u => ∃ v σ' H', Inv X pins σ' H' s' ∧ RelV v u ∧ D.rt v H'

noncomputable def PE (X : Cx) (e : Expr) (t : TE) : Prop :=
  ∀ (pins : List (Addr × Obj)) (s : Shared) (σ : St) (H : Hp) (Q : VK), Inv X pins σ H s → t σ H Q → wpAny (model X.prog X.w) X.A (eval e X.env) (EP X pins σ Q) X.xe s
noncomputable def PT (X : Cx) (e : Expr) (t : TT) : Prop :=
  ∀ (pins : List (Addr × Obj)) (s : Shared) (σ : St) (H : Hp) (Q : Bool → Hp → Prop), Inv X pins σ H s → t σ H Q → wpAny (model X.prog X.w) X.A (isTrue e X.env (eval e X.env)) (TP X pins σ Q) X.xe s
/-- a test whatever its 'whole' is (and, or) -/
noncomputable def PW (X : Cx) (e : Expr) (t : TT) : Prop :=
  ∀ (whole : Sem Value) (pins : List (Addr × Obj)) (s : Shared) (σ : St) (H : Hp) (Q : Bool → Hp → Prop), Inv X pins σ H s → t σ H Q → wpAny (model X.prog X.w) X.A (isTrue e X.env whole) (TP X pins σ Q) X.xe s
theorem PW.pt {X : Cx} {e : Expr} {t : TT} (h : PW X e t) : PT X e t := h _
/-- an argument list (no star), from the left -/
noncomputable def PA (X : Cx) (es : List Expr) (t : TA) : Prop :=
  ∀ (pos : Pos) (pins : List (Addr × Obj)) (s : Shared) (σ : St) (H : Hp) (Q : List V → Hp → Prop), Inv X pins σ H s → t σ H Q → wpAny (model X.prog X.w) X.A (spliced (backTo pos (starEach es X.env))) (AP X pins σ Q) X.xe s
noncomputable def PS (X : Cx) (st : Stmt) (t : TS) : Prop :=
  ∀ (pins : List (Addr × Obj)) (s : Shared) (σ : St) (H : Hp) (D : Ends), Inv X pins σ H s → t D σ H → wpAny (model X.prog X.w) X.A (exec st X.env) (SP X pins D) X.xe s
noncomputable def PSs (X : Cx) (st : List Stmt) (t : TS) : Prop :=
  ∀ (pins : List (Addr × Obj)) (s : Shared) (σ : St) (H : Hp) (D : Ends), Inv X pins σ H s → t D σ H → wpAny (model X.prog X.w) X.A (execs st X.env) (SP X pins D) X.xe s
/-- weaken the end -/
theorem thn {α : Type} {t : Sem α} {Q Q' : α → Shared → Prop} {M : Model} {A : Around} {E : Value → Shared → Prop} {s : Shared} (h : wpAny M A t Q E s) (hQ : ∀ a s, Q a s → Q' a s) : wpAny M A t Q' E s := wpAny_mono h hQ fun _ _ x => x
end L2

namespace L2
open PySem PySem.Spec PyProof.Rows
section
variable {X : Cx}

/-! ### names and constants -/
noncomputable def tVar (i : Nat) : TE := fun σ H Q => ∃ v, σ[i]? = some (some v) ∧ Q v H
noncomputable def tC (v : V) : TE := fun _ H Q => Q v H
theorem pe_var {i : Nat} {x : Str} {pos : Pos} (hN : X.N[i]? = some x) (hv : Vis X.env.scope x) (hd : (x == ("__debug__" : Str)) = false := by decide) (hcd : (x == ("__classdict__" : Str)) = false := by decide) : PE X (.Name x pos) (tVar i) := by
  intro pins s σ H Q I h
  obtain ⟨v, e, h⟩ := h
  obtain ⟨m, hn, hl⟩ := I.loc
  obtain ⟨u, r, l⟩ := hl i x v hN e hv
  have fin : EP X pins σ Q u s := ⟨v, H, I, r, h⟩
  rcases l with ⟨hk, hm⟩ | ⟨hk, c, hc, hcell⟩
  · exact wpAny_Name (wpAny_loadName_local I.ok.kind hk hn hm fin) hd
  · rcases hk with hk | hk
    · exact wpAny_Name (wpAny_loadName_cell I.ok.kind hk hc hcell fin) hd
    · exact wpAny_Name (wpAny_loadName_free I.ok.kind hk hc hcell fin hcd) hd
theorem pe_int {i j pos} : PE X (.Constant (.int i) j pos) (tC (.int i)) := fun _ _ _ H _ I h => wpAny_Constant_int ⟨.int i, H, I.tok _, ⟨_, rfl⟩, h⟩
theorem pe_bl {b j pos} : PE X (.Constant (.bool b) j pos) (tC (.bl b)) := fun _ _ _ H _ I h => Constant_bool ⟨.bl b, H, I, rfl, h⟩
theorem pe_non {j pos} : PE X (.Constant .none j pos) (tC .non) := fun _ _ _ H _ I h => Constant_none ⟨.non, H, I, rfl, h⟩
theorem pe_str {x j pos} : PE X (.Constant (.str x) j pos) (tC (.str x)) := fun _ _ _ H _ I h => Calls.Constant_str ⟨.str x, H, I.tok _, ⟨_, rfl⟩, h⟩

/-- a global name of the def -/
noncomputable def Gl (X : Cx) (x : Str) : Prop := X.env.kindOf x = some .globalImplicit
theorem ld_glob {E : Value → Shared → Prop} {pins : List (Addr × Obj)} {s : Shared} {σ : St} {H : Hp} {x : Str} {u : Value} {pos : Pos} {Q : Value → Shared → Prop} (I : Inv X pins σ H s) (hg : Gl X x) (hm : X.mg x = some u) (h : Q u s)
    (hd : (x == ("__debug__" : Str)) = false := by decide) : wpAny (model X.prog X.w) X.A (eval (.Name x pos) X.env) Q E s :=
  Calls.Name_function_global I.ok.kind hg (Calls.loadGlobal_global (by rw [I.ok.glob]; exact I.mod.glob.keeps I.bk) hm h) hd
theorem ld_blt {E : Value → Shared → Prop} {pins : List (Addr × Obj)} {s : Shared} {σ : St} {H : Hp} {x : Str} {u : Value} {pos : Pos} {Q : Value → Shared → Prop} (I : Inv X pins σ H s) (hg : Gl X x) (hm : X.mg x = none) (hv : bootBuiltins x = some u) (h : Q u s)
    (hn : x ≠ "__name__" := by decide) (hd : (x == ("__debug__" : Str)) = false := by decide) : wpAny (model X.prog X.w) X.A (eval (.Name x pos) X.env) Q E s := by
  obtain ⟨mb, h1, h2⟩ := I.mod.blt
  exact Calls.Name_function_global I.ok.kind hg (Calls.loadGlobal_builtin (by rw [I.ok.glob]; exact I.mod.glob.keeps I.bk) hm (by rw [I.ok.blt]; exact h1.keeps I.bk) ((h2 x hn).trans hv) h) hd
theorem pe_bltn {x : Str} {v : V} {u : Value} {pos : Pos} (hg : Gl X x) (hm : X.mg x = none) (hv : bootBuiltins x = some u) (r : RelV v u) (hn : x ≠ "__name__" := by decide) (hd : (x == ("__debug__" : Str)) = false := by decide) : PE X (.Name x pos) (tC v) :=
  fun _ _ _ H _ I h => ld_blt I hg hm hv ⟨v, H, I, r, h⟩ hn hd

/-! ### arithmetic -/
variable {a b : Expr} {ta tb : TE} {pos : Pos}
/-! ### comparisons -/
noncomputable def PC (X : Cx) (op : CmpOp) (a b : Expr) (t : TE) : Prop :=
  ∀ (pins : List (Addr × Obj)) (s : Shared) (σ : St) (H : Hp) (Q : VK), Inv X pins σ H s → t σ H Q →
    wpAny (model X.prog X.w) X.A (eval a X.env) (fun v s₁ => wpAny (model X.prog X.w) X.A (eval b X.env) (fun u s₂ => wpAny (model X.prog X.w) X.A (compareOp op v u) (EP X pins σ Q) X.xe s₂) X.xe s₁) X.xe s
/-- a comparison as a value, as a test -/
noncomputable def tB (t : TE) : TT := fun σ H Q => t σ H fun x H1 => ∃ c, x = .bl c ∧ Q c H1
theorem pt_cmp {op : CmpOp} {t : TE} (h : PC X op a b t) (h1 : behindInMarks op b = false := by first | exact nobehind _ (by decide) (by decide) | rfl) : PT X (.Compare a [op] [b] pos) (tB t) := by
  intro pins s σ H Q I hw
  refine wpAny_isTrue_Compare1 (thn (h pins s σ H _ I hw) fun v s1 h1 => thn h1 fun u s2 h2 => thn h2 fun c s3 hh9 => ?_) h1
  obtain ⟨x, H1, I1, r1, q1⟩ := hh9
  obtain ⟨d, rfl, q⟩ := q1
  cases r1
  exact wpAny_truthy_bool ⟨H1, I1, q⟩
/-- an expression whose value is a bool, as a test -/
theorem pt_val {e : Expr} {t : TE} (h : PE X e t) (he : ∀ whole, isTrue e X.env whole = (do let v ← whole; standAt e.pos; holding [v] (truthy v)) := by intro _; rfl) : PT X e (tB t) := by
  intro pins s σ H Q I hw
  refine isTrue_plain (thn (h pins s σ H _ I hw) fun v s1 hh9 => ?_) (he _)
  obtain ⟨x, H1, I1, r1, q1⟩ := hh9
  obtain ⟨d, rfl, q⟩ := q1
  cases r1
  exact wpAny_truthy_bool ⟨H1, I1, q⟩

/-! ### and, or, not -/
variable {tA tB' : TT} {rest : List Expr}
noncomputable def tAnd (t u : TT) : TT := fun σ H Q => t σ H fun c H1 => if c = true then u σ H1 Q else Q false H1
noncomputable def tOr (t u : TT) : TT := fun σ H Q => t σ H fun c H1 => if c = true then Q true H1 else u σ H1 Q
noncomputable def tNot (t : TT) : TT := fun σ H Q => t σ H fun c H1 => Q (!c) H1
theorem pw_and1 (ha : PT X a tA) : PW X (.BoolOp .And [a] pos) tA := by
  intro wh pins s σ H Q I h
  refine isTrue_and (thn (ha pins s σ H Q I h) fun c s1 e => ?_)
  cases c with
  | true => exact isTrue_and_nil e
  | false => exact e
theorem pw_or1 (ha : PT X a tA) : PW X (.BoolOp .Or [a] pos) tA := by
  intro wh pins s σ H Q I h
  refine isTrue_or (thn (ha pins s σ H Q I h) fun c s1 e => ?_)
  cases c with
  | false => exact isTrue_or_nil e
  | true => exact e
theorem pw_and (ha : PT X a tA) (hb : PW X (.BoolOp .And (b :: rest) pos) tB') : PW X (.BoolOp .And (a :: b :: rest) pos) (tAnd tA tB') := by
  intro wh pins s σ H Q I h
  refine isTrue_and (thn (ha pins s σ H _ I h) fun c s1 hh9 => ?_)
  obtain ⟨H1, I1, q1⟩ := hh9
  cases c with
  | true => exact hb wh pins s1 σ H1 Q I1 q1
  | false => exact ⟨H1, I1, q1⟩
theorem pw_or (ha : PT X a tA) (hb : PW X (.BoolOp .Or (b :: rest) pos) tB') : PW X (.BoolOp .Or (a :: b :: rest) pos) (tOr tA tB') := by
  intro wh pins s σ H Q I h
  refine isTrue_or (thn (ha pins s σ H _ I h) fun c s1 hh9 => ?_)
  obtain ⟨H1, I1, q1⟩ := hh9
  cases c with
  | true => exact ⟨H1, I1, q1⟩
  | false => exact hb wh pins s1 σ H1 Q I1 q1
theorem pt_not (ha : PT X a tA) : PT X (.UnaryOp .Not a pos) (tNot tA) := by
  intro pins s σ H Q I h
  exact isTrue_not (ha pins s σ H (fun c H1 => Q (!c) H1) I h)
end
end L2

namespace L2
open PySem PySem.Spec PyProof.Rows

/-! ### a list, a tuple that is read: tracked, frozen, or an object of the module -/
noncomputable def SqL (K : PySem.W.Frag) (H : Hp) (a : Addr) (xs : List V) : Prop :=
  Rd H a (.lst xs) ∨
    ∃ (o : Obj) (its : Array Value) (n : Nat), K.lookup a = some o ∧ o.cls = .type "list" ∧ o.dict = none ∧ o.data = .seq its n ∧ its.size ≤ sizeLine ∧ Vals xs its.toList
noncomputable def SqT (K : PySem.W.Frag) (H : Hp) (a : Addr) (xs : List V) : Prop :=
  Rd H a (.tup xs) ∨
    ∃ (o : Obj) (its : Array Value) (n : Nat), K.lookup a = some o ∧ o.cls = .type "tuple" ∧ o.data = .seq its n ∧ its.size ≤ sizeLine ∧ Vals xs its.toList
noncomputable def absV : Value → Option V
  | .none => some .non
  | .bool b => some (.bl b)
  | .int i _ => some (.int i)
  | .str x _ => some (.str x)
  | .bytes b _ => some (.byt b)
  | .float b _ => some (.flt b)
  | .ref a => some (.ref a)
  | .type n => some (.ty n)
  | _ => none
theorem RelV.abs {x : V} {u : Value} (r : RelV x u) : absV u = some x := by
  cases x with
  | non => cases r; rfl
  | bl _ => cases r; rfl
  | int _ => obtain ⟨t, rfl⟩ := r; rfl
  | str _ => obtain ⟨t, rfl⟩ := r; rfl
  | byt _ => obtain ⟨t, rfl⟩ := r; rfl
  | flt _ => obtain ⟨t, rfl⟩ := r; rfl
  | ref _ => cases r; rfl
  | ty _ => cases r; rfl
theorem RelV.inj {x y : V} {u : Value} (r : RelV x u) (q : RelV y u) : x = y := Option.some.inj (r.abs.symm.trans q.abs)
theorem Vals.inj : ∀ {xs ys : List V} {us : List Value}, Vals xs us → Vals ys us → xs = ys
  | _, _, _, .nil, .nil => rfl
  | _, _, _, .cons r t, .cons r' t' => by rw [r.inj r', Vals.inj t t']
section
variable {X : Cx} {pins : List (Addr × Obj)} {σ : St} {H : Hp} {s : Shared} {a : Addr} {xs ys : List V}
theorem SqL.of {K : PySem.W.Frag} (h : H a = some (.lst xs)) : SqL K H a xs := .inl (.inl h)
theorem Inv.list (I : Inv X pins σ H s) (h : SqL X.K H a xs) : ∃ its : List Value, Vals xs its ∧ PlainL s.heap a its.toArray ∧ xs.length ≤ sizeLine := by
  rcases h with h | ⟨o, its, n, hk, hc, hd, hs, hz, r⟩
  · obtain ⟨z, its, n, r, e⟩ := h.ok I.hok
    exact ⟨its, r, ⟨_, n, e, rfl, rfl, rfl⟩, z⟩
  · refine ⟨its.toList, r, ⟨o, n, I.kIn a o hk, hc, hd, by simpa using hs⟩, ?_⟩
    have e := r.length
    simp only [Array.length_toList] at e
    omega
theorem Inv.tuple (I : Inv X pins σ H s) (h : SqT X.K H a xs) : ∃ its : List Value, Vals xs its ∧ IsTup s.heap a its.toArray ∧ xs.length ≤ sizeLine := by
  rcases h with h | ⟨o, its, n, hk, hc, hs, hz, r⟩
  · obtain ⟨z, its, r, p⟩ := h.ok I.hok
    exact ⟨its, r, p, z⟩
  · refine ⟨its.toList, r, ⟨o, I.kIn a o hk, hc, n, by simpa using hs⟩, ?_⟩
    have e := r.length
    simp only [Array.length_toList] at e
    omega
theorem Inv.list_inj (I : Inv X pins σ H s) (h : SqL X.K H a xs) (h' : SqL X.K H a ys) : xs = ys := by
  obtain ⟨its, r, ⟨o, n, e, _, _, d⟩, _⟩ := I.list h
  obtain ⟨its', r', ⟨o', n', e', _, _, d'⟩, _⟩ := I.list h'
  rw [e] at e'; cases e'
  rw [d] at d'
  injection d' with d1 _
  have : its = its' := by simpa using congrArg Array.toList d1
  subst this
  exact r.inj r'
end

/-! ### another wish about exceptions -/
noncomputable abbrev Cx.wish (X : Cx) (E : Value → Shared → Prop) : Cx := { X with xe := E }
/-- no exception leaves -/
noncomputable abbrev Cx.nox (X : Cx) : Cx := X.wish fun _ _ => False
theorem Cx.Ok.wish {X : Cx} (ok : X.Ok) (E : Value → Shared → Prop) : (X.wish E).Ok :=
  ⟨ok.mod, ok.kind, ok.glob, ok.blt, ok.above, ok.inj, ok.has, ok.cab, ok.hd, ok.frames, ok.stk, ok.exf, ok.bs, ok.bsz, ok.noex, ok.exfs, ok.funs, ok.frf⟩
theorem Cx.Ok.unwish {X : Cx} {E : Value → Shared → Prop} (ok : (X.wish E).Ok) : X.Ok :=
  ⟨ok.mod, ok.kind, ok.glob, ok.blt, ok.above, ok.inj, ok.has, ok.cab, ok.hd, ok.frames, ok.stk, ok.exf, ok.bs, ok.bsz, ok.noex, ok.exfs, ok.funs, ok.frf⟩
section
variable {X : Cx} {pins : List (Addr × Obj)} {σ : St} {H : Hp} {s : Shared} {E : Value → Shared → Prop}
theorem Inv.wish (I : Inv X pins σ H s) (E : Value → Shared → Prop) : Inv (X.wish E) pins σ H s := ⟨I.ok.wish E, I.os, I.bare, I.base, I.loc, I.cell, I.free, I.freeC, I.pin, I.hok, I.len⟩
theorem Inv.unwish (I : Inv (X.wish E) pins σ H s) : Inv X pins σ H s := ⟨I.ok.unwish, I.os, I.bare, I.base, I.loc, I.cell, I.free, I.freeC, I.pin, I.hok, I.len⟩
theorem SP.unwish {D : Ends} {f : Flow} {s' : Shared} (h : SP (X.wish E) pins D f s') : SP X pins D f s' := by
  cases f with
  | next => obtain ⟨σ', H', I, q⟩ := h; exact ⟨σ', H', I.unwish, q⟩
  | brk => obtain ⟨σ', H', I, q⟩ := h; exact ⟨σ', H', I.unwish, q⟩
  | cont => obtain ⟨σ', H', I, q⟩ := h; exact ⟨σ', H', I.unwish, q⟩
  | ret u => obtain ⟨v, σ', H', I, r, q⟩ := h; exact ⟨v, σ', H', I.unwish, r, q⟩
theorem PSs.nox {st : List Stmt} {t : TS} (h : PSs X.nox st t) : PSs X st t := fun pins s σ H D I hw =>
  wpAny_mono (h pins s σ H D (I.wish _) hw) (fun _ _ q => q.unwish) fun _ _ z => False.elim z
end

/-! ### blocks and small statements -/
section
variable {X : Cx} {st : Stmt} {rest : List Stmt} {t u : TS} {e : Expr} {te : TE} {pos : Pos}
noncomputable def tNext : TS := fun D σ H => D.nx σ H
noncomputable def tSeq (t u : TS) : TS := fun D σ H => t { D with nx := u D } σ H
theorem pss_nil : PSs X [] tNext := fun _ _ σ H _ I h => wpAny_execs_nil ⟨σ, H, I, h⟩
theorem pss_cons (h1 : PS X st t) (h2 : PSs X rest u) : PSs X (st :: rest) (tSeq t u) := by
  intro pins s σ H D I h
  refine wpAny_execs_cons (thn (h1 pins s σ H { D with nx := u D } I h) fun f s1 q => ?_)
  cases f with
  | next =>
    obtain ⟨σ', H', I', q⟩ := q
    exact h2 pins s1 σ' H' D I' q
  | ret v => exact q
  | brk => exact q
  | cont => exact q
theorem pss_one (h1 : PS X st t) : PSs X [st] t := by
  intro pins s σ H D I h
  refine wpAny_execs_cons (thn (h1 pins s σ H D I h) fun f s1 q => ?_)
  cases f with
  | next => exact wpAny_execs_nil q
  | ret v => exact q
  | brk => exact q
  | cont => exact q
/-- in a def's body nothing is shown -/
theorem Inv.quiet {pins : List (Addr × Obj)} {σ : St} {H : Hp} {s : Shared} (I : Inv X pins σ H s) : interactive X.env = false := by simp [interactive, I.ok.kind]
/-- an expression whose value is dropped -/
noncomputable def tDrop (te : TE) : TS := fun D σ H => te σ H fun _ H1 => D.nx σ H1
theorem ps_expr (he : PE X e te) (hs : swapsWith e none pos.line X.env = pure false := by rfl) : PS X (.Expr e pos) (tDrop te) := by
  intro pins s σ H D I h
  exact wpAny_Expr_any (thn (he pins s σ H _ I h) fun v s1 ⟨x, H1, I1, r1, q1⟩ => ⟨σ, H1, I1, q1⟩) I.quiet hs
noncomputable def tRet (te : TE) : TS := fun D σ H => te σ H D.rt
theorem ps_ret (he : PE X e te) : PS X (.Return (some e) pos) (tRet te) := by
  intro pins s σ H D I h
  exact wpAny_Return_some (thn (he pins s σ H _ I h) fun v s1 ⟨x, H1, I1, r1, q1⟩ => ⟨x, σ, H1, I1, r1, q1⟩)
noncomputable def tIfS (c : TT) (t u : TS) : TS := fun D σ H => c σ H fun b H1 => if b = true then t D σ H1 else u D σ H1
theorem ps_if {c : Expr} {a b : List Stmt} {tc : TT} (hc : PT X c tc) (ha : PSs X a t) (hb : PSs X b u) : PS X (.If c a b pos) (tIfS tc t u) := by
  intro pins s σ H D I h
  refine wpAny_If (thn (hc pins s σ H _ I h) fun d s1 hh9 => ?_)
  obtain ⟨H1, I1, q1⟩ := hh9
  cases d with
  | true => exact ha pins s1 σ H1 D I1 q1
  | false => exact hb pins s1 σ H1 D I1 q1
/-- code that the proof never comes to -/
noncomputable def tNever : TS := fun _ _ _ => False
theorem ps_never : PS X st tNever := fun _ _ _ _ _ _ h => h.elim
end

/-! ### targets -/
noncomputable abbrev TG := V → St → Hp → (St → Hp → Prop) → Prop
noncomputable def PG (X : Cx) (target : Expr) (t : TG) : Prop :=
  ∀ (pins : List (Addr × Obj)) (s : Shared) (σ : St) (H : Hp) (v : V) (u : Value) (Q : St → Hp → Prop), Inv X pins σ H s → RelV v u → t v σ H Q →
    wpAny (model X.prog X.w) X.A (assign target X.env u) (fun _ s' => ∃ σ' H', Inv X pins σ' H' s' ∧ Q σ' H') X.xe s
/-- a op= b, by values -/
noncomputable abbrev TIp := V → V → Hp → VK → Prop
noncomputable def PIp (X : Cx) (op : Operator) (t : TIp) : Prop :=
  ∀ (pins : List (Addr × Obj)) (s : Shared) (σ : St) (H : Hp) (x y : V) (v u : Value) (Q : VK), Inv X pins σ H s → RelV x v → RelV y u → t x y H Q →
    wpAny (model X.prog X.w) X.A (inplaceOp op v u) (EP X pins σ Q) X.xe s
section
variable {X : Cx} {pos : Pos}
noncomputable def gName (i : Nat) : TG := fun v σ H Q => Q (σ.set i (some v)) H
theorem pg_name {i : Nat} {x : Str} (hN : X.N.Nodup) (hi : X.N[i]? = some x) (hx : Loc X.env.scope x) (hf : X.fn x = true ∨ X.env.scope.names.lookup x = some .local := by first | exact .inl rfl | exact .inr rfl | assumption) : PG X (.Name x pos) (gName i) := by
  intro pins s σ H v u Q I r h
  exact wpAny_assign_Name (store_ok I hN hi hx r (fun s' I' => ⟨_, H, I', h⟩) hf)
/-- target = value -/
noncomputable def tAsg (te : TE) (g : TG) : TS := fun D σ H => te σ H fun x H1 => g x σ H1 D.nx
/-- name = value -/
theorem ps_set {i : Nat} {x : Str} {e : Expr} {te : TE} {pos' : Pos} (hN : X.N.Nodup) (hi : X.N[i]? = some x) (hx : Loc X.env.scope x) (he : PE X e te) (hs : swapsWith e (some (.Name x pos')) pos.line X.env = pure false := by rfl) (hf : X.fn x = true ∨ X.env.scope.names.lookup x = some .local := by first | exact .inl rfl | exact .inr rfl | assumption) :
    PS X (.Assign [.Name x pos'] e pos) (tAsg te (gName i)) := by
  intro pins s σ H D I h
  refine wpAny_Assign_Name (thn (he pins s σ H _ I h) fun v s1 hh9 => ?_) hs
  obtain ⟨y, H1, I1, r1, q1⟩ := hh9
  exact store_ok I1 hN hi hx r1 (fun s2 I2 => ⟨_, H1, I2, q1⟩) hf
/-- name op= e -/
noncomputable def tAug (i : Nat) (te : TE) (ti : TIp) : TS := fun D σ H => ∃ x, σ[i]? = some (some x) ∧ te σ H fun y H1 => ti x y H1 fun z H2 => D.nx (σ.set i (some z)) H2
theorem ps_aug {i : Nat} {x : Str} {e : Expr} {te : TE} {op : Operator} {ti : TIp} {pos' : Pos} (hN : X.N.Nodup) (hi : X.N[i]? = some x) (hx : Loc X.env.scope x) (he : PE X e te) (ho : PIp X op ti) (hf : X.fn x = true ∨ X.env.scope.names.lookup x = some .local := by first | exact .inl rfl | exact .inr rfl | assumption) :
    PS X (.AugAssign (.Name x pos') op e pos) (tAug i te ti) := by
  intro pins s σ H D I h
  obtain ⟨v, e1, h⟩ := h
  obtain ⟨m, hn, hl⟩ := I.loc
  have vis : Vis X.env.scope x := by rcases hx with k | k; exact .inl k; exact .inr (.inl k)
  obtain ⟨u, r, l⟩ := hl i x v hi e1 vis
  refine wpAny_AugAssign_Name ?_
  have go : wpAny (model X.prog X.w) X.A (eval e X.env) (fun w s₂ => wpAny (model X.prog X.w) X.A (inplaceOp op u w) (fun r s₃ => wpAny (model X.prog X.w) X.A (storeName X.env x r) (fun _ => SP X pins D .next) X.xe s₃) X.xe s₂) X.xe s := by
    refine thn (he pins s σ H _ I h) fun w s1 hh9 => ?_
    obtain ⟨y, H1, I1, r1, q1⟩ := hh9
    refine thn (ho pins s1 σ H1 v y u w _ I1 r r1 q1) fun z s2 hh9 => ?_
    obtain ⟨zv, H2, I2, r2, q2⟩ := hh9
    exact store_ok I2 hN hi hx r2 (fun s3 I3 => ⟨_, H2, I3, q2⟩) hf
  rcases l with ⟨hk, hm⟩ | ⟨hk, c, hc, hcell⟩
  · exact wpAny_loadName_local I.ok.kind hk hn hm go
  · rcases hk with hk | hk
    · exact wpAny_loadName_cell I.ok.kind hk hc hcell go
    · rcases hx with k | k
      · have : X.env.scope.names.lookup x = some .free := hk
        rw [k] at this; cases this
      · have : X.env.scope.names.lookup x = some .free := hk
        rw [k] at this; cases this
end

/-! ### while -/
section
variable {X : Cx} {pos : Pos}
/-- the invariant W with its measure -/
noncomputable def tWhile (c : TT) (tb : TS) : TS := fun D σ H => ∃ W : Nat → St → Hp → Prop, (∃ m, W m σ H) ∧ ∀ m σ H, W m σ H →
  c σ H fun b H1 => if b = true then ∃ N : St → Hp → Prop, (∀ σ' H', N σ' H' → ∃ m', m' < m ∧ W m' σ' H') ∧ tb { D with nx := N, ct := N, bk := D.nx } σ H1 else D.nx σ H1
theorem ps_while {c : Expr} {body : List Stmt} {tc : TT} {tb : TS} (hp : PassesOwn (model X.prog X.w) X.A X.env X.xe) (hc : PT X c tc) (hb : PSs X body tb) : PS X (.While c body [] pos) (tWhile tc tb) := by
  intro pins s σ H D I h
  obtain ⟨W, ⟨m0, w0⟩, turn⟩ := h
  refine wpAny_While (codeAny_whileLoop (fun n s' => ∃ σ' H', Inv X pins σ' H' s' ∧ W n σ' H') ?_ m0 ⟨σ, H, I, w0⟩)
  rintro n s1 ⟨σ1, H1, I1, w1⟩
  refine wpAny_passesOwn hp (thn (hc pins s1 σ1 H1 _ I1 (turn n σ1 H1 w1)) fun b s2 hh9 => ?_)
  obtain ⟨H2, I2, q2⟩ := hh9
  cases b with
  | true =>
    obtain ⟨N, hN, q2⟩ := q2
    rw [if_pos rfl]
    refine wpAny_passesOwn hp (thn (hb pins s2 σ1 H2 _ I2 q2) fun f s3 q3 => ?_)
    cases f with
    | next =>
      obtain ⟨σ3, H3, I3, n3⟩ := q3
      obtain ⟨m', hm, w3⟩ := hN σ3 H3 n3
      exact ⟨m', hm, σ3, H3, I3, w3⟩
    | cont =>
      obtain ⟨σ3, H3, I3, n3⟩ := q3
      obtain ⟨m', hm, w3⟩ := hN σ3 H3 n3
      exact ⟨m', hm, σ3, H3, I3, w3⟩
    | brk => exact q3
    | ret v => exact q3
  | false =>
    rw [if_neg Bool.false_ne_true]
    exact wpAny_execs_nil ⟨σ1, H2, I2, q2⟩
end

/-! ### what a loop or a comprehension walks -/
/-- at turn i: it yields x (the heap may grow), or it stops -/
structure It where
  go : Nat → Hp → Prop
  yld : Nat → Hp → V → Hp → Prop
  stop : Nat → Hp → Prop
/-- the iterator's own objects may turn: they are not the frame's, not pinned, younger than the entry (or a comprehension's own) -/
noncomputable def FpOk (X : Cx) (pins : List (Addr × Obj)) (H : Hp) (b : Addr) : Prop :=
  H b = none ∧ b ≠ X.env.locals ∧ b ∉ X.fs ∧ (b ∈ X.ex ∨ X.s₀.heap.objs.size ≤ b) ∧ (∀ x c, X.env.cells.lookup x = some c → c ≠ b) ∧ ∀ p ∈ X.pn ++ pins, p.1 ≠ b
theorem Inv.fpOk {X : Cx} {pins : List (Addr × Obj)} {σ : St} {H H' : Hp} {s : Shared} {b : Addr} (I : Inv X pins σ H s) (hb : s.heap.objs.size ≤ b) (hn : H' b = none) : FpOk X pins H' b := by
  refine ⟨hn, Nat.ne_of_gt (Nat.lt_of_lt_of_le I.lt hb), I.nofs hb, .inr (Nat.le_trans I.sz hb), fun x c e z => ?_, fun p hp z => ?_⟩
  · obtain ⟨v, q⟩ := I.cell x c e
    exact absurd (Nat.lt_of_lt_of_le q.lt (by rw [z]; exact hb)) (Nat.lt_irrefl _)
  · exact absurd (Nat.lt_of_lt_of_le (Heap.lt_size (I.pin p hp).1) (by rw [z]; exact hb)) (Nat.lt_irrefl _)
structure Turn (P : Program) (w : World) (K : PySem.W.Frag) (tg : Expr) (J : It) (fp : List Addr) (it : Addr) (tn : Nat → Heap → Prop) : Prop where
  mem : it ∈ fp
  obj : ∀ i h, tn i h → ∀ b ∈ fp, ∃ o, h.get? b = some o ∧ ∀ v, o.data ≠ .cell v
  keep : ∀ i h h', tn i h → (∀ b ∈ fp, ∀ o, h.get? b = some o → h'.get? b = some o) → tn i h'
  item : ∀ (X : Cx), X.prog = P → X.w = w → X.K = K → X.calm = true → ∀ (i : Nat) (pins : List (Addr × Obj)) (s : Shared) (σ : St) (H : Hp) (E : Value → Shared → Prop), Inv X pins σ H s → (∀ b ∈ fp, FpOk X pins H b) → tn i s.heap → J.go i H →
    wpAny (model P w) X.A (pyNext (.ref it)) (fun r s1 => ∃ u, r = some u ∧
      wpAny (model P w) X.A (letOwnedTupleGo tg (.ref it) u) (fun _ s2 => ∃ x H', Inv X pins σ H' s2 ∧ RelV x u ∧ J.yld i H x H' ∧ tn (i + 1) s2.heap ∧ ∀ b ∈ fp, H' b = none) E s1) E s
  done : ∀ (X : Cx), X.prog = P → X.w = w → X.K = K → X.calm = true → ∀ (i : Nat) (pins : List (Addr × Obj)) (s : Shared) (σ : St) (H : Hp) (E : Value → Shared → Prop), Inv X pins σ H s → (∀ b ∈ fp, FpOk X pins H b) → tn i s.heap → J.stop i H →
    wpAny (model P w) X.A (pyNext (.ref it)) (fun r s1 => r = none ∧ Inv X pins σ H s1) E s
  self : ∀ (A : Around) (i : Nat) (s : Shared) (Q : Value → Shared → Prop) (E : Value → Shared → Prop), tn i s.heap → Q (.ref it) s → wpAny (model P w) A (pyIter (.ref it)) Q E s
noncomputable abbrev TI := St → Hp → (It → Hp → Prop) → Prop
/-- an iterator has come -/
noncomputable def PIE (X : Cx) (pins : List (Addr × Obj)) (σ : St) (tg : Expr) (R : It → Hp → Prop) (itv : Value) (s2 : Shared) : Prop :=
  ∃ (it : Addr) (fp : List Addr) (tn : Nat → Heap → Prop) (J : It) (H' : Hp), itv = .ref it ∧ Inv X pins σ H' s2 ∧ Turn X.prog X.w X.K tg J fp it tn ∧ tn 0 s2.heap ∧ (∀ b ∈ fp, FpOk X pins H' b) ∧ R J H'
noncomputable def PI (X : Cx) (tg iter : Expr) (wi : TI) : Prop :=
  ∀ (pins : List (Addr × Obj)) (s : Shared) (σ : St) (H : Hp) (R : It → Hp → Prop), Inv X pins σ H s → wi σ H R →
    wpAny (model X.prog X.w) X.A (eval iter X.env) (fun v s1 => wpAny (model X.prog X.w) X.A (pyIter v) (PIE X pins σ tg R) X.xe s1) X.xe s

/-- the step ahead of the store is nothing for an iterator that keeps no tuple -/
theorem go_of {M : Model} {A : Around} {E : Value → Shared → Prop} {s : Shared} {tg : Expr} {it : Addr} {u : Value} {o : Obj} {n : String} {vs : Array Value} {Q : Unit → Shared → Prop} (ho : s.heap.get? it = some o) (hc : o.cls = .type n) (hd : o.data = .fields vs)
    (hn : ["enumerate", "zip", "dict_itemiterator", "dict_reverseitemiterator", "odict_iterator", "itertools.zip_longest", "itertools.pairwise"].contains n = false) (hQ : Q () s) : wpAny M A (letOwnedTupleGo tg (.ref it) u) Q E s := by
  unfold letOwnedTupleGo
  cases tg <;> first
    | exact wpAny_pure hQ
    | (cases u <;> first
        | exact wpAny_pure hQ
        | (refine wpAny_bind (wpAny_load ho ?_)
           rw [hc, hd]
           show wpAny M A (if (["enumerate", "zip", "dict_itemiterator", "dict_reverseitemiterator", "odict_iterator", "itertools.zip_longest", "itertools.pairwise"].contains n && vs[0]? == some (rawInt _)) = true then _ else _) Q E s
           rw [if_neg (by intro h; rw [hn, Bool.false_and] at h; cases h)]
           exact wpAny_pure hQ))

/-- the list at a, as it stands at each turn (a loop may append to it) -/
noncomputable def Itl (K : PySem.W.Frag) (a : Addr) : It :=
  ⟨fun i H => ∃ xs x, SqL K H a xs ∧ xs[i]? = some x, fun i H x H' => H' = H ∧ ∀ xs, SqL K H a xs → xs[i]? = some x, fun i H => ∃ xs, SqL K H a xs ∧ xs.length ≤ i⟩
/-- lo, lo + 1, .. (n of them) -/
noncomputable def Itr (lo : Int) (n : Nat) : It := ⟨fun i _ => i < n, fun i H x H' => H' = H ∧ x = .int (lo + i), fun i _ => n ≤ i⟩
theorem turn_list {P : Program} {w : World} {K : PySem.W.Frag} {tg : Expr} (a it : Addr) : Turn P w K tg (Itl K a) [it] it (fun i h => h.IsListIter it a i) where
  mem := by simp
  obj := fun i h st b hb => by
    have e : b = it := by simpa using hb
    subst e
    obtain ⟨o, e, c, d⟩ := st
    exact ⟨o, e, fun v z => by rw [d] at z; cases z⟩
  keep := fun i h h' st k => st.at fun o e => k it (by simp) o e
  item := by
    intro X hP hw hK hc i pins s σ H E I hf st hg
    subst hP hw hK
    obtain ⟨xs, x, hq, hx⟩ := hg
    obtain ⟨its, rv, p, hz⟩ := I.list hq
    obtain ⟨u, hu, ru⟩ := rv.get hx
    obtain ⟨f0, f1, f2, f3, f4, f5⟩ := hf it (by simp)
    refine wpAny_pyNext_list_item st p.isList (x := u) (by simpa using hu) fun h' st' sb => ?_
    have I1 : Inv X pins σ H { s with heap := h' } := I.turned (t' := s.toks) (fun b o hb e => (sb.2 b hb).trans e) f0 f1 f3 f4 f5
    obtain ⟨o, e, c, d⟩ := id st'
    exact ⟨u, rfl, go_of (s := { s with heap := h' }) e c d (by decide) ⟨x, H, I1, ru, ⟨rfl, fun ys hy => by rw [I.list_inj hy hq]; exact hx⟩, st', fun b hb => (hf b hb).1⟩⟩
  done := by
    intro X hP hw hK hc i pins s σ H E I hf st hg
    subst hP hw hK
    obtain ⟨xs, hq, hx⟩ := hg
    obtain ⟨its, rv, p, hz⟩ := I.list hq
    obtain ⟨f0, f1, f2, f3, f4, f5⟩ := hf it (by simp)
    have hl := rv.length
    exact wpAny_pyNext_list_end (I.ok.hd hc) st p.isList (by simp; omega) fun h' eb => ⟨rfl, I.turned (t' := s.toks) (fun b o hb e => eb b o hb e) f0 f1 f3 f4 f5⟩
  self := fun _ _ _ _ _ st h => wpAny_pyIter_listiter st h
theorem turn_range {P : Program} {w : World} {K : PySem.W.Frag} {tg : Expr} (it : Addr) (lo : Int) (n : Nat) : Turn P w K tg (Itr lo n) [it] it (fun i h => IsRangeIter h it (lo + (i : Nat) * 1) ((n : Int) - (i : Nat)) 1) where
  mem := by simp
  obj := fun i h st b hb => by
    have e : b = it := by simpa using hb
    subst e
    exact ⟨_, st, fun v z => by
      have z' : Data.fields _ = Data.cell v := z
      cases z'⟩
  keep := fun i h h' st k => k it (by simp) _ st
  item := by
    intro X hP hw hK hc i pins s σ H E I hf st hg
    subst hP hw hK
    obtain ⟨f0, f1, f2, f3, f4, f5⟩ := hf it (by simp)
    have W := Walks.range (prog := X.prog) (w := X.w) (I.ok.hd hc) it lo 1 n
    refine W.item i s _ _ hg st fun v h' tk hv st' kk => ?_
    obtain ⟨t, rfl⟩ := hv
    have I1 : Inv X pins σ H { s with heap := h', toks := tk } := I.turned (fun b o hb e => kk b o (by simpa using hb) e) f0 f1 f3 f4 f5
    refine ⟨_, rfl, go_of (s := { s with heap := h', toks := tk }) (n := "range_iterator") st' rfl rfl (by decide) ⟨.int (lo + i), H, I1, ⟨t, ?_⟩, ⟨rfl, rfl⟩, st', fun b hb => (hf b hb).1⟩⟩
    rw [Int.mul_one]
  done := by
    intro X hP hw hK hc i pins s σ H E I hf st hg
    subst hP hw hK
    obtain ⟨f0, f1, f2, f3, f4, f5⟩ := hf it (by simp)
    exact wpAny_pyNext_range_end (I.ok.hd hc) st (by have : n ≤ i := hg; omega) fun h' eb => ⟨rfl, I.turned (t' := s.toks) (fun b o hb e => eb b o hb e) f0 f1 f3 f4 f5⟩
  self := fun _ _ _ _ _ st h => wpAny_pyIter_rangeiter st h
end L2

namespace L2
open PySem PySem.Spec PyProof.Rows
section
variable {X : Cx} {tg : Expr}
noncomputable def iList (K : PySem.W.Frag) (tl : TE) : TI := fun σ H R => tl σ H fun x H1 => ∃ a, x = .ref a ∧ (∃ xs, SqL K H1 a xs) ∧ R (Itl K a) H1
theorem pi_list {l : Expr} {tl : TE} (hl : PE X l tl) : PI X tg l (iList X.K tl) := by
  intro pins s σ H R I h
  refine thn (hl pins s σ H _ I h) fun v s1 hh9 => ?_
  obtain ⟨x, H1, I1, r1, q1⟩ := hh9
  obtain ⟨a, e, ⟨xs, hq⟩, q⟩ := q1
  subst e
  cases r1
  obtain ⟨its, rv, p, hz⟩ := I1.list hq
  refine wpAny_pyIter_list p.isList ?_
  refine ⟨s1.heap.objs.size, [s1.heap.objs.size], _, _, H1, rfl, I1.kept (t' := s1.toks) fun b o e => Heap.get?_push_of_some _ e, turn_list a _, ⟨_, Heap.get?_push_size _ rfl, rfl, rfl⟩, fun b hb => ?_, q⟩
  have e : b = s1.heap.objs.size := by simpa using hb
  subst e
  exact I1.fpOk (Nat.le_refl _) (I1.hok.fresh (Nat.le_refl _))
/-- a range object just made, walked -/
theorem range_it {pins : List (Addr × Obj)} {σ : St} {H : Hp} {s : Shared} {R : It → Hp → Prop} {E : Value → Shared → Prop} {lo hi : Int} {t u v : Tok} {tk : Nat} (I : Inv X pins σ H s) (h1 : -(2 ^ 62) ≤ lo) (h2 : lo < 2 ^ 62) (h3 : -(2 ^ 62) ≤ hi) (h4 : hi < 2 ^ 62)
    (q : R (Itr lo (hi - lo).toNat) H) : wpAny (model X.prog X.w) X.A (pyIter (.ref s.heap.objs.size)) (PIE X pins σ tg R) E { s with heap := s.heap.push { cls := .type "range", data := .fields #[.int lo t, .int hi u, .int 1 v] }, toks := tk } := by
  refine wpAny_pyIter_range (IsRange.new ..) (small_one h1 h2 h3 h4) ?_
  have I1 : Inv X pins σ H { s with heap := s.heap.push { cls := .type "range", data := .fields #[.int lo t, .int hi u, .int 1 v] }, toks := tk } := I.kept fun b o e => Heap.get?_push_of_some _ e
  refine ⟨(s.heap.push { cls := .type "range", data := .fields #[.int lo t, .int hi u, .int 1 v] }).objs.size, [(s.heap.push { cls := .type "range", data := .fields #[.int lo t, .int hi u, .int 1 v] }).objs.size], _, _, H, rfl,
    I1.kept (t' := tk) fun b o e => Heap.get?_push_of_some _ e, turn_range _ lo (hi - lo).toNat, ?_, fun b hb => ?_, q⟩
  · have e1 : lo + ((0 : Nat) : Int) * 1 = lo := by simp
    have e2 : (((hi - lo).toNat : Nat) : Int) - ((0 : Nat) : Int) = Builtin.Range.rangeSize lo hi 1 := by rw [rangeSize_one]; split <;> omega
    show IsRangeIter _ _ (lo + ((0 : Nat) : Int) * 1) ((((hi - lo).toNat : Nat) : Int) - ((0 : Nat) : Int)) 1
    rw [e1, e2]
    exact Heap.get?_push_size _ rfl
  · have e : b = (s.heap.push { cls := .type "range", data := .fields #[.int lo t, .int hi u, .int 1 v] }).objs.size := by simpa using hb
    subst e
    exact I1.fpOk (Nat.le_refl _) (I1.hok.fresh (Nat.le_refl _))
noncomputable def iRng1 (ta : TA) : TI := fun σ H R => ta σ H fun vs H1 => ∃ j : Int, vs = [.int j] ∧ -(2 ^ 62) ≤ j ∧ j < 2 ^ 62 ∧ R (Itr 0 j.toNat) H1
theorem pi_range1 {a : Expr} {ta : TA} {p pos : Pos} (hg : Gl X "range") (hm : X.mg "range" = none) (ha : PA X [a] ta) (hs : starEach [a] X.env = [(false, eval a X.env)] := by rfl) : PI X tg (.Call (.Name "range" p) [a] [] pos) (iRng1 ta) := by
  intro pins s σ H R I h
  refine Call_ (ld_blt I hg hm boot_range (PyProof.Rows.callWith_type1 (thn (ha pos pins s σ H _ I h) fun us s1 hh9 => ?_) hs rfl))
  obtain ⟨vs, H1, I1, r1, q1⟩ := hh9
  obtain ⟨j, e, q1, q2, q⟩ := q1
  subst e
  cases r1 with
  | cons r rr =>
    cases rr
    obtain ⟨t, rfl⟩ := r
    exact call_range_1 (range_it I1 (by omega) (by omega) q1 q2 (by simpa using q))
/-! ### for -/
/-- W: the invariant by the turn and a measure; N: what the body is to reach -/
noncomputable def tFor (wi : TI) (g : TG) (tb : TS) : TS := fun D σ H => wi σ H fun J H1 => ∃ W : Nat → Nat → St → Hp → Prop, (∃ m, W 0 m σ H1) ∧ ∀ i m σ H, W i m σ H →
  (J.stop i H ∧ D.nx σ H) ∨ (J.go i H ∧ ∃ N : St → Hp → Prop, (∀ σ' H', N σ' H' → ∃ m', m' < m ∧ W (i + 1) m' σ' H') ∧ ∀ x H', J.yld i H x H' → g x σ H' fun σ2 H2 => tb { D with nx := N, ct := N, bk := D.nx } σ2 H2)
/-- the records at fp as they stand -/
noncomputable def pinsAt (fp : List Addr) (h : Heap) : List (Addr × Obj) := fp.filterMap fun b => (h.get? b).map fun o => (b, o)
theorem mem_pinsAt {fp : List Addr} {h : Heap} {b : Addr} {o : Obj} (hb : b ∈ fp) (e : h.get? b = some o) : (b, o) ∈ pinsAt fp h := List.mem_filterMap.mpr ⟨b, hb, by rw [e]; rfl⟩
theorem of_pinsAt {fp : List Addr} {h : Heap} {p : Addr × Obj} (hp : p ∈ pinsAt fp h) : p.1 ∈ fp ∧ h.get? p.1 = some p.2 := by
  obtain ⟨b, hb, e⟩ := List.mem_filterMap.mp hp
  cases q : h.get? b with
  | none => rw [q] at e; cases e
  | some o =>
    rw [q] at e
    have e' : (b, o) = p := Option.some.inj e
    subst e'
    exact ⟨hb, q⟩
theorem Inv.pinned {pins : List (Addr × Obj)} {σ : St} {H : Hp} {s : Shared} {fp : List Addr} (I : Inv X pins σ H s) (hf : ∀ b ∈ fp, FpOk X pins H b) (ho : ∀ b ∈ fp, ∃ o, s.heap.get? b = some o ∧ ∀ v, o.data ≠ .cell v) : Inv X (pins ++ pinsAt fp s.heap) σ H s :=
  I.pins_of fun p hp => (List.mem_append.mp hp).elim (fun z => I.pin p (List.mem_append_right _ z)) fun z => by
    obtain ⟨hb, e⟩ := of_pinsAt z
    obtain ⟨f0, f1, f2, _⟩ := hf p.1 hb
    obtain ⟨o, e', d⟩ := ho p.1 hb
    rw [e] at e'; cases e'
    exact ⟨e, f0, f1, f2, d⟩
theorem Inv.unpinned {pins pl : List (Addr × Obj)} {σ : St} {H : Hp} {s : Shared} (I : Inv X (pins ++ pl) σ H s) : Inv X pins σ H s := I.pins_of fun p hp => I.pin p (List.mem_append_right _ (List.mem_append_left _ hp))
theorem ps_for {iter : Expr} {body : List Stmt} {wi : TI} {g : TG} {tb : TS} {pos : Pos} (hp : PassesOwn (model X.prog X.w) X.A X.env X.xe) (hc : X.calm = true) (hi : PI X tg iter wi) (hg : PG X tg g) (hb : PSs X body tb)
    (hs : ∀ x, foldedSetIterable iter X.env x = pure x := by intro _; rfl) : PS X (.For tg iter body [] pos) (tFor wi g tb) := by
  intro pins s σ H D I h
  refine wpAny_For (thn (hi pins s σ H _ I h) fun v s1 h1 => thn h1 fun itv s2 h2 => ?_) hs
  obtain ⟨it, fp, tn, J, H2, e, I2, T, st2, f2, W, ⟨m0, w0⟩, turn⟩ := h2
  subst e
  -- what stays true of the iterator's objects through the loop
  have stat : ∀ {H' : Hp}, (∀ b ∈ fp, H' b = none) → ∀ b ∈ fp, FpOk X pins H' b := fun hn b hb => ⟨hn b hb, (f2 b hb).2⟩
  refine codeAny_forLoop_any (fun n s' => ∃ i σ' H', Inv X pins σ' H' s' ∧ tn i s'.heap ∧ (∀ b ∈ fp, H' b = none) ∧ W i n σ' H') ?_ m0 ⟨0, σ, H2, I2, st2, fun b hb => (f2 b hb).1, w0⟩
  rintro n s3 ⟨i, σ3, H3, I3, st3, fr3, w3⟩
  rcases turn i n σ3 H3 w3 with ⟨stop, qn⟩ | ⟨go, N, hN, step⟩
  · refine wpAny_passesOwn hp (thn (T.done X rfl rfl rfl hc i pins s3 σ3 H3 X.xe I3 (stat fr3) st3 stop) fun r s4 hh9 => ?_)
    obtain ⟨hr, I4⟩ := hh9
    subst hr
    exact wpAny_execs_nil ⟨σ3, H3, I4, qn⟩
  · refine wpAny_passesOwn hp (thn (T.item X rfl rfl rfl hc i pins s3 σ3 H3 X.xe I3 (stat fr3) st3 go) fun r s4 hh9 => ?_)
    obtain ⟨u, hr, h4⟩ := hh9
    subst hr
    refine wpAny_passesOwn hp (thn h4 fun _ s5 hh9 => ?_)
    obtain ⟨x, H5, I5, r5, y5, st5, fr5⟩ := hh9
    have I5' := I5.pinned (stat fr5) (T.obj _ _ st5)
    refine wpAny_passesOwn hp (thn (hg _ s5 σ3 H5 x u _ I5' r5 (step x H5 y5)) fun _ s6 hh9 => ?_)
    obtain ⟨σ6, H6, I6, q6⟩ := hh9
    refine wpAny_passesOwn hp (thn (hb _ s6 σ6 H6 _ I6 q6) fun f s7 q7 => ?_)
    have again : ∀ {σ7 : St} {H7 : Hp}, Inv X (pins ++ pinsAt fp s5.heap) σ7 H7 s7 → N σ7 H7 → ∃ m, m < n ∧ ∃ i σ' H', Inv X pins σ' H' s7 ∧ tn i s7.heap ∧ (∀ b ∈ fp, H' b = none) ∧ W i m σ' H' := fun {σ7 H7} I7 n7 => by
      obtain ⟨m', hm, w7⟩ := hN σ7 H7 n7
      refine ⟨m', hm, i + 1, σ7, H7, I7.unpinned, T.keep _ _ _ st5 fun b hb o e => (I7.pin (b, o) (List.mem_append_right _ (List.mem_append_right _ (mem_pinsAt hb e)))).1, fun b hb => ?_, w7⟩
      obtain ⟨o, e, d⟩ := T.obj _ _ st5 b hb
      exact (I7.pin (b, o) (List.mem_append_right _ (List.mem_append_right _ (mem_pinsAt hb e)))).2.1
    cases f with
    | next => obtain ⟨σ7, H7, I7, n7⟩ := q7; exact again I7 n7
    | cont => obtain ⟨σ7, H7, I7, n7⟩ := q7; exact again I7 n7
    | brk => obtain ⟨σ7, H7, I7, q7⟩ := q7; exact ⟨σ7, H7, I7.unpinned, q7⟩
    | ret v => obtain ⟨x7, σ7, H7, I7, r7, q7⟩ := q7; exact ⟨x7, σ7, H7, I7.unpinned, r7, q7⟩
end

/-! ### the forms one uses -/
/-- over a list that the body leaves as it is -/
theorem for_list {K : PySem.W.Frag} {a : Addr} {xs : List V} {g : TG} {tb : TS} {D : Ends} {σ : St} {H : Hp} (Pv : Nat → St → Hp → Prop) (h0 : Pv 0 σ H) (hl : ∀ i σ H, i ≤ xs.length → Pv i σ H → SqL K H a xs)
    (hs : ∀ i x σ H, xs[i]? = some x → Pv i σ H → g x σ H fun σ2 H2 => tb { D with nx := Pv (i + 1), ct := Pv (i + 1), bk := D.nx } σ2 H2) (hd : ∀ σ H, Pv xs.length σ H → D.nx σ H) :
    ∃ W : Nat → Nat → St → Hp → Prop, (∃ m, W 0 m σ H) ∧ ∀ i m σ H, W i m σ H →
      ((Itl K a).stop i H ∧ D.nx σ H) ∨ ((Itl K a).go i H ∧ ∃ N : St → Hp → Prop, (∀ σ' H', N σ' H' → ∃ m', m' < m ∧ W (i + 1) m' σ' H') ∧ ∀ x H', (Itl K a).yld i H x H' → g x σ H' fun σ2 H2 => tb { D with nx := N, ct := N, bk := D.nx } σ2 H2) := by
  refine ⟨fun i m σ H => m = xs.length - i ∧ i ≤ xs.length ∧ Pv i σ H, ⟨xs.length, by simp, Nat.zero_le _, h0⟩, ?_⟩
  rintro i m σ H ⟨rfl, hi, p⟩
  have q := hl i σ H hi p
  by_cases hlt : i < xs.length
  · refine .inr ⟨⟨xs, xs[i], q, by simp [hlt]⟩, Pv (i + 1), fun σ' H' p' => ⟨xs.length - (i + 1), by omega, rfl, hlt, p'⟩, fun x H' y => ?_⟩
    obtain ⟨e, y⟩ := y
    subst e
    exact hs i x σ _ (y xs q) p
  · have e : i = xs.length := by omega
    subst e
    exact .inl ⟨⟨xs, q, Nat.le_refl _⟩, hd σ H p⟩
theorem for_range {lo : Int} {n : Nat} {g : TG} {tb : TS} {D : Ends} {σ : St} {H : Hp} (Pv : Nat → St → Hp → Prop) (h0 : Pv 0 σ H)
    (hs : ∀ i σ H, i < n → Pv i σ H → g (.int (lo + i)) σ H fun σ2 H2 => tb { D with nx := Pv (i + 1), ct := Pv (i + 1), bk := D.nx } σ2 H2) (hd : ∀ σ H, Pv n σ H → D.nx σ H) :
    ∃ W : Nat → Nat → St → Hp → Prop, (∃ m, W 0 m σ H) ∧ ∀ i m σ H, W i m σ H →
      ((Itr lo n).stop i H ∧ D.nx σ H) ∨ ((Itr lo n).go i H ∧ ∃ N : St → Hp → Prop, (∀ σ' H', N σ' H' → ∃ m', m' < m ∧ W (i + 1) m' σ' H') ∧ ∀ x H', (Itr lo n).yld i H x H' → g x σ H' fun σ2 H2 => tb { D with nx := N, ct := N, bk := D.nx } σ2 H2) := by
  refine ⟨fun i m σ H => m = n - i ∧ i ≤ n ∧ Pv i σ H, ⟨n, by simp, Nat.zero_le _, h0⟩, ?_⟩
  rintro i m σ H ⟨rfl, hi, p⟩
  by_cases hlt : i < n
  · refine .inr ⟨hlt, Pv (i + 1), fun σ' H' p' => ⟨n - (i + 1), by omega, rfl, hlt, p'⟩, fun x H' y => ?_⟩
    obtain ⟨e, y⟩ := y
    subst e y
    exact hs i σ _ hlt p
  · have e : i = n := by omega
    subst e
    exact .inl ⟨Nat.le_refl _, hd σ H p⟩
end L2

namespace L2
open PySem PySem.Spec PyProof.Rows

noncomputable abbrev R2 := V → V → Hp → VK → Prop
/-- a two-place operation on values: f is binaryOp op, inplaceOp op or compareOp op -/
noncomputable def OpR (X : Cx) (f : Value → Value → Sem Value) (r : R2) : Prop :=
  ∀ (pins : List (Addr × Obj)) (s : Shared) (σ : St) (H : Hp) (x y : V) (v u : Value) (Q : VK), Inv X pins σ H s → RelV x v → RelV y u → r x y H Q →
    wpAny (model X.prog X.w) X.A (f v u) (EP X pins σ Q) X.xe s
/-- a call of a value that is known (a builtin, a type) with values -/
noncomputable def CallR (X : Cx) (f : Value) (r : List V → Hp → VK → Prop) : Prop :=
  ∀ (pins : List (Addr × Obj)) (s : Shared) (σ : St) (H : Hp) (xs : List V) (us : List Value) (Q : VK), Inv X pins σ H s → Vals xs us → r xs H Q →
    wpAny (model X.prog X.w) X.A (call f us) (EP X pins σ Q) X.xe s
noncomputable def tOp (r : R2) (ta tb : TE) : TE := fun σ H Q => ta σ H fun x H1 => tb σ H1 fun y H2 => r x y H2 Q
/-- ints in, under C, and a value out -/
noncomputable def rI (C : Int → Int → Prop) (g : Int → Int → V) : R2 := fun x y H Q => ∃ i j, x = .int i ∧ y = .int j ∧ C i j ∧ Q (g i j) H
noncomputable def rI0 (g : Int → Int → V) : R2 := fun x y H Q => ∃ i j, x = .int i ∧ y = .int j ∧ Q (g i j) H
section
variable {X : Cx} {a b c : Expr} {ta tb tc : TE} {pos : Pos}

theorem binT (ha : PE X a ta) (hb : PE X b tb) {pins : List (Addr × Obj)} {s : Shared} {σ : St} {H : Hp} {R : V → V → Hp → Prop} (I : Inv X pins σ H s)
    (h : ta σ H fun x H1 => tb σ H1 fun y H2 => R x y H2) {Q : Value → Shared → Prop} {f : Value → Value → Sem Value}
    (hf : ∀ v u s2 x y H2, Inv X pins σ H2 s2 → RelV x v → RelV y u → R x y H2 → wpAny (model X.prog X.w) X.A (f v u) Q X.xe s2) :
    wpAny (model X.prog X.w) X.A (eval a X.env) (fun v s₁ => wpAny (model X.prog X.w) X.A (eval b X.env) (fun u s₂ => wpAny (model X.prog X.w) X.A (f v u) Q X.xe s₂) X.xe s₁) X.xe s := by
  refine thn (ha pins s σ H _ I h) fun v s1 hh9 => ?_
  obtain ⟨x, H1, I1, r1, q1⟩ := hh9
  refine thn (hb pins s1 σ H1 _ I1 q1) fun u s2 hh9 => ?_
  obtain ⟨y, H2, I2, r2, q2⟩ := hh9
  exact hf v u s2 x y H2 I2 r1 r2 q2

theorem pe_op {op : Operator} {r : R2} (ho : OpR X (binaryOp op) r) (ha : PE X a ta) (hb : PE X b tb) : PE X (.BinOp a op b pos) (tOp r ta tb) := by
  intro pins s σ H Q I h
  exact wpAny_BinOp (binT ha hb I h fun v u s2 x y H2 I2 rx ry q => ho pins s2 σ H2 x y v u Q I2 rx ry q)
/-! ### ints -/
theorem opI {f : Value → Value → Sem Value} {C : Int → Int → Prop} {g : Int → Int → Int}
    (rule : ∀ (i j : Int) (t u : Tok) (s : Shared) (Q : Value → Shared → Prop) (E : Value → Shared → Prop), C i j → Q (.int (g i j) s.toks) { s with toks := s.toks + 1 } → wpAny (model X.prog X.w) X.A (f (.int i t) (.int j u)) Q E s) :
    OpR X f (rI C fun i j => .int (g i j)) := by
  intro pins s σ H x y v u Q I rx ry h
  obtain ⟨i, j, rfl, rfl, hc, q⟩ := h
  obtain ⟨t, rfl⟩ := rx
  obtain ⟨t', rfl⟩ := ry
  exact rule i j t t' s _ _ hc ⟨.int (g i j), H, I.tok _, ⟨_, rfl⟩, q⟩
theorem opI0 {f : Value → Value → Sem Value} {g : Int → Int → Int}
    (rule : ∀ (i j : Int) (t u : Tok) (s : Shared) (Q : Value → Shared → Prop) (E : Value → Shared → Prop), Q (.int (g i j) s.toks) { s with toks := s.toks + 1 } → wpAny (model X.prog X.w) X.A (f (.int i t) (.int j u)) Q E s) :
    OpR X f (rI0 fun i j => .int (g i j)) := by
  intro pins s σ H x y v u Q I rx ry h
  obtain ⟨i, j, rfl, rfl, q⟩ := h
  obtain ⟨t, rfl⟩ := rx
  obtain ⟨t', rfl⟩ := ry
  exact rule i j t t' s _ _ ⟨.int (g i j), H, I.tok _, ⟨_, rfl⟩, q⟩
theorem opB0 {f : Value → Value → Sem Value} {g : Int → Int → Bool}
    (rule : ∀ (i j : Int) (t u : Tok) (s : Shared) (Q : Value → Shared → Prop) (E : Value → Shared → Prop), Q (.bool (g i j)) s → wpAny (model X.prog X.w) X.A (f (.int i t) (.int j u)) Q E s) :
    OpR X f (rI0 fun i j => .bl (g i j)) := by
  intro pins s σ H x y v u Q I rx ry h
  obtain ⟨i, j, rfl, rfl, q⟩ := h
  obtain ⟨t, rfl⟩ := rx
  obtain ⟨t', rfl⟩ := ry
  exact rule i j t t' s _ _ ⟨.bl (g i j), H, I, rfl, q⟩

noncomputable def CDiv (i j : Int) : Prop := 0 < j ∧ j < 1073741824
noncomputable def CMul (i j : Int) : Prop := (-(2 ^ 64) < i ∧ i < 2 ^ 64) ∨ (-(2 ^ 64) < j ∧ j < 2 ^ 64)
theorem CMul.ok {i j : Int} (h : CMul i j) : IntMulOk i j := by
  rcases h with ⟨h1, h2⟩ | ⟨h1, h2⟩
  · exact .of_left (intBits_le_64 h1 h2)
  · exact .of_right (intBits_le_64 h1 h2)
theorem op_add : OpR X (binaryOp .Add) (rI0 fun i j => .int (i + j)) := opI0 fun _ _ _ _ _ _ _ q => add_int q
theorem op_sub : OpR X (binaryOp .Sub) (rI0 fun i j => .int (i - j)) := opI0 fun _ _ _ _ _ _ _ q => sub_int q
theorem op_mul : OpR X (binaryOp .Mult) (rI CMul fun i j => .int (i * j)) := opI fun _ _ _ _ _ _ _ hc q => mul_int q hc.ok
/-- // by a positive divisor -/
theorem op_fdiv : OpR X (binaryOp .FloorDiv) (rI CDiv fun i j => .int (i / j)) := opI fun i j _ _ _ _ _ hc q => by
  have h1 : (0 : Int) < j := hc.1
  have h2 : j < 1073741824 := hc.2
  exact floordiv_int (by omega) (by rw [Int.fdiv_eq_ediv_of_nonneg i (by omega)]; exact q) (.inl (PyProof.noPylong_small (by omega)))
/-- % by a positive divisor of any size -/
theorem op_mod : OpR X (binaryOp .Mod) (rI (fun _ j => 0 < j) fun i j => .int (i % j)) := opI fun i j _ _ _ _ _ hc q => by
  have h1 : (0 : Int) < j := hc
  exact mod_int' (by omega) (by rw [Int.fmod_eq_emod_of_nonneg i (by omega)]; exact q)
/-! ### bools among ints: n += (a < b) -/
end

/-! ### comparisons -/
/-- the scalars that == tells apart as data does -/
noncomputable def scal : V → V → Bool
  | .non, .non => true | .non, .int _ => true | .int _, .non => true | .non, .bl _ => true | .bl _, .non => true | .non, .str _ => true | .str _, .non => true
  | .int _, .int _ => true | .bl _, .bl _ => true | .str _, .str _ => true | .byt _, .byt _ => true
  | .int _, .str _ => true | .str _, .int _ => true | .bl _, .str _ => true | .str _, .bl _ => true
  | _, _ => false
noncomputable def rEq : R2 := fun x y H Q => scal x y = true ∧ Q (.bl (decide (x = y))) H
noncomputable def rNe : R2 := fun x y H Q => scal x y = true ∧ Q (.bl (!decide (x = y))) H

theorem dec_int {i j : Int} : decide (V.int i = V.int j) = (i == j) := by
  rw [Bool.eq_iff_iff]
  simp
theorem dec_bl {i j : Bool} : decide (V.bl i = V.bl j) = (i == j) := by
  rw [Bool.eq_iff_iff]
  simp
theorem dec_str {i j : Str} : decide (V.str i = V.str j) = (i == j) := by
  rw [Bool.eq_iff_iff]
  simp
theorem dec_byt {i j : Array UInt8} : decide (V.byt i = V.byt j) = (i.toList == j.toList) := by
  rw [Bool.eq_iff_iff]
  cases i
  cases j
  simp

section
variable {X : Cx} {a b c : Expr} {ta tb tc : TE} {pos : Pos}
theorem fin_bl {pins : List (Addr × Obj)} {σ : St} {H : Hp} {s : Shared} {Q : VK} {k k' : Bool} (I : Inv X pins σ H s) (q : Q (.bl k) H) (e : k = k') : EP X pins σ Q (.bool k') s := by
  subst e
  exact ⟨.bl k, H, I, rfl, q⟩
theorem op_eq : OpR X (compareOp .Eq) rEq := by
  intro pins s σ H x y v u Q I rx ry h
  obtain ⟨hs, q⟩ := h
  cases x with
  | non =>
    cases rx
    cases y with
    | non => cases ry; exact PySem.EqNone.eq_none_none (fin_bl I q (by simp))
    | bl j => cases ry; exact PySem.EqNone.eq_none_bool (fin_bl I q (by simp))
    | int j => obtain ⟨t', rfl⟩ := ry; exact PySem.EqNone.eq_none_int (fin_bl I q (by simp))
    | str j => obtain ⟨t', rfl⟩ := ry; exact PySem.EqNone.eq_none_str (fin_bl I q (by simp))
    | _ => exact absurd (show false = true from hs) Bool.false_ne_true
  | bl i =>
    cases rx
    cases y with
    | non => cases ry; exact PySem.EqNone.eq_bool_none (fin_bl I q (by simp))
    | bl j => cases ry; exact eq_bool (fin_bl I q dec_bl)
    | str j => obtain ⟨t', rfl⟩ := ry; exact PySem.EqMixed.eq_bool_str (fin_bl I q (by simp))
    | _ => exact absurd (show false = true from hs) Bool.false_ne_true
  | int i =>
    obtain ⟨t, rfl⟩ := rx
    cases y with
    | non => cases ry; exact PySem.EqNone.eq_int_none (fin_bl I q (by simp))
    | int j => obtain ⟨t', rfl⟩ := ry; exact eq_int (fin_bl I q dec_int)
    | str j => obtain ⟨t', rfl⟩ := ry; exact PySem.EqMixed.eq_int_str (fin_bl I q (by simp))
    | _ => exact absurd (show false = true from hs) Bool.false_ne_true
  | str i =>
    obtain ⟨t, rfl⟩ := rx
    cases y with
    | non => cases ry; exact PySem.EqNone.eq_str_none (fin_bl I q (by simp))
    | bl j => cases ry; exact PySem.EqMixed.eq_str_bool (fin_bl I q (by simp))
    | int j => obtain ⟨t', rfl⟩ := ry; exact PySem.EqMixed.eq_str_int (fin_bl I q (by simp))
    | str j => obtain ⟨t', rfl⟩ := ry; exact eq_str (fin_bl I q dec_str)
    | _ => exact absurd (show false = true from hs) Bool.false_ne_true
  | byt i =>
    obtain ⟨t, rfl⟩ := rx
    cases y with
    | byt j => obtain ⟨t', rfl⟩ := ry; exact PySem.W.eq_bytes (fin_bl I q dec_byt)
    | _ => exact absurd (show false = true from hs) Bool.false_ne_true
  | _ => cases y <;> exact absurd (show false = true from hs) Bool.false_ne_true
theorem op_ne : OpR X (compareOp .NotEq) rNe := by
  intro pins s σ H x y v u Q I rx ry h
  obtain ⟨hs, q⟩ := h
  cases x with
  | non =>
    cases rx
    cases y with
    | non => cases ry; exact PySem.EqNone.ne_none_none (fin_bl I q (by simp))
    | bl j => cases ry; exact PySem.EqNone.ne_none_bool (fin_bl I q (by simp))
    | int j => obtain ⟨t', rfl⟩ := ry; exact PySem.EqNone.ne_none_int (fin_bl I q (by simp))
    | str j => obtain ⟨t', rfl⟩ := ry; exact PySem.EqNone.ne_none_str (fin_bl I q (by simp))
    | _ => exact absurd (show false = true from hs) Bool.false_ne_true
  | bl i =>
    cases rx
    cases y with
    | non => cases ry; exact PySem.EqNone.ne_bool_none (fin_bl I q (by simp))
    | bl j => cases ry; exact ne_bool (fin_bl I q (congrArg not dec_bl))
    | str j => obtain ⟨t', rfl⟩ := ry; exact PySem.EqMixed.ne_bool_str (fin_bl I q (by simp))
    | _ => exact absurd (show false = true from hs) Bool.false_ne_true
  | int i =>
    obtain ⟨t, rfl⟩ := rx
    cases y with
    | non => cases ry; exact PySem.EqNone.ne_int_none (fin_bl I q (by simp))
    | int j => obtain ⟨t', rfl⟩ := ry; exact ne_int (fin_bl I q (congrArg not dec_int))
    | str j => obtain ⟨t', rfl⟩ := ry; exact PySem.EqMixed.ne_int_str (fin_bl I q (by simp))
    | _ => exact absurd (show false = true from hs) Bool.false_ne_true
  | str i =>
    obtain ⟨t, rfl⟩ := rx
    cases y with
    | non => cases ry; exact PySem.EqNone.ne_str_none (fin_bl I q (by simp))
    | bl j => cases ry; exact PySem.EqMixed.ne_str_bool (fin_bl I q (by simp))
    | int j => obtain ⟨t', rfl⟩ := ry; exact PySem.EqMixed.ne_str_int (fin_bl I q (by simp))
    | str j => obtain ⟨t', rfl⟩ := ry; exact ne_str (fin_bl I q (congrArg not dec_str))
    | _ => exact absurd (show false = true from hs) Bool.false_ne_true
  | byt i =>
    obtain ⟨t, rfl⟩ := rx
    cases y with
    | byt j => obtain ⟨t', rfl⟩ := ry; exact PySem.W.ne_bytes (fin_bl I q (congrArg not dec_byt))
    | _ => exact absurd (show false = true from hs) Bool.false_ne_true
  | _ => cases y <;> exact absurd (show false = true from hs) Bool.false_ne_true

theorem op_lt : OpR X (compareOp .Lt) (rI0 fun i j => .bl (decide (i < j))) := opB0 fun _ _ _ _ _ _ _ q => lt_int q
/-- is None, is not None: the right side a value none -/
theorem op_isN : OpR X (compareOp .Is) (fun x y H Q => y = .non ∧ Q (.bl (decide (x = .non))) H) := by
  intro pins s σ H x y v u Q I rx ry h
  obtain ⟨rfl, q⟩ := h
  cases ry
  refine is_none_gen (fin_bl I q ?_)
  cases x <;> first
    | (cases rx; rfl)
    | (obtain ⟨t, rfl⟩ := rx; rfl)
theorem op_notN : OpR X (compareOp .IsNot) (fun x y H Q => y = .non ∧ Q (.bl (!decide (x = .non))) H) := by
  intro pins s σ H x y v u Q I rx ry h
  obtain ⟨rfl, q⟩ := h
  cases ry
  refine isnot_none_gen (fin_bl I q ?_)
  cases x <;> first
    | (cases rx; rfl)
    | (obtain ⟨t, rfl⟩ := rx; rfl)

theorem nomark (b : Expr) {op : CmpOp} (h : op ≠ .In := by decide) (h2 : op ≠ .NotIn := by decide) : behindInMarks op b = false := by
  have e1 : (op == CmpOp.In) = false := by cases op <;> first | rfl | exact absurd rfl h
  have e2 : (op == CmpOp.NotIn) = false := by cases op <;> first | rfl | exact absurd rfl h2
  cases b <;> simp [behindInMarks, e1, e2]
/-- a comparison as a value; hm: nomark b, or (for in, not in) by with_unfolding_all rfl -/
theorem pe_cmpR {op : CmpOp} {r : R2} (ho : OpR X (compareOp op) r) (ha : PE X a ta) (hb : PE X b tb) (hm : behindInMarks op b = false) : PE X (.Compare a [op] [b] pos) (tOp r ta tb) := by
  intro pins s σ H Q I h
  exact wpAny_Compare1 (binT ha hb I h fun v u s2 x y H2 I2 rx ry q => ho pins s2 σ H2 x y v u Q I2 rx ry q) hm
/-- a reading of a value as a test -/
noncomputable def tTest (t : TE) : TT := fun σ H Q => t σ H fun x H' => ∃ k, x = .bl k ∧ Q k H'
theorem pt_cmpR {op : CmpOp} {r : R2} (ho : OpR X (compareOp op) r) (ha : PE X a ta) (hb : PE X b tb) (hm : behindInMarks op b = false) : PT X (.Compare a [op] [b] pos) (tTest (tOp r ta tb)) := by
  intro pins s σ H Q I h
  refine wpAny_isTrue_Compare1 (thn (ha pins s σ H _ I h) fun v s1 ⟨x, H1, I1, r1, q1⟩ => thn (hb pins s1 σ H1 _ I1 q1) fun u s2 ⟨y, H2, I2, r2, q2⟩ =>
    thn (ho pins s2 σ H2 x y v u _ I2 r1 r2 q2) fun c s3 ⟨z, H3, I3, r3, k, e, q3⟩ => ?_) hm
  subst e
  cases r3
  exact wpAny_truthy_bool ⟨H3, I3, q3⟩
/-! ### truth -/
theorem line63 : (sizeLine : Nat) < 2 ^ 63 := by rw [sizeLine_eq]; decide
/-! ### strs and bytes -/
theorem op_add_str : OpR X (binaryOp .Add) (fun x y H Q => ∃ i j, x = .str i ∧ y = .str j ∧ i.length + j.length ≤ sizeLine ∧ Q (.str (i ++ j)) H) := by
  intro pins s σ H x y v u Q I rx ry h
  obtain ⟨i, j, rfl, rfl, hz, q⟩ := h
  obtain ⟨t, rfl⟩ := rx
  obtain ⟨t', rfl⟩ := ry
  exact add_str (fun t' tk => ⟨.str (i ++ j), H, I.tok _, ⟨_, rfl⟩, q⟩) hz
/-! ### scalar builtins, by CallR -/
theorem vals1 {x : V} {us : List Value} (r : Vals [x] us) : ∃ u, us = [u] ∧ RelV x u := by
  cases r with
  | cons r1 r2 => cases r2; exact ⟨_, rfl, r1⟩
/-- len of a str, a bytes, a list, a tuple -/
noncomputable def LenV (K : PySem.W.Frag) (x : V) (H : Hp) (n : Nat) : Prop :=
  match x with
  | .str y => y.length ≤ sizeLine ∧ n = y.length
  | .byt y => y.size ≤ sizeLine ∧ n = y.size
  | .ref p => (∃ xs, SqL K H p xs ∧ n = xs.length) ∨ ∃ xs, SqT K H p xs ∧ n = xs.length
  | _ => False
theorem call_len : CallR X (.builtin "len") (fun xs H Q => ∃ x n, xs = [x] ∧ LenV X.K x H n ∧ Q (.int n) H) := by
  intro pins s σ H xs us Q I r h
  obtain ⟨x, n, rfl, e, q⟩ := h
  obtain ⟨u, rfl, rx⟩ := vals1 r
  have hl := line63
  have hs : sizeLine = 16777216 := sizeLine_eq
  cases x with
  | str y =>
    obtain ⟨t, rfl⟩ := rx
    obtain ⟨hy, e'⟩ : y.length ≤ sizeLine ∧ n = y.length := e
    subst e'
    exact len_str (by omega) ⟨.int _, H, I.tok _, ⟨_, rfl⟩, q⟩
  | byt y =>
    obtain ⟨t, rfl⟩ := rx
    obtain ⟨hy, e'⟩ : y.size ≤ sizeLine ∧ n = y.size := e
    subst e'
    exact PySem.W.len_bytes (by omega) ⟨.int _, H, I.tok _, ⟨_, rfl⟩, q⟩
  | ref p =>
    cases rx
    have e' : (∃ xs, SqL X.K H p xs ∧ n = xs.length) ∨ ∃ xs, SqT X.K H p xs ∧ n = xs.length := e
    rcases e' with ⟨xs, hx, e'⟩ | ⟨xs, hx, e'⟩
    · subst e'
      obtain ⟨its, r', pl, hz⟩ := I.list hx
      have hlen := r'.length
      exact Calls.call_len_list pl.isList (by simp only [List.size_toArray]; omega) ⟨.int xs.length, H, I.tok _, ⟨_, by simp only [List.size_toArray]; rw [hlen]⟩, q⟩
    · subst e'
      obtain ⟨its, r', pl, hz⟩ := I.tuple hx
      have hlen := r'.length
      exact len_tuple pl (by simp only [List.size_toArray]; omega) ⟨.int xs.length, H, I.tok _, ⟨_, by simp only [List.size_toArray]; rw [hlen]⟩, q⟩
  | _ => exact (show False from e).elim
end
end L2

namespace L2
open PySem PySem.Spec PyProof.Rows

/-! ### an instance, its attributes a map -/
structure ObjM (h : Heap) (x dx C : Addr) (mA : Str → Option Value) : Prop where
  obj : h.get? x = some (PySem.W.instObj C dx)
  ns : h.Ns1 dx mA
  ne : dx ≠ x

theorem lookIn_ns {h : Heap} {dx : Addr} {mA : Str → Option Value} (n : h.Ns1 dx mA) : ∃ od, h.get? dx = some od ∧ ∀ name, PySem.W.lookIn name od = some (mA name) := by
  obtain ⟨o, es, ep, ho, hd, hk, _, hm⟩ := n
  refine ⟨o, ho, fun name => ?_⟩
  have e := hm name
  unfold nsFind findBy at e
  rw [← Array.find?_toList] at e
  unfold PySem.W.lookIn
  rw [hd]
  dsimp only
  split
  · rename_i y q
    rw [q] at e
    exact congrArg some e
  · rename_i q
    rw [q] at e
    have a : es.toList.any (·.refKey) = false := by
      rw [List.any_eq_false]
      intro y hy
      obtain ⟨z, t, hkey⟩ := hk y (Array.mem_toList_iff.mp hy)
      simp [DictEntry.refKey, hkey]
    have a' : ¬ es.toList.any (·.refKey) = true := by rw [a]; exact Bool.false_ne_true
    rw [if_neg a']
    exact congrArg some e

theorem ObjM.look {h : Heap} {x dx C : Addr} {mA : Str → Option Value} (I : ObjM h x dx C mA) : ∃ od, PySem.W.InstAt h x (PySem.W.instObj C dx) C (some od) ∧ ∀ name, PySem.W.lookIn name od = some (mA name) :=
  let ⟨od, ho, hl⟩ := lookIn_ns I.ns
  ⟨od, ⟨I.obj, rfl, rfl, ho⟩, hl⟩

section
variable {prog : Program} {w : World} {A : Around} {E : Value → Shared → Prop} {s : Shared} {K : PySem.W.Frag} {x dx C f : Addr} {mA : Str → Option Value} {name : Str} {v : Value}

theorem get_map {expr : Bool} {Q : Value → Shared → Prop} (X : K.In s.heap) (I : ObjM s.heap x dx C mA) (hg : PySem.W.plainGet K C name = true) (hh : PySem.W.hasDictIn K C = true)
    (ha : PySem.W.findIn K (.ref C) name = some none) (hv : mA name = some v) (hv' : PySem.W.handedIn v = true) (h : Q v { s with toks := s.toks + 1 }) :
    wpAny (model prog w) A (getAttr (.ref x) name expr) Q E s := by
  obtain ⟨od, J, hl⟩ := I.look
  exact PySem.W.get_value X J (PySem.W.plainGet_of hg).1 (PySem.W.findObj_own hh ha rfl (by rw [hl, hv])) hv' h

theorem get_meth {pl : Sem Bool} {Q : Value × List Value → Shared → Prop} (X : K.In s.heap) (I : ObjM s.heap x dx C mA) (hg : PySem.W.plainGet K C name = true)
    (hf : PySem.W.findIn K (.ref C) name = some (some (.ref f))) (ht : PySem.W.isFn K (.ref f) = true) (hv : mA name = none) (h : Q (.ref f, [.ref x]) s) :
    wpAny (model prog w) A (getMethod (.ref x) name pl) Q E s := by
  obtain ⟨od, J, hl⟩ := I.look
  exact PySem.W.method_fn X J (PySem.W.plainGet_of hg).1 (PySem.W.plainGet_of hg).2 hf (beq_iff_eq.mp ht) (by show (PySem.W.lookIn name od).map (·.isSome) = some false; rw [hl, hv]; rfl) h

theorem set_map {ns : List Str} {Q : Unit → Shared → Prop} (X : K.In s.heap) (I : ObjM s.heap x dx C mA)
    (hs : PySem.W.findIn K (.ref C) "__setattr__" = some (some (.builtin "object.__setattr__"))) (hp : PySem.W.plainOver K C = true) (ht : PySem.W.takerIn K C name = some none) (hh : PySem.W.hasDictIn K C = true)
    (hw : PySem.Within mA ns) (hsz : ns.length ≤ sizeLine)
    (h : ∀ h', ObjM h' x dx C (fun y => if y = name then some v else mA y) → Heap.SameBut dx s.heap h' → Q () { s with heap := h', toks := s.toks + 2 }) :
    wpAny (model prog w) A (setAttr (.ref x) name v) Q E s := by
  obtain ⟨od, J, hl⟩ := I.look
  refine PySem.W.set_plain X J hs (PySem.W.osa_open (s := { s with toks := s.toks + 1 }) (r := none) X J hp ht fun b => ?_)
  obtain ⟨cd, hc, hd'⟩ := PySem.W.any_some hh
  have hx : s.heap.get? x = some ⟨.ref C, some dx, .plain, #[]⟩ := I.obj
  refine wpAny_bind (wpAny_pure (wpAny_bind (wpAny_bind (wpAny_loadPart hx (wpAny_bind (PySem.W.Looks.here (s := { s with toks := s.toks + 1 }) (PySem.W.looks_clsIn X hc) ?_))))))
  rw [hd']
  refine wpAny_pure (a := some dx) (wpAny_bind (wpAny_pure (wpAny_bind ?_)))
  refine wpAny_nsSet1 (s := { s with toks := s.toks + 1 }) I.ns fun h' hn2 hs2 => ?_
  obtain ⟨oD, esD, epD, hoD, hdD, hcD⟩ := hn2.count (PySem.Within.cons name v hw)
  refine wpAny_bind (wpAny_lookBehind hoD (by rw [hdD]; exact pastItsLine_dict (Nat.le_trans hcD (by rw [List.length_cons]; omega))) ?_)
  exact wpAny_pure (h _ ⟨(hs2.2 _ (Ne.symm I.ne)).trans I.obj, hn2, I.ne⟩ hs2)

/-- C(..): the dict at the heap's end, the instance behind it; then its __init__ -/
theorem make_map {R : Result → Shared → Prop} {vs : List Value} {kw : List (Str × Value)} (X : K.In s.heap) (hm : PySem.W.makesIn K C = true)
    (hi : PySem.W.findIn K (.ref C) "__init__" = some (some (.ref f))) (hf : PySem.W.typeIn K (.ref f) = some (.type "function"))
    (h : codeAny (model prog w) (A.under (.builtin "type.__call__" ⟨.ref C :: vs, kw⟩)) (.call (.ref f) ⟨.ref (s.heap.objs.size + 1) :: vs, kw⟩) (PySem.W.InitBack (s.heap.objs.size + 1) R)
      { s with heap := (s.heap.push PySem.W.emptyDict).push (PySem.W.instObj C s.heap.objs.size) }) :
    codeAny (model prog w) A (.call (.ref C) ⟨vs, kw⟩) R s := by
  obtain ⟨hh, g, d, t, os⟩ := s
  exact PySem.W.make_core (PySem.W.makes_of X hm) (PySem.W.looks_findIn X hi) (fun self => PySem.W.bind_fn X self hf) (.inl rfl) h
end

/-! ### the attributes as a list of pairs -/
noncomputable def putF (f : Str) (v : V) : List (Str × V) → List (Str × V)
  | [] => [(f, v)]
  | (g, x) :: r => if g = f then (g, v) :: r else (g, x) :: putF f v r
theorem lookup_putF (f g : Str) (v : V) : ∀ fs : List (Str × V), (putF f v fs).lookup g = if g = f then some v else fs.lookup g
  | [] => by
    show List.lookup g [(f, v)] = _
    by_cases h : g = f
    · have hb : (g == f) = true := beq_iff_eq.mpr h
      simp only [List.lookup, hb, if_pos h]
    · have hb : (g == f) = false := beq_eq_false_iff_ne.mpr h
      simp only [List.lookup, hb, if_neg h]
  | (k, x) :: r => by
    have ih := lookup_putF f g v r
    rw [show putF f v ((k, x) :: r) = (if k = f then (k, v) :: r else (k, x) :: putF f v r) from rfl]
    by_cases hk : k = f
    · rw [if_pos hk]
      by_cases h : g = k
      · have hb : (g == k) = true := beq_iff_eq.mpr h
        simp only [List.lookup, hb, if_pos (h.trans hk)]
      · have hb : (g == k) = false := beq_eq_false_iff_ne.mpr h
        simp only [List.lookup, hb, if_neg (fun e : g = f => h (e.trans hk.symm))]
    · rw [if_neg hk]
      by_cases h : g = k
      · have hb : (g == k) = true := beq_iff_eq.mpr h
        simp only [List.lookup, hb, if_neg (fun e : g = f => hk (h.symm.trans e))]
      · have hb : (g == k) = false := beq_eq_false_iff_ne.mpr h
        simp only [List.lookup, hb]
        exact ih
theorem keys_putF (f : Str) (v : V) : ∀ fs : List (Str × V), f ∈ (putF f v fs).map (·.1) ∧ ∀ g, g ∈ fs.map (·.1) → g ∈ (putF f v fs).map (·.1)
  | [] => ⟨by simp [putF], fun g h => by simp at h⟩
  | (k, x) :: r => by
    obtain ⟨i1, i2⟩ := keys_putF f v r
    rw [show putF f v ((k, x) :: r) = (if k = f then (k, v) :: r else (k, x) :: putF f v r) from rfl]
    by_cases hk : k = f
    · rw [if_pos hk]
      subst hk
      exact ⟨by simp, fun g h => by simpa using h⟩
    · rw [if_neg hk]
      refine ⟨?_, fun g h => ?_⟩
      · rw [List.map_cons]
        exact List.mem_cons_of_mem _ i1
      · rw [List.map_cons] at h ⊢
        rcases List.mem_cons.mp h with e | e
        · exact List.mem_cons.mpr (.inl e)
        · exact List.mem_cons_of_mem _ (i2 g e)
theorem length_putF (f : Str) (v : V) : ∀ fs : List (Str × V), (putF f v fs).length ≤ fs.length + 1
  | [] => by simp [putF]
  | (k, x) :: r => by
    have ih := length_putF f v r
    rw [show putF f v ((k, x) :: r) = (if k = f then (k, v) :: r else (k, x) :: putF f v r) from rfl]
    by_cases hk : k = f
    · rw [if_pos hk, List.length_cons, List.length_cons]; omega
    · rw [if_neg hk, List.length_cons, List.length_cons]; omega

theorem RelO.some_of {v : V} {o : Option Value} (r : RelO (some v) o) : ∃ u, o = some u ∧ RelV v u := by
  cases o with
  | none => exact (show False from r).elim
  | some u => exact ⟨u, rfl, r⟩
theorem RelO.none_of {o : Option Value} (r : RelO none o) : o = none := by
  cases o with
  | none => rfl
  | some u => exact (show False from r).elim
theorem handed_of {v : V} {u : Value} (r : RelV v u) : PySem.W.handedIn u = true := by
  cases v with
  | non => cases (show u = Value.none from r); rfl
  | bl b => cases (show u = Value.bool b from r); rfl
  | int i => obtain ⟨t, e⟩ := (show ∃ t, u = Value.int i t from r); cases e; rfl
  | str x => obtain ⟨t, e⟩ := (show ∃ t, u = Value.str x t from r); cases e; rfl
  | byt b => obtain ⟨t, e⟩ := (show ∃ t, u = Value.bytes b t from r); cases e; rfl
  | flt b => obtain ⟨t, e⟩ := (show ∃ t, u = Value.float b t from r); cases e; rfl
  | ref a => cases (show u = Value.ref a from r); rfl
  | ty n => cases (show u = Value.type n from r); rfl

section
variable {P : Program} {w : World} {H H' : Hp} {h h' : Heap} {a C dx : Addr} {fs fs' : List (Str × V)}
theorem ins_get (hok : HOk P w H h) (e : H a = some (.ins C dx fs)) : ∃ mA, ObjM h a dx C mA ∧ (∀ f, RelO (fs.lookup f) (mA f)) ∧ PySem.Within mA (fs.map (·.1)) ∧ fs.length ≤ 1000 ∧ H dx = some (.own a) := by
  obtain ⟨d, z, ne, ob, mA, n, r, q⟩ := (show ObjOk P w H h a (.ins C dx fs) from hok a _ e)
  exact ⟨mA, ⟨ob, n, ne⟩, r, q, z, d⟩
end

/-! ### what of the text a class must have -/
structure Cls (K : PySem.W.Frag) (C : Addr) : Prop where
  pg : PySem.W.plainGet K C Str.empty = true
  hd : PySem.W.hasDictIn K C = true
  po : PySem.W.plainOver K C = true
  sa : PySem.W.findIn K (.ref C) "__setattr__" = some (some (.builtin "object.__setattr__"))
theorem Cls.get {K : PySem.W.Frag} {C : Addr} (c : Cls K C) (f : Str) : PySem.W.plainGet K C f = true := c.pg
/-- no class of it has the name -/
noncomputable def NoAttr (K : PySem.W.Frag) (C : Addr) (f : Str) : Prop := PySem.W.findIn K (.ref C) f = some none
theorem NoAttr.taker {K : PySem.W.Frag} {C : Addr} {f : Str} (n : NoAttr K C f) : PySem.W.takerIn K C f = some none := by
  unfold PySem.W.takerIn
  rw [show PySem.W.findIn K (.ref C) f = some none from n]
  rfl
/-- a method: a plain def of the class or of one above it -/
structure Meth (K : PySem.W.Frag) (C : Addr) (m : Str) (f : Addr) : Prop where
  at_ : PySem.W.findIn K (.ref C) m = some (some (.ref f))
  fn : PySem.W.isFn K (.ref f) = true
  kp : PySem.W.keepIn K (.ref f) = true

section
variable {X : Cx} {pins : List (Addr × Obj)} {σ : St} {H : Hp} {s : Shared} {a C dx : Addr} {fs : List (Str × V)} {f : Str} {v : V} {A : Around} {E : Value → Shared → Prop}

theorem getattr_ok {b : Bool} {Q : Value → Shared → Prop} (I : Inv X pins σ H s) (e : H a = some (.ins C dx fs)) (c : Cls X.K C) (n : NoAttr X.K C f) (l : fs.lookup f = some v)
    (h : ∀ u s', Inv X pins σ H s' → RelV v u → Q u s') : wpAny (model X.prog X.w) A (getAttr (.ref a) f b) Q E s := by
  obtain ⟨mA, O, r, _, _, _⟩ := ins_get I.hok e
  obtain ⟨u, hu, ru⟩ := RelO.some_of (v := v) (o := mA f) (by rw [← l]; exact r f)
  exact get_map I.kIn O (c.get f) c.hd n hu (handed_of ru) (h u _ (I.tok _) ru)

theorem getmeth_ok {m : Str} {g : Addr} {pl : Sem Bool} {Q : Value × List Value → Shared → Prop} (I : Inv X pins σ H s) (e : H a = some (.ins C dx fs)) (c : Cls X.K C) (k : Meth X.K C m g) (l : fs.lookup m = none)
    (h : Q (.ref g, [.ref a]) s) : wpAny (model X.prog X.w) A (getMethod (.ref a) m pl) Q E s := by
  obtain ⟨mA, O, r, _, _, _⟩ := ins_get I.hok e
  have hn : mA m = none := RelO.none_of (by rw [← l]; exact r m)
  exact get_meth I.kIn O (c.get m) k.at_ k.fn hn h

theorem setattr_ok {y : V} {u : Value} {Q : Unit → Shared → Prop} (I : Inv X pins σ H s) (e : H a = some (.ins C dx fs)) (c : Cls X.K C) (n : NoAttr X.K C f) (hl : fs.length < 1000) (ry : RelV y u)
    (h : ∀ s', Inv X pins σ (upd H a (.ins C dx (putF f y fs))) s' → Q () s') : wpAny (model X.prog X.w) A (setAttr (.ref a) f u) Q E s := by
  obtain ⟨mA, O, r, wi, _, ho⟩ := ins_get I.hok e
  have hz : (fs.map (·.1)).length ≤ sizeLine := by rw [List.length_map, sizeLine_eq]; omega
  refine set_map I.kIn O c.sa c.po n.taker c.hd wi hz fun h' O' sb => h _ ?_
  have hd : ∃ o, h'.get? dx = some o := let ⟨o, _, _, e', _⟩ := O'.ns; ⟨o, e'⟩
  refine I.write (x := a) (e := dx) (by rw [e]; exact True.intro) (.inr ho) (fun b q hb z => (sb.2 b hb).trans z) hd ?_
  refine ⟨by rw [upd_ne O.ne]; exact ho, ?_, O.ne, O'.obj, _, O'.ns, fun g => ?_, fun g hg => ?_⟩
  · have := length_putF f y fs; omega
  · show RelO ((putF f y fs).lookup g) (if g = f then some u else mA g)
    rw [lookup_putF]
    by_cases q : g = f
    · rw [if_pos q, if_pos q]; exact ry
    · rw [if_neg q, if_neg q]; exact r g
  · by_cases q : g = f
    · rw [q]; exact (keys_putF f y fs).1
    · refine (keys_putF f y fs).2 g (wi g fun z => hg ?_)
      show (if g = f then some u else mA g) = none
      rw [if_neg q]; exact z

/-- a new instance, tracked, without attributes -/
theorem Inv.made (I : Inv X pins σ H s) : Inv X pins σ (upd (upd H s.heap.objs.size (.own (s.heap.objs.size + 1))) (s.heap.objs.size + 1) (.ins C s.heap.objs.size []))
    { s with heap := (s.heap.push PySem.W.emptyDict).push (PySem.W.instObj C s.heap.objs.size) } := by
  have e1 : (s.heap.push PySem.W.emptyDict).get? s.heap.objs.size = some PySem.W.emptyDict := Heap.get?_push_size s.heap rfl
  have e2 : ((s.heap.push PySem.W.emptyDict).push (PySem.W.instObj C s.heap.objs.size)).get? (s.heap.objs.size + 1) = some (PySem.W.instObj C s.heap.objs.size) := by
    have := Heap.get?_push_size (s.heap.push PySem.W.emptyDict) (o := PySem.W.instObj C s.heap.objs.size) rfl
    rwa [Heap.size_push] at this
  have e3 : (s.heap.push PySem.W.emptyDict).Ns s.heap.objs.size (fun _ => none) := ⟨PySem.W.emptyDict, #[], _, e1, rfl, (fun e he => absurd he (by simp)), fun _ => rfl⟩
  have I1 := I.laid (a := s.heap.objs.size) (o := .own (s.heap.objs.size + 1)) (h' := s.heap.push PySem.W.emptyDict) (t' := s.toks) (fun b u q => Heap.get?_push_of_some _ q) (Nat.le_refl _) ⟨_, e1⟩
  refine I1.laid (a := s.heap.objs.size + 1) (o := .ins C s.heap.objs.size []) (t' := s.toks) (fun b u q => Heap.get?_push_of_some _ q) (Nat.le_of_eq (Heap.size_push _ _)) ?_
  have ne : s.heap.objs.size ≠ s.heap.objs.size + 1 := Nat.ne_of_lt (Nat.lt_succ_self _)
  refine ⟨by rw [upd_ne ne, upd_same], Nat.zero_le _, ne, e2, fun _ => none, (Heap.Ns1.of_empty e3).at fun o q => Heap.get?_push_of_some _ q, fun _ => True.intro, fun y hy => absurd rfl hy⟩

/-- e.f where nothing but the object is asked: through attributeBase (super) and the last hold -/
theorem attr_of {prog : Program} {w : World} {env : Env} {e : Expr} {f : Str} {pos : Pos} {s : Shared} {Q : Value → Shared → Prop} (hb : attributeBase e f env (eval e env) = eval e env)
    (h : wpAny (model prog w) A (eval e env) (fun o s₁ => wpAny (model prog w) A (getAttr o f true) Q E s₁) E s) : wpAny (model prog w) A (eval (.Attribute e f pos) env) Q E s :=
  Attribute_any_ h (by rw [arm_eval_Attribute, hb])
end

/-! ### readings and rules -/
/-- e.f, an attribute of the instance -/
noncomputable def tFld (K : PySem.W.Frag) (ta : TE) (f : Str) : TE := fun σ H Q => ta σ H fun x H1 => ∃ a C dx fs v, x = .ref a ∧ H1 a = some (.ins C dx fs) ∧ Cls K C ∧ NoAttr K C f ∧ fs.lookup f = some v ∧ Q v H1
/-- e.f = value -/
noncomputable def sFld (K : PySem.W.Frag) (ta tv : TE) (f : Str) : TS := fun D σ H => tv σ H fun y H1 => ta σ H1 fun x H2 => ∃ a C dx fs, x = .ref a ∧ H2 a = some (.ins C dx fs) ∧ Cls K C ∧ NoAttr K C f ∧ fs.length < 1000 ∧
  D.nx σ (upd H2 a (.ins C dx (putF f y fs)))
section
variable {X : Cx} {o e value : Expr} {f : Str} {pos pos' tpos : Pos} {ta tv : TE}
theorem pe_fld (he : PE X e ta) (hb : attributeBase e f X.env (eval e X.env) = eval e X.env) : PE X (.Attribute e f pos) (tFld X.K ta f) := by
  intro pins s σ H Q I h
  refine attr_of hb (thn (he pins s σ H _ I h) fun u s1 hh9 => ?_)
  obtain ⟨x, H1, I1, rx, a, C, dx, fs, v, ex, ea, c, n, l, q⟩ := hh9
  subst ex
  obtain rfl : u = Value.ref a := rx
  exact getattr_ok I1 ea c n l fun u' s2 I2 ru => ⟨v, H1, I2, ru, q⟩
theorem ps_fld (ha : PE X o ta) (hv : PE X value tv) (hs : swapsWith value (some (.Attribute o f pos')) pos.line X.env = pure false) : PS X (.Assign [.Attribute o f pos'] value pos) (sFld X.K ta tv f) := by
  intro pins s σ H D I h
  refine plainObj_wpAny_Assign_Attribute (thn (hv pins s σ H _ I h) fun u s1 ⟨y, H1, I1, ry, q⟩ => thn (ha pins s1 σ H1 _ I1 q) fun ov s2 hh9 => ?_) hs
  obtain ⟨x, H2, I2, rx, a, C, dx, fs, ex, ea, c, n, l, q2⟩ := hh9
  subst ex
  obtain rfl : ov = Value.ref a := rx
  exact setattr_ok I2 ea c n l ry fun s3 I3 => ⟨σ, _, I3, q2⟩
end

/-! ### isinstance -/
section
variable {X : Cx} {pins : List (Addr × Obj)} {σ : St} {H : Hp} {s : Shared} {A : Around} {E : Value → Shared → Prop} {Q : Value → Shared → Prop} {c : Value} {b : Bool}
/-- the type of a value, as the fragment's deciders take it; for an instance its class -/
inductive TyOf (K : PySem.W.Frag) (H : Hp) : V → Value → Prop where
  | non : TyOf K H .non (.type "NoneType")
  | bl (x : Bool) : TyOf K H (.bl x) (.type "bool")
  | int (i : Int) : TyOf K H (.int i) (.type "int")
  | str (x : Str) : TyOf K H (.str x) (.type "str")
  | flt (x : UInt64) : TyOf K H (.flt x) (.type "float")
  | lst {a : Addr} {xs : List V} (e : H a = some (.lst xs)) : TyOf K H (.ref a) (.type "list")
  | frz {a : Addr} {o : Obj} {xs : List V} (e : H a = some (.frz o (.lst xs))) : TyOf K H (.ref a) (.type "list")
  | tup {a : Addr} {xs : List V} (e : H a = some (.tup xs)) : TyOf K H (.ref a) (.type "tuple")
  | dK {a : Addr} {kvs : List (Key × V)} (e : H a = some (.dK kvs)) : TyOf K H (.ref a) (.type "dict")
  | dT {a : Addr} {kvs : List (List Key × V)} (e : H a = some (.dT kvs)) : TyOf K H (.ref a) (.type "dict")
  | ins {a C dx : Addr} {fs : List (Str × V)} (e : H a = some (.ins C dx fs)) (cl : Cls K C) (ha : PySem.W.findIn K (.ref C) "__class__" = some (some (.builtin "object.__class__")))
      (hn : PySem.W.specialIn K (.builtin "object.__class__") "__get__" = some (some (.builtin "getset_descriptor.__get__"))) (htk : PySem.W.takesIn K (.builtin "object.__class__") = some true)
      (hm : PySem.W.mroIn K C (.type "object") = some true) : TyOf K H (.ref a) (.ref C)
/-- isinstance(x, c) for one class c, a built-in or an own one: kitOne's answer -/
theorem isinst_ok {x : V} {u t : Value} (I : Inv X pins σ H s) (rx : RelV x u) (ty : TyOf X.K H x t) (e : PySem.W.kitOne X.K t c = some b) (h : ∀ tk, Q (.bool b) { s with toks := tk }) :
    wpAny (model X.prog X.w) A (call (.builtin "isinstance") [u, c]) Q E s := by
  cases ty with
  | non => cases (show u = Value.none from rx); exact PySem.W.kia_one PySem.W.kitx_none I.kIn True.intro e (fun z => nomatch z) h
  | bl y => cases (show u = Value.bool y from rx); exact PySem.W.kia_one PySem.W.kitx_bool I.kIn True.intro e (fun z => nomatch z) h
  | int i => obtain ⟨t, q⟩ := (show ∃ t, u = Value.int i t from rx); cases q; exact PySem.W.kia_one PySem.W.kitx_int I.kIn True.intro e (fun z => nomatch z) h
  | str y => obtain ⟨t, q⟩ := (show ∃ t, u = Value.str y t from rx); cases q; exact PySem.W.kia_one PySem.W.kitx_str I.kIn True.intro e (fun z => nomatch z) h
  | flt y => obtain ⟨t, q⟩ := (show ∃ t, u = Value.float y t from rx); cases q; exact PySem.W.kia_one PySem.W.kitx_float I.kIn True.intro e (fun z => nomatch z) h
  | @lst a xs ea =>
    cases (show u = Value.ref a from rx)
    obtain ⟨_, _, n, _, h1⟩ := (show ObjOk X.prog X.w H s.heap a (.lst xs) from I.hok a _ ea)
    exact PySem.W.kia_one PySem.W.kitx_list I.kIn ⟨_, h1, rfl⟩ e (fun z => nomatch z) h
  | @frz a ob xs ea =>
    cases (show u = Value.ref a from rx)
    obtain ⟨_, _, _, n, _, h1⟩ := (show ObjOk X.prog X.w H s.heap a (.frz ob (.lst xs)) from I.hok a _ ea)
    exact PySem.W.kia_one PySem.W.kitx_list I.kIn ⟨_, h1, rfl⟩ e (fun z => nomatch z) h
  | @tup a xs ea =>
    cases (show u = Value.ref a from rx)
    obtain ⟨_, _, _, p⟩ := (show ObjOk X.prog X.w H s.heap a (.tup xs) from I.hok a _ ea)
    obtain ⟨o, h1, h2, _⟩ := p
    exact PySem.W.kia_one PySem.W.kitx_tuple I.kIn ⟨o, h1, h2⟩ e (fun z => nomatch z) h
  | @dK a kvs ea =>
    cases (show u = Value.ref a from rx)
    obtain ⟨_, _, vs, _, p⟩ := (show ObjOk X.prog X.w H s.heap a (.dK kvs) from I.hok a _ ea)
    obtain ⟨o, es, ep, h1, h2, _⟩ := p
    exact PySem.W.kia_one PySem.W.kitx_dict I.kIn ⟨o, h1, h2.1⟩ e (fun z => nomatch z) h
  | @dT a kvs ea =>
    cases (show u = Value.ref a from rx)
    obtain ⟨_, _, xs, _, o, es, ep, h1, h2, _⟩ := (show ObjOk X.prog X.w H s.heap a (.dT kvs) from I.hok a _ ea)
    exact PySem.W.kia_one PySem.W.kitx_dict I.kIn ⟨o, h1, h2.1⟩ e (fun z => nomatch z) h
  | @ins a C dx fs ea cl ha hn htk hm =>
    cases (show u = Value.ref a from rx)
    obtain ⟨mA, O, _⟩ := ins_get I.hok ea
    obtain ⟨od, J, _⟩ := O.look
    exact PySem.W.kia_one (PySem.W.kitx_own (cl.get _) cl.hd ha hn htk hm) I.kIn J e (fun z => nomatch z) h
end
end L2

namespace L2
open PySem PySem.Spec PyProof.Rows

/-! ### room -/
structure Room (k : Nat) (A : Around) : Prop where
  hd : A.handled = none
  dp : A.depth + 3 * k + 5 < recursionLimit
  un : A.units + 16 * k + 200 < cLine
theorem Room.mono {j k : Nat} {A : Around} (r : Room k A) (h : j ≤ k) : Room j A := ⟨r.hd, by have := r.dp; omega, by have := r.un; omega⟩
theorem Room.deeper {k : Nat} {A : Around} (r : Room (k + 1) A) (env : Env) : Room k (A.deeper env) :=
  ⟨r.hd, by have := r.dp; show A.depth + 1 + 3 * k + 5 < _; omega, by have := r.un; show A.units + 3 + 16 * k + 200 < _; omega⟩
theorem make_depth {A : Around} {C : Addr} {us : List Value} {kw : List (Str × Value)} : (A.under (.builtin "type.__call__" ⟨.ref C :: us, kw⟩)).depth = A.depth + 1 := by
  first | rfl | simp [Around.under, Code.weight, Code.isCreation, Code.isGuard, Code.isCaller, Code.frames, Code.isFrame, guardIds]
theorem make_units {A : Around} {C : Addr} {us : List Value} {kw : List (Str × Value)} : (A.under (.builtin "type.__call__" ⟨.ref C :: us, kw⟩)).units = A.units + 1 := by
  first | rfl | simp [Around.under, Code.cUnits, Code.frames, Code.isFrame]
theorem Room.make {k : Nat} {A : Around} (r : Room (k + 1) A) (C : Addr) (us : List Value) (kw : List (Str × Value)) : Room k (A.under (.builtin "type.__call__" ⟨.ref C :: us, kw⟩)) :=
  ⟨r.hd, by have := r.dp; rw [make_depth]; omega, by have := r.un; rw [make_units]; omega⟩
theorem Room.depth {k : Nat} {A : Around} (r : Room k A) : A.depth < recursionLimit := by have := r.dp; omega
theorem Room.units {k : Nat} {A : Around} (r : Room k A) : A.units + 64 < cLine := by have := r.un; omega
theorem Room.units0 {k : Nat} {A : Around} (r : Room k A) : A.units < cLine := by have := r.un; omega

/-! ### argument lists and displays -/
noncomputable def tNil : TA := fun _ H Q => Q [] H
noncomputable def tCons (ta : TE) (tr : TA) : TA := fun σ H Q => ta σ H fun x H1 => tr σ H1 fun xs H2 => Q (x :: xs) H2
section
variable {X : Cx} {e : Expr} {es : List Expr} {te : TE} {t : TA} {pos : Pos}
theorem pa_nil : PA X [] tNil := fun _ _ _ _ H Q I h => Calls.spliced_nil ⟨[], H, I, .nil, h⟩
theorem pa_cons (ha : PE X e te) (hr : PA X es t) (hs : starEach (e :: es) X.env = (false, eval e X.env) :: starEach es X.env := by rfl) : PA X (e :: es) (tCons te t) := by
  intro pos pins s σ H Q I h
  rw [hs]
  show wpAny _ _ (spliced ((false, eval e X.env) :: backTo pos (starEach es X.env))) _ _ s
  refine Calls.spliced_cons (thn (ha pins s σ H _ I h) fun u s1 hh9 => ?_)
  obtain ⟨x, H1, I1, r1, q1⟩ := hh9
  exact thn (hr pos pins s1 σ H1 _ I1 q1) fun us s2 ⟨xs, H2, I2, r2, q2⟩ => ⟨x :: xs, H2, I2, .cons r1 r2, q2⟩

noncomputable def tLst (t : TA) : TE := fun σ H Q => t σ H fun xs H1 => xs.length ≤ sizeLine ∧ ∀ p, H1 p = none → Q (.ref p) (upd H1 p (.lst xs))
theorem pe_lst (h : PA X es t) : PE X (.List es pos) (tLst t) := by
  intro pins s σ H Q I hq
  refine wpAny_List_spliced (thn (h pos pins s σ H _ I hq) fun us s1 ⟨xs, H1, I1, r, z, q⟩ => ⟨by rw [← r.length]; exact z, ?_⟩)
  have hf : H1 s1.heap.objs.size = none := I1.hok.fresh (Nat.le_refl _)
  refine ⟨.ref s1.heap.objs.size, upd H1 s1.heap.objs.size (.lst xs), I1.laid (t' := s1.toks) (fun b u e => Heap.get?_push_of_some _ e) (Nat.le_refl _) ?_, rfl, q _ hf⟩
  exact ⟨z, us, 0, r, Heap.get?_push_size _ rfl⟩
end

/-! ### what a def promises -/
/-- a def's promise: the bound arguments in the parameters' order, the heap, the wanted end, the wanted exception -/
noncomputable abbrev Sp := List V → Hp → VK → XK → Prop
/-- how an exception lies behind a call (file 08 gives it): the callers' frames, abstract heap and state ahead of the call, the wish, the exception, the state -/
noncomputable abbrev CXT := List Env → Hp → Shared → XK → Value → Shared → Prop

/-- the state at a call -/
structure Env0 (P : Program) (w : World) (K : PySem.W.Frag) (mg : Str → Option Value) (base : Heap) (A : Around) (outer : List Env) (s : Shared) (H : Hp) : Prop where
  frames : A.frames = some outer
  mod : Mod K mg base
  bs : ∀ b o, base.get? b = some o → s.heap.get? b = some o ∧ H b = none
  bsz : base.objs.size ≤ s.heap.objs.size
  funs : s.heap.FunFrames base outer
  frf : ∀ b ∈ frs outer, H b = none
  hok : HOk P w H s.heap
  bare : AllBare s.gens
/-- a call's end -/
noncomputable def CE (outer : List Env) (P : Program) (w : World) (H : Hp) (s : Shared) (Q : VK) (u : Value) (s' : Shared) : Prop :=
  ∃ v H', s'.os = s.os ∧ AllBare s'.gens ∧ Un (frs outer) [] H H' s.heap s'.heap ∧ HOk P w H' s'.heap ∧ RelV v u ∧ Q v H'
noncomputable def CR (CX : CXT) (outer : List Env) (P : Program) (w : World) (H : Hp) (s : Shared) (Q : VK) (E : XK) (r : Result) (s' : Shared) : Prop :=
  match r with
  | .ok (.ret u) => CE outer P w H s Q u s'
  | .ok _ => False
  | .error e => CX outer H s E e s'
structure FnOk (P : Program) (w : World) (K : PySem.W.Frag) (mg : Str → Option Value) (base : Heap) (CX : CXT) (k : Nat) (f : Addr) (fd : FuncData) (ps : List Str) (sp : Sp) : Prop where
  len : ∀ vs H Q E, sp vs H Q E → vs.length = ps.length
  run : ∀ (A : Around) (outer : List Env) (s : Shared) (H : Hp) (args : Args) (us : List Value) (vs : List V) (Q : VK) (E : XK), Room k A → Env0 P w K mg base A outer s H → BindsTo s fd args (ps.zip us) → Vals vs us → sp vs H Q E →
    codeAny (model P w) A (.call (.ref f) args) (CR CX outer P w H s Q E) s
theorem Env0.make {P : Program} {w : World} {K : PySem.W.Frag} {mg : Str → Option Value} {base : Heap} {A : Around} {outer : List Env} {s : Shared} {H : Hp} (e : Env0 P w K mg base A outer s H) (C : Addr) (us : List Value) (kw : List (Str × Value)) :
    Env0 P w K mg base (A.under (.builtin "type.__call__" ⟨.ref C :: us, kw⟩)) outer s H := ⟨by first | exact e.frames | (simpa [Around.under, Code.envs, Code.isFrame, pushEnvs] using e.frames), e.mod, e.bs, e.bsz, e.funs, e.frf, e.hok, e.bare⟩
section
variable {X : Cx} {pins : List (Addr × Obj)} {σ : St} {H : Hp} {s s' : Shared}
/-- from a body: what a callee wants -/
theorem Inv.env0 (I : Inv X pins σ H s) : Env0 X.prog X.w X.K X.mg X.base X.A X.stack s H :=
  ⟨I.ok.frames, I.ok.mod, I.bs, Nat.le_trans I.ok.bsz I.sz, I.stack, I.stkFree, I.hok, I.bare⟩
/-- behind a call -/
theorem Inv.after {Q : VK} {u : Value} (I : Inv X pins σ H s) (h : CE X.stack X.prog X.w H s Q u s') : EP X pins σ Q u s' := by
  obtain ⟨v, H', os, bare, un, hok, r, q⟩ := h
  obtain ⟨hh, g, d, t, os'⟩ := s'
  obtain rfl : os' = s.os := os
  exact ⟨v, H', I.call (h' := hh) (g' := g) (d' := d) (t' := t) (ch := []) un hok bare (fun b z => absurd z (by simp)), r, q⟩
end

/-! ### calls -/
/-- f(..): the written arguments, then the defaults dvs; E: what is wanted of an exception -/
noncomputable def tCall (sp : Sp) (dvs : List V) (E : XK) (t : TA) : TE := fun σ H Q => t σ H fun vs H1 => sp (vs ++ dvs) H1 Q E
/-- o.m(..) of an instance of the class at C -/
noncomputable def tMeth (C : Addr) (m : Str) (sp : Sp) (dvs : List V) (E : XK) (ta : TE) (t : TA) : TE := fun σ H Q => ta σ H fun x H1 => ∃ a dx fs, x = .ref a ∧ H1 a = some (.ins C dx fs) ∧ fs.lookup m = none ∧
  t σ H1 fun vs H2 => sp (x :: (vs ++ dvs)) H2 Q E
/-- C(..): a new instance and its dict, then __init__ -/
noncomputable def tMake (C : Addr) (sp : Sp) (dvs : List V) (E : XK) (t : TA) : TE := fun σ H Q => t σ H fun vs H1 => ∀ x dx, H1 x = none → H1 dx = none → dx ≠ x →
  sp (.ref x :: (vs ++ dvs)) (upd (upd H1 dx (.own x)) x (.ins C dx [])) (fun v H2 => v = .non ∧ Q (.ref x) H2) E

/-- how the parameters are bound: us the positional arguments, kw the keywords' values by name, ds the defaults that fill up -/
noncomputable def Binds (K : PySem.W.Frag) (fd : FuncData) (ps : List Str) (ds : List Value) : Prop :=
  ∀ (s : Shared) (us : List Value), K.In s.heap → (us ++ ds).length = ps.length → BindsTo s fd ⟨us, []⟩ (ps.zip (us ++ ds))
/-- every parameter is given -/
theorem Binds.all {K : PySem.W.Frag} {fd : FuncData} {ps : List Str} (h : ∀ us : List Value, us.length = ps.length → bindArgs fd ⟨us, []⟩ = pure (ps.zip us)) : Binds K fd ps [] := fun s us _ hl => by
  rw [List.append_nil] at hl ⊢
  exact .of_eq (h us hl)

/-- an exception of a callee reaches what this body wants of exceptions -/
noncomputable def Passes (CX : CXT) (X : Cx) (E : XK) : Prop := ∀ (pins : List (Addr × Obj)) (σ : St) (H : Hp) (s : Shared) (e : Value) (s' : Shared), Inv X pins σ H s → CX X.stack H s E e s' → X.xe e s'

section
variable {X : Cx} {CX : CXT} {k : Nat} {f C : Addr} {fd : FuncData} {ps : List Str} {sp : Sp} {dvs : List V} {ds : List Value} {E : XK} {x m : Str} {p pos apos : Pos} {e o : Expr} {es : List Expr} {ta : TE} {t : TA}

/-- the callee runs -/
theorem run_fn {pins : List (Addr × Obj)} {σ : St} {H : Hp} {s : Shared} {Q : VK} {us : List Value} {vs : List V} (F : FnOk X.prog X.w X.K X.mg X.base CX k f fd ps sp) (hr : Room k X.A) (hb : Binds X.K fd ps ds) (hd : Vals dvs ds) (hx : Passes CX X E)
    (I : Inv X pins σ H s) (r : Vals vs us) (h : sp (vs ++ dvs) H Q E) : wpAny (model X.prog X.w) X.A (call (.ref f) us) (EP X pins σ Q) X.xe s := by
  have r2 : Vals (vs ++ dvs) (us ++ ds) := r.append hd
  have hl : (us ++ ds).length = ps.length := by rw [← r2.length]; exact F.len _ _ _ _ h
  refine wpAny_call (codeAny_mono (F.run X.A X.stack s H ⟨us, []⟩ (us ++ ds) (vs ++ dvs) Q E hr I.env0 (hb s us I.kIn hl) r2 h) fun r s' hq => ?_)
  cases r with
  | error e => exact hx pins σ H s e s' I hq
  | ok fl =>
    cases fl with
    | ret u => exact I.after hq
    | next => exact False.elim hq
    | brk => exact False.elim hq
    | cont => exact False.elim hq

theorem pe_call (F : FnOk X.prog X.w X.K X.mg X.base CX k f fd ps sp) (hr : Room k X.A) (hg : Gl X x) (hm : X.mg x = some (.ref f)) (hk : PySem.W.keepIn X.K (.ref f) = true) (hb : Binds X.K fd ps ds) (hd : Vals dvs ds) (hx : Passes CX X E)
    (ha : PA X (e :: es) t) (hdb : (x == ("__debug__" : Str)) = false := by decide) (he : starEach (e :: es) X.env = (false, eval e X.env) :: starEach es X.env := by rfl) (hpl : (backTo pos (starEach es X.env)).any (·.1) = false := by rfl) :
    PE X (.Call (.Name x p) (e :: es) [] pos) (tCall sp dvs E t) := by
  intro pins s σ H Q I h
  refine wpAny_Call_Name_kw (ld_glob I hg hm ?_ hdb)
  refine PySem.W.callWith_K (h₀ := X.base) I.ok.mod.kin hk (thn (ha pos pins s σ H _ I h) fun us s1 ⟨vs, H1, I1, r, q⟩ => ⟨I1.kIn, ?_⟩) he hpl
  exact run_fn F hr hb hd hx I1 r q
/-- o.m(e, ..) -/
theorem pe_meth {pl : Sem Bool} (he : PE X o ta) (c : Cls X.K C) (hm : Meth X.K C m f) (F : FnOk X.prog X.w X.K X.mg X.base CX k f fd ps sp) (hr : Room k X.A) (hb : Binds X.K fd ps ds) (hd : Vals dvs ds) (hx : Passes CX X E) (ha : PA X (e :: es) t)
    (hst : starEach (e :: es) X.env = (false, eval e X.env) :: starEach es X.env := by rfl) (hpl : (backTo pos (starEach es X.env)).any (·.1) = false := by rfl)
    (ht : eval (.Call (.Attribute o m apos) (e :: es) [] pos) X.env = (do
      let ov ← eval o X.env
      standAt apos.atName
      let (f, first) ← holding [ov] (getMethod ov m pl)
      callWith pos f first (backTo pos (starEach (e :: es) X.env)) (backToKw pos (keywordEach [] X.env))) := by rfl) :
    PE X (.Call (.Attribute o m apos) (e :: es) [] pos) (tMeth C m sp dvs E ta t) := by
  intro pins s σ H Q I h
  refine PySem.W.methodCall_KW (pl := pl) (thn (he pins s σ H _ I h) fun u s1 hh9 => ?_) ht
  obtain ⟨x, H1, I1, rx, a, dx, fs, ex, ea, l, q⟩ := hh9
  subst ex
  obtain rfl : u = Value.ref a := rx
  refine getmeth_ok I1 ea c hm l ?_
  refine PySem.W.callWith_K (first := [.ref a]) (h₀ := X.base) I.ok.mod.kin hm.kp (thn (ha pos pins s1 σ H1 _ I1 q) fun us s2 ⟨vs, H2, I2, r, q2⟩ => ⟨I2.kIn, ?_⟩) hst hpl
  exact run_fn (us := .ref a :: us) (vs := .ref a :: vs) F hr hb hd hx I2 (.cons rfl r) q2
/-- o.m() -/
theorem pe_meth0 {pl : Sem Bool} (he : PE X o ta) (c : Cls X.K C) (hm : Meth X.K C m f) (F : FnOk X.prog X.w X.K X.mg X.base CX k f fd ps sp) (hr : Room k X.A) (hb : Binds X.K fd ps ds) (hd : Vals dvs ds) (hx : Passes CX X E)
    (ht : eval (.Call (.Attribute o m apos) [] [] pos) X.env = (do
      let ov ← eval o X.env
      standAt apos.atName
      let (f, first) ← holding [ov] (getMethod ov m pl)
      callWith pos f first (backTo pos (starEach [] X.env)) (backToKw pos (keywordEach [] X.env))) := by rfl) :
    PE X (.Call (.Attribute o m apos) [] [] pos) (tMeth C m sp dvs E ta tNil) := by
  intro pins s σ H Q I h
  refine PySem.W.methodCall_KW (pl := pl) (thn (he pins s σ H _ I h) fun u s1 hh9 => ?_) ht
  obtain ⟨x, H1, I1, rx, a, dx, fs, ex, ea, l, q⟩ := hh9
  subst ex
  obtain rfl : u = Value.ref a := rx
  refine getmeth_ok I1 ea c hm l ?_
  exact PySem.W.callWith_K0 (first := [.ref a]) I1.kIn hm.kp (run_fn (us := [.ref a]) (vs := [.ref a]) F hr hb hd hx I1 (.cons rfl .nil) q)

/-- what a class must have to be made -/
structure Mk (K : PySem.W.Frag) (C f : Addr) : Prop where
  makes : PySem.W.makesIn K C = true
  init : PySem.W.findIn K (.ref C) "__init__" = some (some (.ref f))
  fn : PySem.W.isFn K (.ref f) = true
  kp : PySem.W.keepIn K (.ref C) = true

theorem run_make {pins : List (Addr × Obj)} {σ : St} {H : Hp} {s : Shared} {Q : VK} {us : List Value} {vs : List V} (M : Mk X.K C f) (F : FnOk X.prog X.w X.K X.mg X.base CX k f fd ps sp) (hr : Room (k + 1) X.A) (hb : Binds X.K fd ps ds) (hd : Vals dvs ds)
    (hx : Passes CX X E) (I : Inv X pins σ H s) (r : Vals vs us)
    (h : ∀ x dx, H x = none → H dx = none → dx ≠ x → sp (.ref x :: (vs ++ dvs)) (upd (upd H dx (.own x)) x (.ins C dx [])) (fun v H2 => v = .non ∧ Q (.ref x) H2) E) :
    wpAny (model X.prog X.w) X.A (call (.ref C) us) (EP X pins σ Q) X.xe s := by
  have hq := h (s.heap.objs.size + 1) s.heap.objs.size (I.hok.fresh (Nat.le_succ _)) (I.hok.fresh (Nat.le_refl _)) (Nat.ne_of_lt (Nat.lt_succ_self _))
  have I2 := Inv.made (C := C) I
  have r2 : Vals (V.ref (s.heap.objs.size + 1) :: (vs ++ dvs)) (Value.ref (s.heap.objs.size + 1) :: (us ++ ds)) := .cons rfl (r.append hd)
  have hl : (Value.ref (s.heap.objs.size + 1) :: us ++ ds).length = ps.length := by
    have e := r2.length
    rw [F.len _ _ _ _ hq] at e
    exact e.symm
  refine wpAny_call (make_map (f := f) I.kIn M.makes M.init (beq_iff_eq.mp M.fn) (codeAny_mono (F.run _ X.stack _ _ ⟨Value.ref (s.heap.objs.size + 1) :: us, []⟩ (Value.ref (s.heap.objs.size + 1) :: (us ++ ds)) _ _ E (hr.make C us [])
    (I2.env0.make C us []) (hb _ (Value.ref (s.heap.objs.size + 1) :: us) I2.kIn hl) r2 hq) fun r s' hq' => ?_))
  cases r with
  | error e => exact hx pins σ _ _ e s' I2 hq'
  | ok fl =>
    cases fl with
    | ret u =>
      obtain ⟨v, H', I3, rv, ev, q3⟩ := I2.after hq'
      subst ev
      exact ⟨rv, ⟨V.ref (s.heap.objs.size + 1), H', I3, rfl, q3⟩⟩
    | next => exact False.elim hq'
    | brk => exact False.elim hq'
    | cont => exact False.elim hq'
theorem pe_make (M : Mk X.K C f) (F : FnOk X.prog X.w X.K X.mg X.base CX k f fd ps sp) (hr : Room (k + 1) X.A) (hg : Gl X x) (hm : X.mg x = some (.ref C)) (hb : Binds X.K fd ps ds) (hd : Vals dvs ds) (hx : Passes CX X E)
    (ha : PA X (e :: es) t) (hdb : (x == ("__debug__" : Str)) = false := by decide) (he : starEach (e :: es) X.env = (false, eval e X.env) :: starEach es X.env := by rfl) (hpl : (backTo pos (starEach es X.env)).any (·.1) = false := by rfl) :
    PE X (.Call (.Name x p) (e :: es) [] pos) (tMake C sp dvs E t) := by
  intro pins s σ H Q I h
  refine wpAny_Call_Name_kw (ld_glob I hg hm ?_ hdb)
  refine PySem.W.callWith_K (h₀ := X.base) I.ok.mod.kin M.kp (thn (ha pos pins s σ H _ I h) fun us s1 ⟨vs, H1, I1, r, q⟩ => ⟨I1.kIn, ?_⟩) he hpl
  exact run_make M F hr hb hd hx I1 r q
end

/-! ### keywords -/
section
variable {X : Cx} {CX : CXT} {k : Nat} {f C : Addr} {fd : FuncData} {ps ks : List Str} {sp : Sp} {E : XK} {x m : Str} {p pos apos kpos : Pos} {e o : Expr} {es : List Expr} {kws : List Keyword} {te ta : TE} {t tk : TA} {nm : Option Str}
variable {g : List Value → List Value → List Value} {gV : List V → List V → List V}
end

/-! ### a def's body keeps its promise -/
/-- names: the parameters first -/
structure FnScope (N P : List Str) (sc : Scope) : Prop where
  kind : sc.kind = .function
  co : sc.isCoroutine = false
  gen : sc.isGenerator = false
  nd : N.Nodup
  pre : N.take P.length = P
  par : ∀ x ∈ P, sc.names.lookup x = some .local ∨ sc.names.lookup x = some .cell
  nofree : ∀ y ∈ sc.names, y.2 ≠ .free

theorem bindL_out {kindOf : Str → Option NameKind} {x : Str} : ∀ {binds : List (Str × Value)} {m : Str → Option Value}, (∀ v, (x, v) ∉ binds) → bindL kindOf binds m x = m x
  | [], _, _ => rfl
  | (n, v) :: r, m, h => by
    unfold bindL
    rw [bindL_out fun w hw => h w (List.mem_cons_of_mem _ hw)]
    split
    · have : x ≠ n := by rintro rfl; exact h v List.mem_cons_self
      simp [this]
    · rfl
theorem bindC_out {kindOf : Str → Option NameKind} {x : Str} : ∀ {binds : List (Str × Value)} {m : Str → Option Value}, (∀ v, (x, v) ∉ binds) → bindC kindOf binds m x = m x
  | [], _, _ => rfl
  | (n, v) :: r, m, h => by
    unfold bindC
    rw [bindC_out fun w hw => h w (List.mem_cons_of_mem _ hw)]
    split
    · rfl
    · have : x ≠ n := by rintro rfl; exact h v List.mem_cons_self
      simp [this]
theorem bindL_get {kindOf : Str → Option NameKind} {x : Str} {v : Value} : ∀ {P : List Str} {vs : List Value} {i : Nat} {m : Str → Option Value}, P.Nodup → P[i]? = some x → vs[i]? = some v → kindOf x = some .local →
    bindL kindOf (P.zip vs) m x = some v
  | [], _, _, _, _, h, _, _ => by simp at h
  | _ :: _, [], _, _, _, _, h, _ => by simp at h
  | p :: P, w :: vs, 0, m, nd, h1, h2, hk => by
    simp at h1 h2; subst h1; subst h2
    show bindL kindOf ((p, w) :: P.zip vs) m p = _
    unfold bindL
    rw [bindL_out fun v hv => (List.nodup_cons.mp nd).1 (List.of_mem_zip hv).1, if_pos hk]
    simp
  | p :: P, w :: vs, i + 1, m, nd, h1, h2, hk => by
    show bindL kindOf ((p, w) :: P.zip vs) m x = _
    unfold bindL
    exact bindL_get (i := i) (List.nodup_cons.mp nd).2 (by simpa using h1) (by simpa using h2) hk
theorem bindC_get {kindOf : Str → Option NameKind} {x : Str} {v : Value} : ∀ {P : List Str} {vs : List Value} {i : Nat} {m : Str → Option Value}, P.Nodup → P[i]? = some x → vs[i]? = some v → kindOf x ≠ some .local →
    bindC kindOf (P.zip vs) m x = some v
  | [], _, _, _, _, h, _, _ => by simp at h
  | _ :: _, [], _, _, _, _, h, _ => by simp at h
  | p :: P, w :: vs, 0, m, nd, h1, h2, hk => by
    simp at h1 h2; subst h1; subst h2
    show bindC kindOf ((p, w) :: P.zip vs) m p = _
    unfold bindC
    rw [bindC_out fun v hv => (List.nodup_cons.mp nd).1 (List.of_mem_zip hv).1, if_neg hk]
    simp
  | p :: P, w :: vs, i + 1, m, nd, h1, h2, hk => by
    show bindC kindOf ((p, w) :: P.zip vs) m x = _
    unfold bindC
    exact bindC_get (i := i) (List.nodup_cons.mp nd).2 (by simpa using h1) (by simpa using h2) hk

/-- the names' values at the entry -/
noncomputable def start (N : List Str) (vs : List V) : St := vs.map some ++ List.replicate (N.length - vs.length) none

/-- the context of a def's body, at its entry; an exception leaves the frame, then lies as CX says -/
noncomputable def cxOf (CX : CXT) (P : Program) (w : World) (K : PySem.W.Frag) (mg : Str → Option Value) (base : Heap) (N : List Str) (qual : Str) (scope : Scope) (f : Addr) (cd : Value) (A : Around) (outer : List Env) (s : Shared) (H : Hp) (E : XK) : Cx where
  prog := P
  w := w
  K := K
  mg := mg
  base := base
  A := A.deeper (envOfC qual scope s.heap.objs.size f cd)
  N := N
  s₀ := s
  H₀ := H
  env := envOfC qual scope s.heap.objs.size f cd
  outer := outer
  stack := envOfC qual scope s.heap.objs.size f cd :: outer
  ex := []
  calm := true
  fn := fun _ => true
  pn := []
  xe := fun e s' => wpAny (model P w) (A.deeper (envOfC qual scope s.heap.objs.size f cd)) (leaving (envOfC qual scope s.heap.objs.size f cd) e) (fun _ s'' => CX outer H s E e s'') (fun e' s'' => CX outer H s E e' s'') s'

theorem cell_has {sc : Scope} {n : Nat} {x : Str} (h : sc.names.lookup x = some .cell) : ∃ c, (cellsFrom n sc.names []).lookup x = some c := by
  have q := PySem.W.cellsFrom_some sc.names n [] (.inl h)
  exact Option.isSome_iff_exists.mp q

theorem inv_start {CX : CXT} {P : Program} {w : World} {K : PySem.W.Frag} {mg : Str → Option Value} {base : Heap} {N ps : List Str} {qual : Str} {scope : Scope} {f : Addr} {cd : Value} {A : Around} {outer : List Env} {s s1 : Shared} {H : Hp} {E : XK} {us : List Value} {vs : List V}
    (S : FnScope N ps scope) (hd : A.handled = none) (e0 : Env0 P w K mg base A outer s H) (hl : vs.length = ps.length) (r : Vals vs us)
    (x : InCallC s s.heap.objs.size (bindL (envOfC qual scope s.heap.objs.size f cd).kindOf (ps.zip us) fun _ => none) (cellsFrom (s.heap.objs.size + 1) scope.names []) (bindC (envOfC qual scope s.heap.objs.size f cd).kindOf (ps.zip us) fun _ => none) s1) :
    Inv (cxOf CX P w K mg base N qual scope f cd A outer s H E) [] (start N vs) H s1 := by
  have hpl : ps.length ≤ N.length := by have := congrArg List.length S.pre; rw [List.length_take] at this; omega
  obtain ⟨h1, tk, rfl, hk⟩ := x.done
  have noA : ∀ b : Addr, b ∉ (cxOf CX P w K mg base N qual scope f cd A outer s H E).ex := fun b z => absurd (show b ∈ ([] : List Addr) from z) (by simp)
  refine ⟨⟨e0.mod, S.kind, rfl, rfl, Nat.le_refl _, fun y z c h1 h2 => ?_, fun y hy => ?_, fun y c _ h => ?_, fun _ => hd, Around.frames_deeper e0.frames, .inr ⟨rfl, rfl⟩, fun b z => absurd z (noA b), e0.bs, e0.bsz, fun b _ _ => noA b, fun b z => absurd z (noA b), e0.funs, e0.frf⟩,
    rfl, e0.bare, Un.kept hk, ⟨_, x.toInCall.ns, fun i y v h1 h2 h3 => ?_⟩, fun y c h => ⟨_, x.cell y c h⟩, e0.hok.fresh (Nat.le_refl _), fun y c h => ?_, fun p hp => absurd (show p ∈ ([] : List (Addr × Obj)) from hp) (by simp), e0.hok.kept hk, ?_⟩
  · exact name_of_addr x.apart (PySem.mem_of_lookup h1) (PySem.mem_of_lookup h2)
  · have hy : scope.names.lookup y = some .cell ∨ scope.names.lookup y = some .free := hy
    rcases hy with hy | hy
    · exact cell_has hy
    · exact absurd rfl (S.nofree _ (PySem.mem_of_lookup hy))
  · exact Nat.le_of_lt (x.above y c (PySem.mem_of_lookup h))
  · have hi : i < vs.length := by
      unfold start at h2
      by_cases hi : i < vs.length
      · exact hi
      · rw [List.getElem?_append_right (by simpa using hi)] at h2
        rw [List.getElem?_replicate] at h2
        split at h2 <;> cases h2
    have ha : vs[i]? = some v := by
      unfold start at h2
      rw [List.getElem?_append_left (by simpa using hi), List.getElem?_map] at h2
      cases e : vs[i]? with
      | none => rw [e] at h2; cases h2
      | some a => rw [e] at h2; cases h2; rfl
    obtain ⟨u, hu, rv⟩ := r.get ha
    have hp : ps[i]? = some y := by
      rw [← S.pre, List.getElem?_take_of_lt (by omega)]; exact h1
    have ndP : ps.Nodup := by rw [← S.pre]; exact S.nd.sublist (List.take_sublist _ _)
    refine ⟨u, rv, ?_⟩
    rcases S.par y (List.mem_of_getElem? hp) with k | k
    · exact .inl ⟨k, bindL_get ndP hp hu k⟩
    · obtain ⟨c, e⟩ := cell_has (n := s.heap.objs.size + 1) k
      refine .inr ⟨.inl k, c, e, ?_⟩
      have q := x.cell y c e
      rw [bindC_get ndP hp hu (by show scope.names.lookup y ≠ _; rw [k]; decide)] at q
      exact q
  · exact e0.hok.fresh (Nat.le_of_lt (x.above y c (PySem.mem_of_lookup h)))
  · unfold start
    show _ = N.length
    rw [List.length_append, List.length_map, List.length_replicate]
    omega

/-- THE RULE: a def (or a method) of the text, by its body. The body's reading t is chosen for each entry; it is run at the parameters' values -/
theorem fn_of {CX : CXT} {P : Program} {w : World} {K : PySem.W.Frag} {mg : Str → Option Value} {base : Heap} {k : Nat} {f : Addr} {name qual : Str} {params : Arguments} {body : List Stmt} {scope : Scope} {dV kV doc pm cdv ct oc : Value} {an od : Option Addr}
    {osl : Array (Option Value)} {N ps : List Str} {sp : Sp} (lk : K.lookup f = some ⟨oc, od, .func (PySem.W.fnOf name qual params body scope dV kV doc pm an cdv ct), osl⟩) (hcd : PySem.W.codeIn K cdv qual = true) (S : FnScope N ps scope)
    (len : ∀ vs H Q E, sp vs H Q E → vs.length = ps.length)
    (hbody : ∀ (A : Around) (outer : List Env) (s : Shared) (H : Hp) (vs : List V) (Q : VK) (E : XK), Room k (A.deeper (envOfC qual scope s.heap.objs.size f cdv)) → sp vs H Q E →
      ∃ t, PSs (cxOf CX P w K mg base N qual scope f cdv A outer s H E) body t ∧ t { nx := fun _ H' => Q .non H', rt := Q } (start N vs) H) :
    FnOk P w K mg base CX (k + 1) f (PySem.W.fnOf name qual params body scope dV kV doc pm an cdv ct) ps sp := by
  refine ⟨len, fun A outer s H args us vs Q E hr e0 hb r hsp => ?_⟩
  have hl := len _ _ _ _ hsp
  have KX : K.In s.heap := e0.mod.kin.keeps fun b o e => (e0.bs b o e).1
  have lim : s.heap.NoLimit := e0.mod.nolimit.keeps fun b o e => (e0.bs b o e).1
  have hkind : ∀ y ∈ ps.zip us, scope.names.lookup y.1 = some .local ∨ (scope.names.lookup y.1 = some .cell ∧ ((cellsFrom (s.heap.objs.size + 1) scope.names []).lookup y.1).isSome = true) := fun ⟨n, v⟩ hy => by
    rcases S.par n (List.of_mem_zip hy).1 with q | q
    · exact .inl q
    · exact .inr ⟨q, PySem.W.cellsFrom_some _ _ _ (.inl q)⟩
  refine codeAny_call_function hr.depth (KX _ _ lk) rfl S.co S.gen rfl (PySem.W.codeRec_of KX hcd) (hb _ _ _ _ ?_)
  refine wpAny_newFunctionEnv_cells S.kind hkind fun env he s1 x => ?_
  subst he
  refine ⟨lim.keeps x.toInCall.keep, codeAny_func ?_⟩
  obtain ⟨t, ht, hq⟩ := hbody A outer s H vs Q E (hr.deeper _) hsp
  have I : Inv (cxOf CX P w K mg base N qual scope f cdv A outer s H E) [] (start N vs) H s1 := inv_start S hr.hd e0 hl r x
  refine wpAny_mono (ht [] s1 (start N vs) H _ I hq) (fun fl s' hs => ?_) fun e s' hs => hs
  have fin : ∀ {σ' : St} {H' : Hp} {v : V} {u : Value}, Inv (cxOf CX P w K mg base N qual scope f cdv A outer s H E) [] σ' H' s' → RelV v u → Q v H' → CE outer P w H s Q u s' :=
    fun {σ' H' v u} J rv q => ⟨v, H', J.os, J.bare, J.base, J.hok, rv, q⟩
  cases fl with
  | ret u =>
    obtain ⟨v, σ', H', J, rv, q⟩ := hs
    exact fin J rv q
  | next =>
    obtain ⟨σ', H', J, q⟩ := hs
    exact fin (v := V.non) (u := Value.none) J rfl q
  | brk =>
    obtain ⟨_, _, _, q⟩ := hs
    exact False.elim q
  | cont =>
    obtain ⟨_, _, _, q⟩ := hs
    exact False.elim q
end L2

namespace L2
open PySem PySem.Spec PyProof.Rows
section
variable {X : Cx} {x : Str} {p pos : Pos} {e : Expr} {es : List Expr} {t : TA} {id T : String} {r : List V → Hp → VK → Prop}

noncomputable def tCB (r : List V → Hp → VK → Prop) (t : TA) : TE := fun σ H Q => t σ H fun vs H1 => r vs H1 Q
/-- f(e, ..), f a built-in function -/
theorem pe_callB (hc : CallR X (.builtin id) r) (hg : Gl X x) (hm : X.mg x = none) (hv : bootBuiltins x = some (.builtin id)) (ha : PA X (e :: es) t) (hn : x ≠ "__name__" := by decide) (hdb : (x == ("__debug__" : Str)) = false := by decide)
    (he : starEach (e :: es) X.env = (false, eval e X.env) :: starEach es X.env := by rfl) (hpl : (backTo pos (starEach es X.env)).any (·.1) = false := by rfl) : PE X (.Call (.Name x p) (e :: es) [] pos) (tCB r t) := by
  intro pins s σ H Q I h
  refine wpAny_Call_Name_kw (ld_blt I hg hm hv ?_ hn hdb)
  exact PyProof.Rows.callWith_builtin1 (thn (ha pos pins s σ H _ I h) fun us s1 ⟨vs, H1, I1, r1, q1⟩ => hc pins s1 σ H1 vs us Q I1 r1 q1) he hpl
/-- T(e, ..), T a built-in type -/
theorem pe_callTy (hc : CallR X (.type T) r) (hg : Gl X x) (hm : X.mg x = none) (hv : bootBuiltins x = some (.type T)) (ha : PA X (e :: es) t) (hn : x ≠ "__name__" := by decide) (hdb : (x == ("__debug__" : Str)) = false := by decide)
    (he : starEach (e :: es) X.env = (false, eval e X.env) :: starEach es X.env := by rfl) (hpl : (backTo pos (starEach es X.env)).any (·.1) = false := by rfl) : PE X (.Call (.Name x p) (e :: es) [] pos) (tCB r t) := by
  intro pins s σ H Q I h
  refine wpAny_Call_Name_kw (ld_blt I hg hm hv ?_ hn hdb)
  exact PyProof.Rows.callWith_type1 (thn (ha pos pins s σ H _ I h) fun us s1 ⟨vs, H1, I1, r1, q1⟩ => hc pins s1 σ H1 vs us Q I1 r1 q1) he hpl
end
end L2

namespace HT
open PySem PyProof.Rows

section
open PySem.SeqAt
open PySem.AutoSeq1 (wpAny_loadPart')
open PySem.MeetsSeq PySem.MeetsSeq2 PySem.MeetsSeq3

end

section
variable {prog : Program} {w : World} {A : Around} {E : Value → Shared → Prop} {s : Shared}

/-! ### t[a:b], not the whole -/
end
end HT

namespace L2
open PySem PySem.Spec PyProof.Rows

/-! ### the parts of a slice -/
noncomputable abbrev TO := St → Hp → (Option Int → Hp → Prop) → Prop
/-- a slice's part (left out, or an int) -/
noncomputable def PO (X : Cx) (e : Option Expr) (t : TO) : Prop :=
  ∀ (pins : List (Addr × Obj)) (s : Shared) (σ : St) (H : Hp) (Q : Option Int → Hp → Prop), Inv X pins σ H s → t σ H Q →
    wpAny (model X.prog X.w) X.A (evalPart e X.env) (fun u s' => ∃ o H', Inv X pins σ H' s' ∧ IsPart u o ∧ Q o H') X.xe s
noncomputable def tNoPart : TO := fun _ H Q => Q none H
noncomputable def tPart (t : TE) : TO := fun σ H Q => t σ H fun x H1 => ∃ i, x = .int i ∧ Q (some i) H1

section
variable {X : Cx} {e : Expr} {te : TE} {lo hi : Option Expr} {tl th : TO} {pos p2 : Pos}

theorem po_none : PO X none tNoPart := by
  intro pins s σ H Q I h
  rw [evalPart_none]
  exact wpAny_pure ⟨none, H, I, .none, h⟩
theorem po_some (h : PE X e te) : PO X (some e) (tPart te) := by
  intro pins s σ H Q I hw
  rw [evalPart_some]
  refine thn (h pins s σ H _ I hw) fun u s1 hh9 => ?_
  obtain ⟨x, H1, I1, r1, q1⟩ := hh9
  obtain ⟨i, rfl, q⟩ := q1
  obtain ⟨t, rfl⟩ := r1
  exact ⟨some i, H1, I1, .int i t, q⟩

/-- what a slice of a value is, by values: the slice object stands at sl -/
noncomputable def SlR (X : Cx) (r : V → Option Int → Option Int → Hp → VK → Prop) : Prop :=
  ∀ (pins : List (Addr × Obj)) (s : Shared) (σ : St) (H : Hp) (x : V) (v vl vu : Value) (lo hi : Option Int) (sl : Addr) (Q : VK), Inv X pins σ H s → RelV x v → s.heap.IsSliceOf sl vl vu .none → IsPart vl lo → IsPart vu hi → r x lo hi H Q →
    ∃ T id, typeLookup (.type T) "__getitem__" = pure (some (.builtin id)) ∧ s.TypeIs v T ∧ wpAny (model X.prog X.w) X.A (getItem v (.ref sl)) (EP X pins σ Q) X.xe s
noncomputable def tSl (r : V → Option Int → Option Int → Hp → VK → Prop) (te : TE) (tl th : TO) : TE := fun σ H Q => te σ H fun x H1 => tl σ H1 fun l H2 => th σ H2 fun u H3 => r x l u H3 Q
/-- a[lo:hi], any a -/
theorem pe_slice {r : V → Option Int → Option Int → Hp → VK → Prop} (hr : SlR X r) (he : PE X e te) (hl : PO X lo tl) (hu : PO X hi th) : PE X (.Subscript e (.Slice lo hi none p2) pos) (tSl r te tl th) := by
  intro pins s σ H Q I h
  refine Subscript_ (thn (he pins s σ H _ I h) fun v s1 hh9 => ?_)
  obtain ⟨x, H1, I1, r1, q1⟩ := hh9
  refine wpAny_Slice (thn (hl pins s1 σ H1 _ I1 q1) fun vl s2 ⟨l, H2, I2, pl, q2⟩ => thn (hu pins s2 σ H2 _ I2 q2) fun vu s3 hh9 => ?_)
  obtain ⟨u, H3, I3, pu, q3⟩ := hh9
  rw [evalPart_none]
  refine wpAny_pure ?_
  have I4 : Inv X pins σ H3 { s3 with heap := s3.heap.push { cls := .type "slice", data := .fields #[vl, vu, .none] } } := I3.kept (t' := s3.toks) fun b ob q => Heap.get?_push_of_some _ q
  obtain ⟨T, id, hT, ht, hg⟩ := hr pins { s3 with heap := s3.heap.push { cls := .type "slice", data := .fields #[vl, vu, .none] } } σ H3 x v vl vu l u s3.heap.objs.size Q I4 r1 (Heap.IsSliceOf.new ..) pl pu q3
  show wpAny (model X.prog X.w) X.A (subscriptTail e (.Slice lo hi none p2) v (.ref s3.heap.objs.size)) (EP X pins σ Q) X.xe { s3 with heap := s3.heap.push { cls := .type "slice", data := .fields #[vl, vu, .none] } }
  exact tail_any (ops := [.ref s3.heap.objs.size, v]) ht hT hg (by with_unfolding_all rfl)

/-! ### t < u, t + u -/
end
end L2

namespace L2
open PySem PySem.Spec PyProof.Rows

/-! ### places -/
/-- the place that an index of any sign means -/
noncomputable def ixN (n : Nat) (i : Int) : Option Nat := if 0 ≤ i then (if i < n then some i.toNat else none) else if -(n : Int) ≤ i then some (i + n).toNat else none
noncomputable def atI {α : Type} (xs : List α) (i : Int) : Option α := (ixN xs.length i).bind fun j => xs[j]?
theorem ixN_seq {n : Nat} {i : Int} {j : Nat} (h : ixN n i = some j) : seqIndex? i n = some j ∧ j < n ∧ -(n : Int) ≤ i ∧ i < n := by
  unfold ixN at h
  by_cases h0 : 0 ≤ i
  · rw [if_pos h0] at h
    by_cases h1 : i < n
    · rw [if_pos h1] at h
      have e : i.toNat = j := Option.some.inj h
      exact ⟨by rw [seqIndex_of h0 h1, e], by omega, by omega, h1⟩
    · rw [if_neg h1] at h; cases h
  · rw [if_neg h0] at h
    by_cases h1 : -(n : Int) ≤ i
    · rw [if_pos h1] at h
      have e : (i + n).toNat = j := Option.some.inj h
      exact ⟨by rw [seqIndex_neg (by omega) h1, e], by omega, h1, by omega⟩
    · rw [if_neg h1] at h; cases h
theorem atI_get {α : Type} {xs : List α} {i : Int} {v : α} (h : atI xs i = some v) : ∃ j, seqIndex? i xs.length = some j ∧ xs[j]? = some v ∧ j < xs.length ∧ -(xs.length : Int) ≤ i ∧ i < xs.length := by
  unfold atI at h
  cases e : ixN xs.length i with
  | none => rw [e] at h; cases h
  | some j =>
    rw [e] at h
    obtain ⟨h1, h2, h3, h4⟩ := ixN_seq e
    exact ⟨j, h1, h, h2, h3, h4⟩
theorem atI_nat {α : Type} {xs : List α} {j : Nat} {v : α} (h : xs[j]? = some v) : atI xs (j : Int) = some v := by
  have hj : j < xs.length := (List.getElem?_eq_some_iff.mp h).1
  have e : ixN xs.length (j : Int) = some j := by
    unfold ixN
    rw [if_pos (by omega), if_pos (by omega)]; simp
  unfold atI; rw [e]; exact h
/-! ### what may be subscripted -/
/-- what stands as an index of a plain subscript -/
noncomputable def PlainIx (b : Expr) : Prop := ∀ o i, subscripted b false o i = operate [o, i] (getItem o i)
/-- a subscript by values -/
noncomputable def IxR (X : Cx) (r : R2) : Prop :=
  ∀ (value slice : Expr) (pins : List (Addr × Obj)) (s : Shared) (σ : St) (H : Hp) (x y : V) (v u : Value) (Q : VK), Inv X pins σ H s → RelV x v → RelV y u → r x y H Q →
    subscripted slice false v u = operate [v, u] (getItem v u) → wpAny (model X.prog X.w) X.A (subscriptTail value slice v u) (EP X pins σ Q) X.xe s
/-- a call of a builtin's method by values: the receiver, the arguments -/
noncomputable def MtR (X : Cx) (id : String) (r : V → List V → Hp → VK → Prop) : Prop :=
  ∀ (pins : List (Addr × Obj)) (s : Shared) (σ : St) (H : Hp) (x : V) (xs : List V) (v : Value) (us : List Value) (Q : VK), Inv X pins σ H s → RelV x v → Vals xs us → r x xs H Q →
    wpAny (model X.prog X.w) X.A (call (.builtin id) (v :: us)) (EP X pins σ Q) X.xe s
section
variable {X : Cx} {a b : Expr} {ta tb : TE} {pos : Pos}
/-- a[b] -/
theorem pe_ix {r : R2} (hr : IxR X r) (ha : PE X a ta) (hb : PE X b tb) (hs : PlainIx b) : PE X (.Subscript a b pos) (tOp r ta tb) := by
  intro pins s σ H Q I h
  exact Subscript_ (binT ha hb I h fun v u s2 x y H2 I2 rx ry q => hr a b pins s2 σ H2 x y v u Q I2 rx ry q (hs _ _))

noncomputable def rIxL (K : PySem.W.Frag) : R2 := fun x y H Q => ∃ p xs i v, x = .ref p ∧ y = .int i ∧ SqL K H p xs ∧ atI xs i = some v ∧ Q v H
noncomputable def rIxS : R2 := fun x y H Q => ∃ z i c, x = .str z ∧ y = .int i ∧ z.length ≤ sizeLine ∧ atI z.cps.toList i = some c ∧ Q (.str ⟨#[c]⟩) H
theorem ix_list : IxR X (rIxL X.K) := by
  intro value slice pins s σ H x y v u Q I rx ry h hs
  obtain ⟨p, xs, i, z, rfl, rfl, hq, he, q⟩ := h
  cases rx
  obtain ⟨t, rfl⟩ := ry
  obtain ⟨its, r, pl, hz⟩ := I.list hq
  obtain ⟨j, h1, h2, h3, h4, h5⟩ := atI_get he
  obtain ⟨w, ew, rw'⟩ := r.get h2
  have hl := r.length
  have hn := line63
  have fin : EP X pins σ Q w s := ⟨z, H, I, rw', q⟩
  by_cases h0 : 0 ≤ i
  · have hj : i.toNat = j := by
      rw [seqIndex_of h0 h5] at h1
      exact Option.some.inj h1
    exact item_listR pl.isList h0 (by omega) (by rw [hj]; simpa using ew) fin hs
  · have hj : (i + (its.toArray.size : Int)).toNat = j := by
      rw [seqIndex_neg (by omega) h4] at h1
      rw [List.size_toArray, ← hl]
      exact Option.some.inj h1
    exact subscriptTail_builtinR (x := w) pl.isList.typeIs slot_list_getitem.lookup
      (wpAny_getItem_list_neg (Q := fun r s' => r = w ∧ EP X pins σ Q r s') pl.isList (by omega) (by rw [List.size_toArray] <;> omega) (by omega) (by rw [hj]; simpa using ew) ⟨rfl, fin⟩) hs
theorem ix_str : IxR X rIxS := by
  intro value slice pins s σ H x y v u Q I rx ry h hs
  obtain ⟨z, i, c, rfl, rfl, hz, he, q⟩ := h
  obtain ⟨t, rfl⟩ := rx
  obtain ⟨t', rfl⟩ := ry
  obtain ⟨j, h1, h2, h3, h4, h5⟩ := atI_get he
  have hl : z.cps.toList.length = z.length := by simp [Str.length]
  rw [hl] at h1 h4 h5
  have hn := line63
  exact tail_any (typeIs_str s z t) slot_str_getitem.lookup (getItem_str (c := c) (by
    have e1 : decide (i < -(2 ^ 63 : Int)) = false := decide_eq_false (by omega)
    have e2 : decide (i ≥ 2 ^ 63) = false := decide_eq_false (by omega)
    rw [e1, e2, Bool.or_false]) (by rw [h1]; simpa using h2) ⟨.str ⟨#[c]⟩, H, I.tok _, ⟨_, rfl⟩, q⟩) hs
/-! ### xs[i] = v, any sign -/
/-! ### slices -/
/-! ### in, not in: flat items -/
noncomputable def flatV : V → Bool
  | .non => true
  | .bl _ => true
  | .int _ => true
  | .str _ => true
  | _ => false
/-- == of flat values -/
noncomputable def eqV : V → V → Bool
  | .non, .non => true
  | .bl a, .bl b => a == b
  | .bl a, .int b => (if a then 1 else 0) == b
  | .int a, .bl b => a == (if b then 1 else 0)
  | .int a, .int b => a == b
  | .str a, .str b => a == b
  | _, _ => false
theorem eqAt_V {A : Around} {s : Shared} {y x : V} {u v : Value} (ry : RelV y u) (rx : RelV x v) (fy : flatV y = true) (fx : flatV x = true) : SeqAt.EqAt A s u v (eqV y x) := by
  cases y with
  | non =>
    cases ry
    cases x with
    | non => cases rx; exact SeqAt.EqAt.same _
    | bl b => cases rx; exact SeqAt.EqAt.none_bool b
    | int b => obtain ⟨t, rfl⟩ := rx; exact SeqAt.EqAt.none_int b t
    | str b => obtain ⟨t, rfl⟩ := rx; exact SeqAt.EqAt.none_str b t
    | _ => exact absurd (show false = true from fx) Bool.false_ne_true
  | bl a =>
    cases ry
    cases x with
    | non => cases rx; exact SeqAt.EqAt.bool_none a
    | bl b => cases rx; exact SeqAt.EqAt.bool_bool a b
    | int b => obtain ⟨t, rfl⟩ := rx; exact SeqAt.EqAt.bool_int a b t
    | str b => obtain ⟨t, rfl⟩ := rx; exact SeqAt.EqAt.bool_str a b t
    | _ => exact absurd (show false = true from fx) Bool.false_ne_true
  | int a =>
    obtain ⟨t', rfl⟩ := ry
    cases x with
    | non => cases rx; exact SeqAt.EqAt.int_none a t'
    | bl b => cases rx; exact SeqAt.EqAt.int_bool a t' b
    | int b => obtain ⟨t, rfl⟩ := rx; exact SeqAt.EqAt.int_int a t' b t
    | str b => obtain ⟨t, rfl⟩ := rx; exact SeqAt.EqAt.int_str a t' b t
    | _ => exact absurd (show false = true from fx) Bool.false_ne_true
  | str a =>
    obtain ⟨t', rfl⟩ := ry
    cases x with
    | non => cases rx; exact SeqAt.EqAt.str_none a t'
    | bl b => cases rx; exact SeqAt.EqAt.str_bool a t' b
    | int b => obtain ⟨t, rfl⟩ := rx; exact SeqAt.EqAt.str_int a t' b t
    | str b => obtain ⟨t, rfl⟩ := rx; exact SeqAt.EqAt.str_str a t' b t
    | _ => exact absurd (show false = true from fx) Bool.false_ne_true
  | _ => exact absurd (show false = true from fy) Bool.false_ne_true
/-- the items' answers, read off the values (a value's own answer does not lean on its token) -/
noncomputable def eqU (x : V) (u : Value) : Bool := match u with
  | .none => eqV .non x
  | .bool b => eqV (.bl b) x
  | .int i _ => eqV (.int i) x
  | .str z _ => eqV (.str z) x
  | _ => false
theorem eqU_of {x y : V} {u : Value} (r : RelV y u) (f : flatV y = true) : eqU x u = eqV y x := by
  cases y with
  | non => cases r; rfl
  | bl b => cases r; rfl
  | int i => obtain ⟨t, rfl⟩ := r; rfl
  | str z => obtain ⟨t, rfl⟩ := r; rfl
  | _ => exact absurd (show false = true from f) Bool.false_ne_true
theorem any_eqU {x : V} : ∀ {xs : List V} {us : List Value}, Vals xs us → xs.all flatV = true → us.any (eqU x) = xs.any fun y => eqV y x
  | _, _, .nil, _ => rfl
  | y :: xs, u :: us, .cons r t, f => by
    rw [List.all_cons, Bool.and_eq_true] at f
    rw [List.any_cons, List.any_cons, eqU_of r f.1, any_eqU t f.2]
theorem mem_eqAt {A : Around} {s : Shared} {x : V} {v : Value} (rx : RelV x v) (fx : flatV x = true) : ∀ {xs : List V} {us : List Value}, Vals xs us → xs.all flatV = true → ∀ u ∈ us, SeqAt.EqAt A s u v (eqU x u)
  | _, _, .nil, _ => fun u hu => by cases hu
  | y :: xs, u :: us, .cons r t, f => fun u' hu => by
    rw [List.all_cons, Bool.and_eq_true] at f
    rcases List.mem_cons.mp hu with rfl | hu
    · rw [eqU_of r f.1]; exact eqAt_V r rx f.1 fx
    · exact mem_eqAt rx fx t f.2 u' hu
noncomputable def inV (x : V) (xs : List V) : Bool := xs.any fun y => eqV y x
/-- x in a list or tuple of flat items -/
noncomputable def rIn (K : PySem.W.Frag) (neg : Bool) : R2 := fun x y H Q => ∃ p xs, y = .ref p ∧ (SqL K H p xs ∨ SqT K H p xs) ∧ flatV x = true ∧ xs.all flatV = true ∧ Q (.bl (if neg then !inV x xs else inV x xs)) H
theorem op_in_seq : OpR X (compareOp .In) (rIn X.K false) := by
  intro pins s σ H x y v u Q I rx ry h
  obtain ⟨p, xs, rfl, hq, fx, fs, q⟩ := h
  cases ry
  rcases hq with hq | hq
  · obtain ⟨its, r, pl, hz⟩ := I.list hq
    refine SeqAt.in_listAt (eqU x) pl.isList (fun w hw => mem_eqAt rx fx r fs w (by simpa using hw)) ⟨.bl _, H, I, rfl, ?_⟩
    rw [show its.toArray.any (eqU x) = its.any (eqU x) by simp, any_eqU r fs]
    exact q
  · obtain ⟨its, r, pl, hz⟩ := I.tuple hq
    refine SeqAt.in_tupleAt (eqU x) pl (fun w hw => mem_eqAt rx fx r fs w (by simpa using hw)) ⟨.bl _, H, I, rfl, ?_⟩
    rw [show its.toArray.any (eqU x) = its.any (eqU x) by simp, any_eqU r fs]
    exact q
theorem op_notIn_seq : OpR X (compareOp .NotIn) (rIn X.K true) := by
  intro pins s σ H x y v u Q I rx ry h
  obtain ⟨p, xs, rfl, hq, fx, fs, q⟩ := h
  cases ry
  rcases hq with hq | hq
  · obtain ⟨its, r, pl, hz⟩ := I.list hq
    refine SeqAt.notIn_listAt (eqU x) pl.isList (fun w hw => mem_eqAt rx fx r fs w (by simpa using hw)) ⟨.bl _, H, I, rfl, ?_⟩
    rw [show its.toArray.any (eqU x) = its.any (eqU x) by simp, any_eqU r fs]
    exact q
  · obtain ⟨its, r, pl, hz⟩ := I.tuple hq
    refine SeqAt.notIn_tupleAt (eqU x) pl (fun w hw => mem_eqAt rx fx r fs w (by simpa using hw)) ⟨.bl _, H, I, rfl, ?_⟩
    rw [show its.toArray.any (eqU x) = its.any (eqU x) by simp, any_eqU r fs]
    exact q
/-! ### len, list(x), tuple(x) of any list or tuple that is read -/
theorem call_list_of : CallR X (.type "list") (fun xs H Q => ∃ p ys, xs = [.ref p] ∧ (SqL X.K H p ys ∨ SqT X.K H p ys) ∧ ∀ l, H l = none → Q (.ref l) (upd H l (.lst ys))) := by
  intro pins s σ H xs us Q I r h
  obtain ⟨p, ys, rfl, hq, q⟩ := h
  obtain ⟨u, rfl, rx⟩ := vals1 r
  cases rx
  have fin : ∀ (its : List Value), Vals ys its → ys.length ≤ sizeLine → ∀ (h' : Heap) (c' : Nat), (∀ b o', s.heap.get? b = some o' → h'.get? b = some o') →
      h'.get? s.heap.objs.size = some { cls := .type "list", dict := none, data := .seq its.toArray c', slots := #[] } → EP X pins σ Q (.ref s.heap.objs.size) { s with heap := h' } := fun its r' hz h' c' kp e =>
    ⟨.ref s.heap.objs.size, _, I.laid (t' := s.toks) kp (Nat.le_refl _) (show ObjOk X.prog X.w _ h' _ (.lst ys) from ⟨hz, its, c', r', e⟩), rfl, q _ (I.hok.fresh (Nat.le_refl _))⟩
  rcases hq with hq | hq
  · obtain ⟨its, r', pl, hz⟩ := I.list hq
    have hlen := r'.length
    obtain ⟨o, ho, hc, n, hd⟩ := pl.isList
    exact call_list_seq p (.inl rfl) ho hc hd (fun h' c' kp e => fin its r' hz h' c' kp e) (by simp only [List.size_toArray] <;> omega)
  · obtain ⟨its, r', pl, hz⟩ := I.tuple hq
    have hlen := r'.length
    obtain ⟨o, ho, hc, n, hd⟩ := pl
    exact call_list_seq p (.inr rfl) ho hc hd (fun h' c' kp e => fin its r' hz h' c' kp e) (by simp only [List.size_toArray] <;> omega)
/-! ### the call of a builtin's method: o.m(..) -/
/-- the value is of that builtin type -/
noncomputable def tyV (K : PySem.W.Frag) (T : String) (x : V) (H : Hp) : Prop := match x with
  | .str _ => T = "str"
  | .int _ => T = "int"
  | .ref p => (T = "list" ∧ ∃ xs, SqL K H p xs) ∨ (T = "tuple" ∧ ∃ o, K.lookup p = some o ∧ o.cls = .type "tuple" ∧ o.dict = none) ∨
      (T = "dict" ∧ ((∃ kvs, H p = some (.dK kvs)) ∨ ∃ kvs, H p = some (.dT kvs))) ∨ (T = "set" ∧ ∃ S n, H p = some (.set S n))
  | _ => False
theorem tyV_is {pins : List (Addr × Obj)} {σ : St} {H : Hp} {s : Shared} {T : String} {x : V} {v : Value} (I : Inv X pins σ H s) (r : RelV x v) (ty : tyV X.K T x H) :
    s.TypeIs v T ∧ ∀ a, v = .ref a → ∃ ob, s.heap.get? a = some ob ∧ ob.dict = none := by
  cases x with
  | str z =>
    obtain ⟨t, rfl⟩ := r
    cases (show T = "str" from ty)
    exact ⟨typeIs_str s z t, fun _ e => nomatch e⟩
  | int i =>
    obtain ⟨t, rfl⟩ := r
    cases (show T = "int" from ty)
    exact ⟨typeIs_int s i t, fun _ e => nomatch e⟩
  | ref p =>
    cases r
    rcases ty with ⟨rfl, xs, hq⟩ | ⟨rfl, o, hk, hc, hd⟩ | ⟨rfl, hk⟩ | ⟨rfl, S, n, hk⟩
    · obtain ⟨its, _, pl, _⟩ := I.list hq
      refine ⟨pl.isList.typeIs, fun a e => ?_⟩
      cases e
      obtain ⟨o, n, e, c, hd, _⟩ := pl
      exact ⟨o, e, hd⟩
    · refine ⟨⟨o, I.kIn p o hk, hc⟩, fun a e => ?_⟩
      cases e
      exact ⟨o, I.kIn _ o hk, hd⟩
    · have z : ∃ o, s.heap.get? p = some o ∧ o.ExactDict := by
        rcases hk with ⟨kvs, hk⟩ | ⟨kvs, hk⟩
        · obtain ⟨_, _, _, _, o, _, _, e, ex, _⟩ := I.hok p _ hk
          exact ⟨o, e, ex⟩
        · obtain ⟨_, _, _, _, o, _, _, e, ex, _⟩ := I.hok p _ hk
          exact ⟨o, e, ex⟩
      obtain ⟨o, e, ex⟩ := z
      refine ⟨⟨o, e, ex.1⟩, fun a e2 => ?_⟩
      cases e2
      exact ⟨o, e, ex.2.1⟩
    · obtain ⟨o, _, _, _, e, ex, _⟩ := I.hok p _ hk
      refine ⟨⟨o, e, ex.1⟩, fun a e2 => ?_⟩
      cases e2
      exact ⟨o, e, ex.2.1⟩
  | _ => exact False.elim ty
noncomputable def tBM0 (K : PySem.W.Frag) (T : String) (r : V → List V → Hp → VK → Prop) (to : TE) : TE := fun σ H Q => to σ H fun x H1 => tyV K T x H1 ∧ r x [] H1 Q
noncomputable def tBM (K : PySem.W.Frag) (T : String) (r : V → List V → Hp → VK → Prop) (to : TE) (t : TA) : TE := fun σ H Q => to σ H fun x H1 => tyV K T x H1 ∧ t σ H1 fun xs H2 => r x xs H2 Q
variable {o e : Expr} {es : List Expr} {to : TE} {t : TA} {name : Str} {apos cpos : Pos} {T id : String} {r : V → List V → Hp → VK → Prop}
theorem pe_bm0 (pa : PlainAttrs T) (slot : Slot T name id) (hty : typeOf (.builtin id) = pure (.type "method_descriptor")) (hm : MtR X id r) (ho : PE X o to)
    (hbase : attributeBase o name X.env (eval o X.env) = eval o X.env := by rfl) (hline : (apos.endLine == cpos.line) = true := by rfl) : PE X (.Call (.Attribute o name apos) [] [] cpos) (tBM0 X.K T r to) := by
  intro pins s σ H Q I h
  refine wpAny_Call_method0_late hbase hline (thn (ho pins s σ H _ I h) fun v s1 hh9 => ?_)
  obtain ⟨x, H1, I1, r1, ty, q1⟩ := hh9
  obtain ⟨h1, h2⟩ := tyV_is I1 r1 ty
  exact ⟨T, id, pa, slot, hty, h1, h2, Calls.callWith_builtin rfl (PySem.evalArgs_none (hm pins s1 σ H1 x [] v [] Q I1 r1 .nil q1))⟩
theorem pe_bm (pa : PlainAttrs T) (slot : Slot T name id) (hty : typeOf (.builtin id) = pure (.type "method_descriptor")) (hm : MtR X id r) (ho : PE X o to) (ha : PA X (e :: es) t)
    (hbase : attributeBase o name X.env (eval o X.env) = eval o X.env := by rfl)
    (hfew : ((backTo cpos (starEach (e :: es) X.env)).all (fun x => !x.1) && (backToKw cpos (keywordEach [] X.env)).all (fun x => x.1.isSome)
      && decide ((e :: es).length + ([] : List Keyword).length + (if ([] : List Keyword).isEmpty then 0 else 1) < 30)) = true := by rfl)
    (hline : (apos.endLine == cpos.line) = true := by rfl) (hs : starEach (e :: es) X.env = (false, eval e X.env) :: starEach es X.env := by rfl) (hplain : (backTo cpos (starEach es X.env)).any (·.1) = false := by rfl) :
    PE X (.Call (.Attribute o name apos) (e :: es) [] cpos) (tBM X.K T r to t) := by
  intro pins s σ H Q I h
  refine wpAny_Call_method_late hbase hfew hline rfl (thn (ho pins s σ H _ I h) fun v s1 hh9 => ?_)
  obtain ⟨x, H1, I1, r1, ty, q1⟩ := hh9
  obtain ⟨h1, h2⟩ := tyV_is I1 r1 ty
  refine ⟨T, id, pa, slot, hty, h1, h2, ?_⟩
  have hA := ha cpos pins s1 σ H1 _ I1 q1
  rw [hs] at hA ⊢
  refine Calls.callWith_builtin (by show (false || (backTo cpos (starEach es X.env)).any (·.1)) = false; rw [hplain] <;> rfl) (Calls.evalArgs_plain ?_)
  exact thn hA fun us s2 ⟨vs, H2, I2, r2, q2⟩ => hm pins s2 σ H2 x vs v us Q I2 r1 r2 q2
/- xs.append(e), list.index on a module's tuple .. are MtR facts of 06m -/
end
end L2

namespace L2
open PySem PySem.Spec PyProof.Rows

noncomputable def MtM (X : Cx) (id : String) (r : V → List V → Hp → VK → Prop) : Prop :=
  ∀ (pins : List (Addr × Obj)) (s : Shared) (σ : St) (H : Hp) (x : V) (xs : List V) (v : Value) (us : List Value) (Q : VK), Inv X pins σ H s → RelV x v → Vals xs us → r x xs H Q →
    wpAny (model X.prog X.w) X.A (call (.builtin id) (v :: us)) (EP X pins σ Q) X.xe s

/-! ### lists of values -/
theorem Vals.one {x : V} {us : List Value} (h : Vals [x] us) : ∃ u, us = [u] ∧ RelV x u := by
  cases h with | cons r t => cases t; exact ⟨_, rfl, r⟩
theorem Vals.two {x y : V} {us : List Value} (h : Vals [x, y] us) : ∃ u v, us = [u, v] ∧ RelV x u ∧ RelV y v := by
  cases h with | cons r t => cases t with | cons q t => cases t; exact ⟨_, _, rfl, r, q⟩
theorem Vals.zero : ∀ {us : List Value}, Vals [] us → us = []
  | _, .nil => rfl
theorem Vals.reverse {xs : List V} {us : List Value} (h : Vals xs us) : Vals xs.reverse us.reverse := by
  induction h with
  | nil => exact .nil
  | cons r t ih => rw [List.reverse_cons, List.reverse_cons]; exact Vals.append ih (.cons r .nil)
section
variable {X : Cx} {pins : List (Addr × Obj)} {σ : St} {H : Hp} {s : Shared} {l b : Addr} {xs ys zs : List V}

/-! ### the two steps: a tracked list is rewritten, a new list is laid -/
theorem Inv.lset {its its' : List Value} {n : Nat} {f : Array Value → Array Value} {t' : Nat} (I : Inv X pins σ H s) (hH : H l = some (.lst xs))
    (e : s.heap.get? l = some { cls := .type "list", data := .seq its.toArray n }) (hf : f its.toArray = its'.toArray) (hv : Vals ys its') (hz : ys.length ≤ sizeLine) :
    Inv X pins σ (upd H l (.lst ys)) { s with heap := s.heap.update l (Obj.mapSeq f), toks := t' } := by
  have q := PySem.IsL.update e f
  rw [hf] at q
  refine I.write (x := l) (e := l) (by rw [hH]; exact trivial) (.inl rfl) (fun b' u hb hu => (Heap.get?_update_other s.heap (Obj.mapSeq f) (Ne.symm hb)).trans hu) ⟨_, q⟩ ?_
  exact ⟨hz, its', _, hv, q⟩
theorem Inv.lnew {its : List Value} {t' : Nat} (I : Inv X pins σ H s) (hv : Vals ys its) (hz : ys.length ≤ sizeLine) :
    Inv X pins σ (upd H s.heap.objs.size (.lst ys)) { s with heap := s.heap.push { cls := .type "list", data := .seq its.toArray }, toks := t' } :=
  I.laid (fun _ _ q => Heap.get?_push_of_some _ q) (Nat.le_refl _) ⟨hz, its, 0, hv, Heap.get?_push_size _ rfl⟩
theorem Inv.fresh (I : Inv X pins σ H s) : H s.heap.objs.size = none := I.hok.fresh (Nat.le_refl _)
theorem Inv.lstM (I : Inv X pins σ H s) (hH : H l = some (.lst xs)) : xs.length ≤ sizeLine ∧ ∃ (its : List Value) (n : Nat), Vals xs its ∧ xs.length = its.length ∧ s.heap.get? l = some { cls := .type "list", data := .seq its.toArray n } := by
  obtain ⟨z, its, n, r, e⟩ := I.hok l _ hH
  exact ⟨z, its, n, r, r.length, e⟩

theorem notLongL {n : Nat} (h : n ≤ sizeLine) : Builtin.List.listTooLong n = false := by
  unfold Builtin.List.listTooLong
  exact decide_eq_false (by omega)
end

section
variable {X : Cx}

/-! ### methods -/
noncomputable def rAppend : V → List V → Hp → VK → Prop := fun x vs H Q => ∃ l xs y, x = .ref l ∧ vs = [y] ∧ H l = some (.lst xs) ∧ xs.length < sizeLine ∧ Q .non (upd H l (.lst (xs ++ [y])))
theorem mt_append : MtM X "list.append" rAppend := by
  intro pins s σ H x vs v us Q I rx rv h
  obtain ⟨l, xs, y, rfl, rfl, hH, hz, q⟩ := h
  cases rx
  obtain ⟨u, rfl, ru⟩ := rv.one
  obtain ⟨z, its, n, r, hl, e⟩ := I.lstM hH
  refine call_meets F.slot_list_append ⟨_, e, rfl⟩ F.entry_list_append (F.args_list_append_2 _ _) (PySem.list_append l its.toArray n u (by rw [List.size_toArray]; omega)) ⟨e, ?_⟩
  refine ⟨.non, _, I.lset (its' := its ++ [u]) hH e (by simp) (r.append (.cons ru .nil)) ?_, rfl, q⟩
  rw [List.length_append, List.length_singleton]
  omega

noncomputable def rReverse : V → List V → Hp → VK → Prop := fun x vs H Q => ∃ l xs, x = .ref l ∧ vs = [] ∧ H l = some (.lst xs) ∧ Q .non (upd H l (.lst xs.reverse))
theorem mt_reverse : MtM X "list.reverse" rReverse := by
  intro pins s σ H x vs v us Q I rx rv h
  obtain ⟨l, xs, rfl, rfl, hH, q⟩ := h
  cases rx
  have hus := rv.zero
  subst hus
  obtain ⟨z, its, n, r, hl, e⟩ := I.lstM hH
  refine call_meets F.slot_list_reverse ⟨_, e, rfl⟩ F.entry_list_reverse (F.args_list_reverse_1 _) (AutoSeq1.list_reverse_list_0 l its.toArray n (by rw [List.size_toArray]; omega)) ⟨e, ?_⟩
  refine ⟨.non, _, I.lset (its' := its.reverse) hH e (by simp) r.reverse ?_, rfl, q⟩
  rw [List.length_reverse]
  omega

noncomputable def rClear : V → List V → Hp → VK → Prop := fun x vs H Q => ∃ l xs, x = .ref l ∧ vs = [] ∧ H l = some (.lst xs) ∧ Q .non (upd H l (.lst []))
theorem mt_clear : MtM X "list.clear" rClear := by
  intro pins s σ H x vs v us Q I rx rv h
  obtain ⟨l, xs, rfl, rfl, hH, q⟩ := h
  cases rx
  have hus := rv.zero
  subst hus
  obtain ⟨z, its, n, r, hl, e⟩ := I.lstM hH
  refine call_meets F.slot_list_clear ⟨_, e, rfl⟩ F.entry_list_clear (F.args_list_clear_1 _) (AutoSeq1.list_clear_list_0 l its.toArray n (by rw [List.size_toArray]; omega)) ⟨e, ?_⟩
  exact ⟨.non, _, I.lset (its' := []) (ys := []) hH e rfl .nil (Nat.zero_le _), rfl, q⟩

/-! ### list + list, list += list, list * int -/
noncomputable def rCat : R2 := fun x y H Q => ∃ l b xs zs, x = .ref l ∧ y = .ref b ∧ H l = some (.lst xs) ∧ H b = some (.lst zs) ∧ xs.length + zs.length ≤ sizeLine ∧ ∀ p, H p = none → Q (.ref p) (upd H p (.lst (xs ++ zs)))
theorem op_cat : OpR X (binaryOp .Add) rCat := by
  intro pins s σ H x y v u Q I rx ry h
  obtain ⟨l, b, xs, zs, rfl, rfl, hH, hB, hz, q⟩ := h
  cases rx
  cases ry
  obtain ⟨z, its, n, r, hl, e⟩ := I.lstM hH
  obtain ⟨z2, its2, n2, r2, hl2, e2⟩ := I.lstM hB
  refine PySem.P.add_list e e2 ?_ (by rw [List.size_toArray, List.size_toArray]; omega)
  have ea : its.toArray ++ its2.toArray = (its ++ its2).toArray := by simp
  rw [ea]
  exact ⟨.ref _, _, I.lnew (t' := s.toks) (r.append r2) (by rw [List.length_append]; omega), rfl, q _ I.fresh⟩
/-! ### del xs[i] -/
end

/-! ### xs[a:b] = ys -/
section
variable {prog : Program} {w : World} {A : Around} {E : Value → Shared → Prop} {s : Shared}
end

section
variable {X : Cx}
end
end L2

namespace Att
open PySem PySem.W PySem.Calls PyProof.Rows

/-! ### the script -/
theorem ints_of_wellAll {P : Params} {h : Heap} : ∀ (ns : List Int) (vs : List Value), WellAll P h vs (ns.map WData.int) → IntsAre vs ns := by
  intro ns
  induction ns with
  | nil =>
    intro vs w
    rw [List.map_nil] at w
    cases w
    exact .nil
  | cons n ns ih =>
    intro vs w
    rw [List.map_cons] at w
    cases w with
    | cons a b =>
      cases a
      exact .cons _ _ (ih _ b)

theorem script_of {l : OpenLaw} {n : Nat} (hn : l.most = some n) {P : Params} {h : Heap} {args : List WData} {vals : List Value}
    (hpre : l.row.toRowW.claim.pre args = true) (hwl : WellAll P h vals args) :
    ∃ a vs ns, vals = [Value.ref a] ∧ args = [WData.list (ns.map WData.int)] ∧ h.get? a = some { cls := .type "list", data := .seq vs.toArray } ∧ IntsAre vs ns ∧ ns.length ≤ n := by
  have hsh : WShape.hasAll [] args [.list .int] = true := (pre_splitW hpre).1
  have hc : l.pre.holds [] { args := args } = true := (pre_splitW hpre).2
  obtain ⟨d, r, rfl, h1, h2⟩ := hasAllW_cons hsh
  obtain rfl := hasAllW_nil h2
  obtain ⟨xs, rfl, h3⟩ := hasW_list h1
  obtain ⟨ns, rfl⟩ := items_int h3
  have hlen : ns.length ≤ n := by
    unfold OpenLaw.pre at hc
    have h4 : (WTm.not (.lt (.lit (.int (n : Int))) (.len (.arg 0)))).holds [] { args := [.list (ns.map .int)] } = true := by
      have h4 := (holds_andW hc).1
      rw [hn] at h4
      exact h4
    have h5 := condW_of h4 (w_not (w_lt w_lit (w_len_list (w_arg rfl))))
    rw [List.length_map] at h5
    refine Nat.le_of_not_lt fun q => ?_
    have q' : (n : Int) < ((ns.length : Nat) : Int) := by omega
    first
      | (rw [decide_eq_true q'] at h5; exact absurd h5 (by decide))
      | (simp at h5; omega)
  cases hwl with
  | cons w1 w2 =>
    cases w2
    cases w1 with
    | list ho hall => exact ⟨_, _, ns, rfl, rfl, ho, ints_of_wellAll ns _ hall, hlen⟩

theorem post_true (l : OpenLaw) (args : List WData) : l.row.toRowW.claim.post args (.bool true) args = true :=
  postW_of (r := l.row.toRowW) (X := (true == true))
    (show WShape.has [] (.bool true) .bool = true by first | rfl | decide | simp [WShape.has, WShape.arms, WShape.armsAll])
    (show (WTm.eq .res (.lit (.bool true))).value [] { args := args, res := some (.bool true), after := args } = some (.bool (true == true)) from w_eq_bool (w_res rfl) w_lit) rfl

/-! ### the attachment: holds_open's last premise (the goal 'hc' behind k_head) from a wpAny of the law's body -/
/-- the same from a codeAny of the CALL (for a layer whose function contracts speak of calls) -/
theorem attach_call {l : OpenLaw} {n : Nat} {q : Program} {loose : List Str} {XP : (Str → Option Value) → Heap → Prop} {YP : World → Heap → Prop} {d : DefRec}
    (hn : l.most = some n) (hdf : d.params.defaults = [])
    (call : ∀ (w : World) (s₀ s₁ : Shared) (mg mb : Str → Option Value) (fa : Addr) (o : Obj) (pm cd doc : Value) (a : Addr) (vs : List Value) (ns : List Int),
      Ground q loose [] XP w s₀ mg mb s₁.heap → YP w s₁.heap →
      s₁.heap.get? fa = some o → o.data = .func (docDef d.name d.params d.body d.scope pm cd doc) → s₁.heap.CodeRec cd d.name → mg d.name = some (.ref fa) →
      s₁.heap.get? a = some { cls := .type "list", data := .seq vs.toArray } → IntsAre vs ns → ns.length ≤ n → s₁.gens = #[] →
      codeAny (model l.prog w) callerA (.call (.ref fa) ⟨[.ref a], []⟩) (fun r s' => r = .ok (.ret (.bool true)) ∧ OldK s₁.heap s'.heap ∧ s'.os = s₁.os ∧ AllBare s'.gens) s₁) :
    WalkO q loose XP YP l.row.toRowW d [] (fun f vs => PySem.call f vs) := by
  intro w s₀ s₁ mg mb G Y fa o pm cd doc dV kV ho hd hcd hD hmg hg args vals as hpre hlay hrd hwl hlo
  obtain rfl : dV = .none := Dflts.none hD hdf
  obtain rfl : kV = .none := Dflts.noKw hD
  obtain ⟨a, vs, ns, rfl, rfl, hobj, hints, hlen⟩ := script_of hn hpre hwl
  refine enter_call (codeAny_mono (call w s₀ s₁ mg mb fa o pm cd doc a vs ns G Y ho (fd_plain hd) hcd hmg hobj hints hlen hg) fun r s' hq => ?_)
  obtain ⟨rfl, h2, h3, h4⟩ := hq
  exact ⟨.inl ⟨.bool true, .bool true, [], rfl, fun _ => rfl, .bool true, post_true l _, fun _ => ⟨List.Pairwise.nil, fun _ hm => (nomatch hm)⟩⟩, h2, h3, h4⟩

/-! ### rules over ANY heap (no ledger) from facts about the written part K: the library's own take a ledger (News) for what they write -/
section
variable {prog : Program} {w : World} {A : Around} {E : Value → Shared → Prop} {s : Shared} {K : Frag}

/-! the whole heap as the ledger: makes every rule that writes through a ledger a rule over any heap -/
noncomputable def ledger (h : Heap) (L d : Addr) : List (Addr × Obj) := (List.range h.objs.size).filterMap fun a => if a = L ∨ a = d then none else (h.get? a).map fun o => (a, o)
end
end Att

namespace L2
open PySem PySem.Spec PyProof.Rows

theorem vals_ints : ∀ {vs : List Value} {ns : List Int}, IntsAre vs ns → Vals (ns.map V.int) vs
  | _, _, .nil => .nil
  | _, _, .cons n t h => .cons ⟨t, rfl⟩ (vals_ints h)

/-- nothing is tracked but the script, known to the object (or it is an object of the module) -/
noncomputable def Only (H : Hp) : Prop := ∀ b, H b = none ∨ ∃ o xs, H b = some (.frz o (.lst xs))

/-- THE HEAD: the law's promise, at the heap behind the top. F, the promise of the law's def, may use that base is part of the heap (so K.In base, base.Ns mainGlobals mg stand in Mod) -/
theorem law_call {P : Program} {w : World} {K : PySem.W.Frag} {mg mb : Str → Option Value} {CX : CXT} {k : Nat} {fa a : Addr} {fd : FuncData} {x : Str} {sp : Sp} {s₁ : Shared} {vs : List Value} {ns : List Int}
    (KX : K.In s₁.heap) (hns : s₁.heap.Ns mainGlobals mg) (hb : s₁.heap.Ns builtinsNs mb) (hbb : ∀ x : Str, x ≠ "__name__" → mb x = bootBuiltins x) (hlim : s₁.heap.NoLimit) (hg : s₁.gens = #[])
    (ha : s₁.heap.get? a = some { cls := .type "list", data := .seq vs.toArray }) (hi : IntsAre vs ns) (hl : ns.length ≤ sizeLine) (hr : Room k callerA)
    (F : ∀ base : Heap, K.In base → base.Ns mainGlobals mg → FnOk P w K mg base CX k fa fd [x] sp) (hbind : ∀ (s : Shared) (u : Value), BindsTo s fd ⟨[u], []⟩ [(x, u)])
    (hsp : ∀ H : Hp, Only H → SqL K H a (ns.map V.int) → sp [.ref a] H (fun v _ => v = .bl true) fun _ _ _ => False)
    (hCX : ∀ H e s', CX [] H s₁ (fun _ _ _ => False) e s' → False) :
    codeAny (model P w) callerA (.call (.ref fa) ⟨[.ref a], []⟩) (fun r s' => r = .ok (.ret (.bool true)) ∧ OldK s₁.heap s'.heap ∧ s'.os = s₁.os ∧ AllBare s'.gens) s₁ := by
  have rv := vals_ints hi
  have lenV := hi.length
  -- from an abstract heap in which nothing but the script may be tracked
  have core : ∀ H : Hp, Only H → SqL K H a (ns.map V.int) → HOk P w H s₁.heap → (∀ b, H b ≠ none → b = a) → (H a ≠ none → K.lookup a = none) →
      codeAny (model P w) callerA (.call (.ref fa) ⟨[.ref a], []⟩) (fun r s' => r = .ok (.ret (.bool true)) ∧ OldK s₁.heap s'.heap ∧ s'.os = s₁.os ∧ AllBare s'.gens) s₁ := by
    intro H hO hS hok hA hK
    have base_of : ∀ {b : Addr} {o : Obj}, s₁.heap.get? b = some o → H b = none → (hidT s₁.heap H).get? b = some o := fun e n => hidT_get e n
    have noA : ∀ {b : Addr} {o : Obj} {es : Array DictEntry} {ep : Nat}, s₁.heap.get? b = some o → o.data = .dict es ep → H b = none := fun {b o es ep} e d => by
      cases q : H b with
      | none => rfl
      | some u =>
        have e' : b = a := hA b (by rw [q]; simp)
        subst e'
        rw [ha] at e; cases e
        have d' : Data.seq vs.toArray _ = Data.dict es ep := d
        cases d'
    have nsK : ∀ {b : Addr} {m : Str → Option Value}, s₁.heap.Ns b m → (hidT s₁.heap H).Ns b m := fun {b m} ⟨o, es, ep, e, d, r⟩ => ⟨o, es, ep, base_of e (noA e d), d, r⟩
    have hKb : K.In (hidT s₁.heap H) := fun b o e => base_of (KX b o e) (by
      cases q : H b with
      | none => rfl
      | some u =>
        have e' : b = a := hA b (by rw [q]; simp)
        subst e'
        rw [hK (by rw [q]; simp)] at e; cases e)
    have hM : Mod K mg (hidT s₁.heap H) := ⟨hKb, nsK hns, ⟨mb, nsK hb, hbb⟩, let ⟨mc, h1, h2⟩ := hlim; ⟨mc, nsK h1, h2⟩⟩
    have e0 : Env0 P w K mg (hidT s₁.heap H) callerA [] s₁ H := ⟨rfl, hM, fun b o e => of_hidT e, Nat.le_of_eq (hidT_size _ _), trivial, fun b hb => absurd (show b ∈ ([] : List Addr) from hb) (by simp), hok, .of_eq hg⟩
    refine codeAny_mono ((F _ hKb (nsK hns)).run callerA [] s₁ H ⟨[.ref a], []⟩ [.ref a] [.ref a] _ _ hr e0 (hbind s₁ (.ref a)) (.cons rfl .nil) (hsp H hO hS)) fun r s' h => ?_
    cases r with
    | error e => exact (hCX H e s' h).elim
    | ok fl =>
      cases fl with
      | next => exact False.elim h
      | brk => exact False.elim h
      | cont => exact False.elim h
      | ret u =>
        obtain ⟨v, H', os, bare, un, hok', r', q⟩ := h
        have q' : v = .bl true := q
        subst q'
        obtain rfl : u = Value.bool true := r'
        refine ⟨rfl, OldK.of_keep fun b o e => ?_, os, bare⟩
        cases q : H b with
        | none => exact un.keep b o e q (by intro z; exact absurd (show b ∈ ([] : List Addr) from z) (by simp)) (by simp)
        | some u =>
          rcases hO b with z | ⟨ob, xs, z⟩
          · rw [q] at z; cases z
          · have z2 := un.frzs b ob _ z
            obtain ⟨e1, _⟩ := hok b _ z
            obtain ⟨e2, _⟩ := hok' b _ z2
            rw [e] at e1; cases e1
            exact e2
  cases hk : K.lookup a with
  | some o =>
    -- the script is one of the module's own objects
    have e := KX a o hk
    rw [ha] at e
    cases e
    refine core (fun _ => none) (fun _ => .inl rfl) (.inr ⟨_, vs.toArray, _, hk, rfl, rfl, rfl, by rw [List.size_toArray, lenV]; exact hl, by simpa using rv⟩) (fun b u z => by have z' : (none : Option HO) = some u := z; cases z') (fun b z => absurd rfl z) fun z => absurd rfl z
  | none =>
    refine core (fun b => if b = a then some (.frz { cls := .type "list", data := .seq vs.toArray } (.lst (ns.map V.int))) else none) (fun b => ?_) (.inl (.inr ⟨{ cls := .type "list", data := .seq vs.toArray }, if_pos rfl⟩)) (fun b u z => ?_) (fun b z => ?_) fun _ => hk
    · by_cases hb : b = a
      · exact .inr ⟨_, _, if_pos hb⟩
      · exact .inl (if_neg hb)
    · by_cases hb : b = a
      · have z' := (if_pos hb).symm.trans z
        cases z'
        subst hb
        exact ⟨ha, by rw [List.length_map]; exact hl, vs, _, rv, ha⟩
      · have z' := (if_neg hb).symm.trans z
        cases z'
    · by_cases hb : b = a
      · exact hb
      · exact absurd (if_neg hb) z
end L2

namespace L2
open PySem PySem.Spec PyProof.Rows

noncomputable abbrev KOf {K : PySem.W.Frag} {h : Heap} (_ : K.In h) : PySem.W.Frag := K

/-- the goal that k_head leaves (case hc), from the law's promise. F gives the function object fd (K's own) once, then the promise over every base -/
theorem walk_of {l : PySem.W.OpenLaw} {n k : Nat} {q : Program} {loose : List Str} {XP : (Str → Option Value) → Heap → Prop} {YP : World → Heap → Prop} {d : DefRec} {K : Params → PySem.W.Frag} {CX : World → CXT} {sp : World → Sp} {x : Str}
    (hn : l.most = some n) (hn2 : n ≤ sizeLine) (hdf : d.params.defaults = []) (hr : Room k callerA)
    (hY : ∀ (w : World) (h : Heap), YP w h → (K w.params).In h)
    (F : ∀ (w : World) (mg : Str → Option Value) (fa : Addr) (h : Heap), (K w.params).In h → h.Ns mainGlobals mg → mg d.name = some (.ref fa) →
      ∃ fd : FuncData, (∀ (s : Shared) (u : Value), BindsTo s fd ⟨[u], []⟩ [(x, u)]) ∧
        ∀ base : Heap, (K w.params).In base → base.Ns mainGlobals mg → FnOk l.prog w (K w.params) mg base (CX w) k fa fd [x] (sp w))
    (hsp : ∀ (w : World) (H : Hp) (a : Addr) (ns : List Int), ns.length ≤ n → Only H → SqL (K w.params) H a (ns.map V.int) → sp w [.ref a] H (fun v _ => v = .bl true) fun _ _ _ => False)
    (hCX : ∀ (w : World) (H : Hp) (s : Shared) (e : Value) (s' : Shared), CX w [] H s (fun _ _ _ => False) e s' → False) :
    PySem.W.WalkO q loose XP YP l.row.toRowW d [] (fun f vs => PySem.call f vs) := by
  refine Att.attach_call hn hdf fun w s₀ s₁ mg mb fa o pm cd doc a vs ns G Y ho hd hcd hmg hobj hints hlen hg => ?_
  have KX := hY w _ Y
  obtain ⟨fd, hb, hF⟩ := F w mg fa _ KX G.T.g hmg
  exact law_call KX G.T.g G.T.b G.T.builtins G.T.nolimit hg hobj hints (Nat.le_trans hlen hn2) hr hF hb (fun H hO hS => hsp w H a ns hlen hO hS) fun H e s' => hCX w H s₁ e s'
end L2

/- THE LAST THEOREM (shape; LID, My.* are yours):
   My.Adr: a structure of the addresses that your layer names (classes, functions); My.Txt K t: a structure (Prop) of the equations over K;
   My.txt_mk : {K} {implicit addresses ..} (e1 : nsIn K mainGlobals "law" = some (some (.ref f))) (e2 : K.lookup f = some ⟨oc, od, .func (fnOf "law" "law" params body scope dV kV doc pm an cdv ct), sl⟩) (e3 : codeIn K cdv "law" = true) .. : ∃ t, My.Txt K t

set_option maxRecDepth 100000 in
set_option maxHeartbeats 0 in
theorem PySem.Challenge.cw_LID_holds : PySem.Challenge.rw_LID.Holds := by
  w_on; o_law; k_head; (case hw => w_witness2)
  k_fill
  refine L2.walk_of (l := PySem.Challenge.rw_LID) (n := 63) (k := 40) (x := "script") (CX := fun w => ..) (sp := fun _ => My.sp_law) rfl (by decide) rfl ⟨rfl, by decide, by decide⟩ (fun w h Y => PySem.W.kIn_of Y) ?F ?S ?C
  case F =>
    intro w mg fa h KX G hmg
    have T : ∃ t, My.Txt (L2.KOf KX) t := by
      dsimp only [L2.KOf]                          -- K must stand as «<heap const> w.params» for k_is
      refine' My.txt_mk ?e1 ?e2 ?e3 ..
      (case e1 => PySem.W.k_is)                    -- in the order: a name -> its address -> its object -> its parts
      (case e2 => PySem.W.k_is)
      ..
    obtain ⟨t, T⟩ := T
    have e0 := hmg.symm.trans (PySem.W.mg_of KX G T.law)
    cases e0                                       -- fa is the law's own address
    exact ⟨_, fun s u => .of_eq rfl, fun base kb nb => My.law_fn T kb nb⟩     -- if «.of_eq rfl» comes too early: refine' ⟨_, ?b, fun base kb nb => My.law_fn T kb nb⟩; exact fun s u => .of_eq rfl
  case S => exact fun w H a ns hl hO hS => ..
  case C => exact ..
(the tactic k_is has no namespace: write k_is) -/

/-! SHORT WORDS over the layer: a def of the text, its body, what a loop and a test want. -/
namespace L2
open PySem PySem.Spec PyProof.Rows

/-! ### the text by places -/
/-- the j-th statement of a class's body -/
noncomputable def inClass (s : Stmt) (j : Nat) : Stmt := match s with
  | .ClassDef _ _ _ body _ _ _ _ _ _ _ => body.getD j (.Pass ⟨0, 0, 0, 0⟩)
  | _ => .Pass ⟨0, 0, 0, 0⟩
noncomputable def defArgs (s : Stmt) : Arguments := match s with
  | .FunctionDef _ a _ _ _ _ _ _ _ _ => a
  | _ => { posonlyargs := [], args := [], vararg := none, kwonlyargs := [], kw_defaults := [], kwarg := none, defaults := [] }
noncomputable def defBody (s : Stmt) : List Stmt := match s with
  | .FunctionDef _ _ b _ _ _ _ _ _ _ => b
  | _ => []
noncomputable def defScope (s : Stmt) : Scope := match s with
  | .FunctionDef _ _ _ _ _ _ sc _ _ _ => sc
  | _ => { kind := .function, names := [], isGenerator := false, isCoroutine := false }

/-! ### no exception leaves a def -/
noncomputable abbrev CX0 : CXT := fun _ _ _ _ _ _ => False
noncomputable abbrev E0 : XK := fun _ _ _ => False
theorem pass0 {X : Cx} : Passes CX0 X E0 := fun _ _ _ _ _ _ _ h => h.elim

/-! ### a def (or method) of the text as it stands behind the top -/
structure Fun (K : PySem.W.Frag) (x qual : Str) (st : Stmt) (f : Addr) (fd : FuncData) : Prop where
  ex : ∃ (oc : Value) (od : Option Addr) (kV doc pm : Value) (an : Option Addr) (cdv ct : Value) (osl : Array (Option Value)),
    fd = PySem.W.fnOf x qual (defArgs st) (defBody st) (defScope st) .none kV doc pm an cdv ct ∧ K.lookup f = some ⟨oc, od, .func fd, osl⟩ ∧ PySem.W.codeIn K cdv qual = true
  kp : PySem.W.keepIn K (.ref f) = true
section
variable {P : Program} {w : World} {K : PySem.W.Frag} {mg : Str → Option Value} {base : Heap}
/-- THE RULE for a def: its body as a term of rules, and the reading of that term -/
theorem Fun.ok {x qual : Str} {st : Stmt} {f : Addr} {fd : FuncData} {N ps : List Str} {k : Nat} {sp : Sp} (F : Fun K x qual st f fd) (S : FnScope N ps (defScope st)) (len : ∀ vs H Q E, sp vs H Q E → vs.length = ps.length)
    (hbody : ∀ (cdv : Value) (A : Around) (outer : List Env) (s : Shared) (H : Hp) (vs : List V) (Q : VK) (E : XK), Room k (A.deeper (envOfC qual (defScope st) s.heap.objs.size f cdv)) → sp vs H Q E →
      ∃ t, PSs (cxOf CX0 P w K mg base N qual (defScope st) f cdv A outer s H E).nox (defBody st) t ∧ t { nx := fun _ H' => Q .non H', rt := Q } (start N vs) H) : FnOk P w K mg base CX0 (k + 1) f fd ps sp := by
  obtain ⟨oc, od, kV, doc, pm, an, cdv, ct, osl, rfl, lk, hcd⟩ := F.ex
  refine fn_of lk hcd S len fun A outer s H vs Q E hr hsp => ?_
  obtain ⟨t, h, q⟩ := hbody cdv A outer s H vs Q E hr hsp
  exact ⟨t, h.nox, q⟩
/-- how its arguments bind (no defaults): h is «fun _ _ _ _ _ _ us hl => match us, hl with | [_, _], _ => rfl», one _ a parameter -/
theorem Fun.binds {x qual : Str} {st : Stmt} {f : Addr} {fd : FuncData} {ps : List Str} (F : Fun K x qual st f fd)
    (h : ∀ (kV doc pm : Value) (an : Option Addr) (cdv ct : Value) (us : List Value), us.length = ps.length → bindArgs (PySem.W.fnOf x qual (defArgs st) (defBody st) (defScope st) .none kV doc pm an cdv ct) ⟨us, []⟩ = pure (ps.zip us)) : Binds K fd ps [] := by
  obtain ⟨oc, od, kV, doc, pm, an, cdv, ct, osl, rfl, lk, hcd⟩ := F.ex
  exact .all (h kV doc pm an cdv ct)
theorem fun_mk {x qual : Str} {st : Stmt} {f : Addr} {oc : Value} {od an : Option Addr} {osl : Array (Option Value)} {kV doc pm cdv ct : Value} (l : K.lookup f = some ⟨oc, od, .func (PySem.W.fnOf x qual (defArgs st) (defBody st) (defScope st) .none kV doc pm an cdv ct), osl⟩)
    (c : PySem.W.codeIn K cdv qual = true) (k : PySem.W.keepIn K (.ref f) = true) : Fun K x qual st f (PySem.W.fnOf x qual (defArgs st) (defBody st) (defScope st) .none kV doc pm an cdv ct) := ⟨⟨oc, od, kV, doc, pm, an, cdv, ct, osl, rfl, l, c⟩, k⟩
end
theorem hu_of {A : Around} {k : Nat} (hr : Room k A) : A.units + 1 < cLine := Nat.lt_of_le_of_lt (Nat.add_le_add_left (by decide : 1 ≤ 64) _) hr.units
/-! ### expressions in short: the name that stands in the i-th slot -/
section
variable {X : Cx}
theorem pv (i : Nat) {x : Str} {pos : Pos} (hN : X.N[i]? = some x := by rfl) (hv : Vis X.env.scope x := by first | exact Or.inl rfl | exact Or.inr (Or.inl rfl) | exact Or.inr (Or.inr rfl)) (hd : (x == ("__debug__" : Str)) = false := by decide)
    (hcd : (x == ("__classdict__" : Str)) = false := by decide) : PE X (.Name x pos) (tVar i) := pe_var hN hv hd hcd
end

/-! ### tests -/
theorem iteF {A B : Prop} (h : B) : if false = true then A else B := by
  rw [if_neg Bool.false_ne_true]
  exact h
theorem iteT {A B : Prop} (h : A) : if true = true then A else B := by
  rw [if_pos rfl]
  exact h
theorem ite2 {c A B : Prop} [Decidable c] (h1 : c → A) (h2 : ¬ c → B) : if c then A else B := by
  by_cases h : c
  · rw [if_pos h]
    exact h1 h
  · rw [if_neg h]
    exact h2 h
/-! ### heaps -/
/-- all that was tracked is as it was -/
noncomputable def Same (H H' : Hp) : Prop := ∀ b o, H b = some o → H' b = some o
theorem Same.refl (H : Hp) : Same H H := fun _ _ h => h
theorem Same.trans {H H1 H2 : Hp} (a : Same H H1) (b : Same H1 H2) : Same H H2 := fun c o h => b c o (a c o h)
theorem Same.free {H H' : Hp} (e : Same H H') {l : Addr} (h : H' l = Option.none) : H l = Option.none := by
  cases q : H l with
  | none => rfl
  | some o =>
    rw [e l o q] at h
    cases h
theorem Same.seq {K : PySem.W.Frag} {H H' : Hp} {a : Addr} {xs : List V} (e : Same H H') (h : SqL K H a xs) : SqL K H' a xs := by
  rcases h with (h | ⟨o, h⟩) | h
  · exact .inl (.inl (e _ _ h))
  · exact .inl (.inr ⟨o, e _ _ h⟩)
  · exact .inr h

end L2

namespace L2
open PySem PySem.Spec PyProof.Rows

/-! ### lists of pairs as tables -/
section
variable {κ : Type} [DecidableEq κ]
noncomputable def valV (kvs : List (κ × V)) (k : κ) : Option V := (kvs.find? fun kv => decide (kv.1 = k)).map (·.2)
/-- in its place, or at the end -/
noncomputable def putK (kvs : List (κ × V)) (k : κ) (v : V) : List (κ × V) :=
  if (kvs.any fun kv => decide (kv.1 = k)) = true then kvs.map (fun kv => if kv.1 = k then (kv.1, v) else kv) else kvs ++ [(k, v)]
theorem valV_pos {p : κ × V} {r : List (κ × V)} {k : κ} (e : p.1 = k) : valV (p :: r) k = some p.2 := by simp [valV, List.find?_cons, e]
theorem valV_neg {p : κ × V} {r : List (κ × V)} {k : κ} (e : ¬ p.1 = k) : valV (p :: r) k = valV r k := by simp [valV, List.find?_cons, e]
theorem valV_any (k : κ) : ∀ kvs : List (κ × V), (kvs.any fun kv => decide (kv.1 = k)) = (valV kvs k).isSome
  | [] => rfl
  | p :: r => by
    rw [List.any_cons]
    by_cases e : p.1 = k
    · simp only [valV_pos e, decide_eq_true e, Bool.true_or, Option.isSome_some]
    · rw [valV_neg e, decide_eq_false e, Bool.false_or]; exact valV_any k r
theorem valV_map (k j : κ) (y : V) : ∀ kvs : List (κ × V), valV (kvs.map fun kv => if kv.1 = k then (kv.1, y) else kv) j = (valV kvs j).map fun x => if j = k then y else x
  | [] => rfl
  | p :: r => by
    have ih := valV_map k j y r
    rw [List.map_cons]
    by_cases h : p.1 = k
    · rw [if_pos h]
      by_cases e : p.1 = j
      · rw [valV_pos (p := (p.1, y)) e, valV_pos e, Option.map_some, if_pos (e.symm.trans h)]
      · rw [valV_neg (p := (p.1, y)) e, valV_neg e, ih]
    · rw [if_neg h]
      by_cases e : p.1 = j
      · rw [valV_pos (p := p) e, valV_pos e, Option.map_some, if_neg (fun z => h (e.trans z))]
      · rw [valV_neg (p := p) e, valV_neg e, ih]
theorem valV_snoc (k j : κ) (y : V) : ∀ kvs : List (κ × V), valV kvs k = none → valV (kvs ++ [(k, y)]) j = if j = k then some y else valV kvs j
  | [], _ => by
    by_cases e : k = j
    · rw [if_pos e.symm]; exact valV_pos (p := (k, y)) e
    · rw [if_neg (fun z => e z.symm)]; exact valV_neg (p := (k, y)) e
  | p :: r, hn => by
    rw [List.cons_append]
    have hk : ¬ p.1 = k := fun z => by rw [valV_pos z] at hn; cases hn
    rw [valV_neg hk] at hn
    have ih := valV_snoc k j y r hn
    by_cases e : p.1 = j
    · rw [valV_pos e, valV_pos e, if_neg (fun z => hk (e.trans z))]
    · rw [valV_neg e, valV_neg e, ih]
theorem valV_put (kvs : List (κ × V)) (k j : κ) (y : V) : valV (putK kvs k y) j = if j = k then some y else valV kvs j := by
  unfold putK
  by_cases a : (kvs.any fun kv => decide (kv.1 = k)) = true
  · rw [if_pos a, valV_map]
    rw [valV_any] at a
    by_cases e : j = k
    · obtain ⟨x, hx⟩ := Option.isSome_iff_exists.mp a
      rw [if_pos e, e, hx, Option.map_some, if_pos rfl]
    · rw [if_neg e]
      cases valV kvs j with
      | none => rfl
      | some x => rw [Option.map_some, if_neg e]
  · rw [if_neg a]
    refine valV_snoc k j y kvs ?_
    rw [valV_any] at a
    cases q : valV kvs k with
    | none => rfl
    | some x => rw [q] at a; exact (a rfl).elim
theorem length_putK (kvs : List (κ × V)) (k : κ) (v : V) : (putK kvs k v).length ≤ kvs.length + 1 := by
  unfold putK
  split
  · rw [List.length_map]; omega
  · rw [List.length_append, List.length_cons, List.length_nil]; omega
theorem putK_new {kvs : List (κ × V)} {k : κ} (v : V) (h : valV kvs k = none) : putK kvs k v = kvs ++ [(k, v)] := by
  unfold putK
  rw [valV_any, h]
  exact if_neg (by decide)

theorem RelO.isSome_eq {o : Option V} {u : Option Value} (r : RelO o u) : o.isSome = u.isSome := by
  cases o with
  | none => cases u with
    | none => rfl
    | some _ => exact (show False from r).elim
  | some _ => cases u with
    | none => exact (show False from r).elim
    | some _ => rfl
/-- raw tables of the same keys -/
theorem KV.val {kvs : List (κ × V)} {vs : List (κ × Value)} (r : KV kvs vs) (k : κ) : RelO (valV kvs k) (valueAt vs k) := by
  unfold KV at r
  induction r with
  | nil => exact True.intro
  | @cons p q ps qs h t ih =>
    obtain ⟨h1, h2⟩ := h
    by_cases e : p.1 = k
    · have e' : q.1 = k := h1.symm.trans e
      have b : valueAt (q :: qs) k = some q.2 := by simp [valueAt, List.find?_cons, e']
      rw [valV_pos e, b]; exact h2
    · have e' : ¬ q.1 = k := fun z => e (h1.trans z)
      have b : valueAt (q :: qs) k = valueAt qs k := by simp [valueAt, List.find?_cons, e']
      rw [valV_neg e, b]; exact ih
theorem KV.any {kvs : List (κ × V)} {vs : List (κ × Value)} (r : KV kvs vs) (k : κ) : (kvs.any fun kv => decide (kv.1 = k)) = vs.any fun kv => decide (kv.1 = k) := by
  unfold KV at r
  induction r with
  | nil => rfl
  | cons h t ih => rw [List.any_cons, List.any_cons, ih, h.1]
theorem KV.repl {kvs : List (κ × V)} {vs : List (κ × Value)} (r : KV kvs vs) (k : κ) {y : V} {u : Value} (ry : RelV y u) :
    KV (kvs.map fun kv => if kv.1 = k then (kv.1, y) else kv) (vs.map fun kv => if kv.1 = k then (kv.1, u) else kv) := by
  unfold KV at r ⊢
  induction r with
  | nil => exact .nil
  | @cons p q ps qs h t ih =>
    rw [List.map_cons, List.map_cons]
    refine .cons ?_ ih
    obtain ⟨h1, h2⟩ := h
    by_cases e : p.1 = k
    · rw [if_pos e, if_pos (h1.symm.trans e)]; exact ⟨h1, ry⟩
    · rw [if_neg e, if_neg (fun z => e (h1.trans z))]; exact ⟨h1, h2⟩
theorem KV.put {kvs : List (κ × V)} {vs : List (κ × Value)} (r : KV kvs vs) (k : κ) {y : V} {u : Value} (ry : RelV y u) : KV (putK kvs k y) (stored vs k u) := by
  unfold putK stored
  rw [r.any k]
  by_cases e : (vs.any fun kv => decide (kv.1 = k)) = true
  · rw [if_pos e, if_pos e]; exact r.repl k ry
  · rw [if_neg e, if_neg e]; exact Paired.snoc r ⟨rfl, ry⟩
theorem KV.keys {kvs : List (κ × V)} {vs : List (κ × Value)} (r : KV kvs vs) : kvs.map (·.1) = vs.map (·.1) := by
  unfold KV at r
  induction r with
  | nil => rfl
  | cons h t ih => rw [List.map_cons, List.map_cons, ih, h.1]
theorem KV.length {kvs : List (κ × V)} {vs : List (κ × Value)} (r : KV kvs vs) : kvs.length = vs.length := Paired.length r
end


/-! ### a tracked dict, its keys ints and texts or tuples of these -/
theorem kV_is {P : Program} {w : World} {k : Key} {u : Value} (r : RelV (kV k) u) : (mixKind P w).is k u = true := by
  cases k with
  | inl i => obtain ⟨t, e⟩ := (show ∃ t, u = Value.int i t from r); subst e; exact mixKind_int P w i t
  | inr x => obtain ⟨t, e⟩ := (show ∃ t, u = Value.str x t from r); subst e; exact mixKind_str P w x t
theorem items_are {P : Program} {w : World} : ∀ {ks : List Key} {us : List Value}, Vals (ks.map kV) us → ItemsAre (mixKind P w) ks us
  | [], _, r => by rw [List.map_nil] at r; cases r; exact .nil
  | k :: ks, _, r => by
    rw [List.map_cons] at r
    cases r with
    | cons h t => exact .cons (kV_is h) (items_are t)

/-- raw entries of a dict with tuple keys -/
noncomputable abbrev KT (H : Hp) : List (List Key × V) → List (List Key × Addr × Value) → Prop := Paired fun p q => p.1 = q.1 ∧ H q.2.1 = some (.tup (p.1.map kV)) ∧ RelV p.2 q.2.2
theorem KT.val {H : Hp} {kvs : List (List Key × V)} {xs : List (List Key × Addr × Value)} (r : KT H kvs xs) (k : List Key) : RelO (valV kvs k) ((atKey xs k).map (·.2)) := by
  induction r with
  | nil => exact True.intro
  | @cons p q ps qs h t ih =>
    obtain ⟨h1, _, h2⟩ := h
    by_cases e : p.1 = k
    · have e' : q.1 = k := h1.symm.trans e
      have b : atKey (q :: qs) k = some q.2 := by simp [atKey, List.find?_cons, e']
      rw [valV_pos e, b]; exact h2
    · have e' : ¬ q.1 = k := fun z => e (h1.trans z)
      have b : atKey (q :: qs) k = atKey qs k := by simp [atKey, List.find?_cons, e']
      rw [valV_neg e, b]; exact ih
theorem KT.repl {H : Hp} {kvs : List (List Key × V)} {xs : List (List Key × Addr × Value)} (r : KT H kvs xs) (k : List Key) {y : V} {u : Value} (ry : RelV y u) :
    KT H (kvs.map fun kv => if kv.1 = k then (kv.1, y) else kv) (xs.map (putAt k u)) := by
  induction r with
  | nil => exact .nil
  | @cons p q ps qs h t ih =>
    rw [List.map_cons, List.map_cons]
    refine .cons ?_ ih
    obtain ⟨h1, h2, h3⟩ := h
    unfold putAt
    by_cases e : p.1 = k
    · rw [if_pos e, if_pos (h1.symm.trans e)]; exact ⟨h1, h2, ry⟩
    · rw [if_neg e, if_neg (fun z => e (h1.trans z))]; exact ⟨h1, h2, h3⟩
theorem KT.put {H : Hp} {kvs : List (List Key × V)} {xs : List (List Key × Addr × Value)} (r : KT H kvs xs) (k : List Key) {b : Addr} {y : V} {u : Value} (hb : H b = some (.tup (k.map kV))) (ry : RelV y u) :
    KT H (putK kvs k y) (storedH xs k b u) := by
  have e : (kvs.any fun kv => decide (kv.1 = k)) = (atKey xs k).isSome := by
    rw [valV_any, (r.val k).isSome_eq, Option.isSome_map]
  unfold putK storedH
  rw [e]
  by_cases q : (atKey xs k).isSome = true
  · rw [if_pos q, if_pos q]; exact r.repl k ry
  · rw [if_neg q, if_neg q]; exact Paired.snoc r ⟨rfl, hb, ry⟩
theorem KT.keeps {H H' : Hp} {kvs : List (List Key × V)} {xs : List (List Key × Addr × Value)} (r : KT H kvs xs) (ht : ∀ b ys, H b = some (.tup ys) → H' b = some (.tup ys)) : KT H' kvs xs :=
  Paired.mapP r fun _ _ z => ⟨z.1, ht _ _ z.2.1, z.2.2⟩

section
variable {P : Program} {w : World} {H : Hp} {h : Heap} {a : Addr}
theorem rd_of {u : HO} (ok : HOk P w H h) (e : Rd H a u) : ObjOk P w H h a u := e.ok ok
theorem dk_rd {kvs : List (Key × V)} (ok : HOk P w H h) (e : Rd H a (.dK kvs)) : kvs.length ≤ sizeLine ∧ (a == sysModules) = false ∧ ∃ vs, KV kvs vs ∧ h.DictOf (mixKind P w) a vs :=
  show ObjOk P w H h a (.dK kvs) from rd_of ok e
theorem dk_of {kvs : List (Key × V)} (ok : HOk P w H h) (e : H a = some (.dK kvs)) : kvs.length ≤ sizeLine ∧ (a == sysModules) = false ∧ ∃ vs, KV kvs vs ∧ h.DictOf (mixKind P w) a vs := dk_rd ok (.inl e)
/-- a tracked tuple of ints and texts is a key -/
theorem key_of {ks : List Key} (ok : HOk P w H h) (e : H a = some (.tup (ks.map kV))) : (tupleKind (mixKind P w)).is h ks a := by
  obtain ⟨_, its, r, o, h1, h2, n, h3⟩ := (show ObjOk P w H h a (.tup (ks.map kV)) from ok a _ e)
  exact ⟨o, its.toArray, n, h1, h2, h3, by simpa using items_are r⟩
theorem dt_rd {kvs : List (List Key × V)} (ok : HOk P w H h) (e : Rd H a (.dT kvs)) : kvs.length ≤ sizeLine ∧ (a == sysModules) = false ∧
    ∃ xs, KT H kvs xs ∧ h.DictOfH (tupleKind (mixKind P w)) a xs := by
  obtain ⟨z, y, xs, r, o, es, ep, h1, h2, h3, h4, h5⟩ := (show ObjOk P w H h a (.dT kvs) from rd_of ok e)
  refine ⟨z, y, xs, r, o, es, ep, h1, h2, h3, h4, fun x hx => ?_, h5⟩
  have all : ∀ {l : List (List Key × V)} {m : List (List Key × Addr × Value)}, KT H l m → ∀ x ∈ m, (tupleKind (mixKind P w)).is h x.1 x.2.1 := by
    intro l m q
    induction q with
    | nil => intro x hx; exact nomatch hx
    | @cons p q ps qs hq t ih =>
      intro x hx
      rcases List.mem_cons.mp hx with e | hx
      · subst e
        exact key_of ok (by rw [← hq.1]; exact hq.2.1)
      · exact ih x hx
  exact all r x hx
theorem dt_of {kvs : List (List Key × V)} (ok : HOk P w H h) (e : H a = some (.dT kvs)) : kvs.length ≤ sizeLine ∧ (a == sysModules) = false ∧
    ∃ xs, KT H kvs xs ∧ h.DictOfH (tupleKind (mixKind P w)) a xs := dt_rd ok (.inl e)
end

/-- what the dict at a holds at the key y -/
noncomputable def DGet (H : Hp) (a : Addr) (y : V) (r : Option V) : Prop :=
  (∃ kvs k, Rd H a (.dK kvs) ∧ y = kV k ∧ r = valV kvs k) ∨ ∃ kvs k b, Rd H a (.dT kvs) ∧ y = .ref b ∧ H b = some (.tup (k.map kV)) ∧ r = valV kvs k
/-- the heap behind a[y] = v -/
noncomputable def DPut (H : Hp) (a : Addr) (y v : V) (H' : Hp) : Prop :=
  (∃ kvs k, H a = some (.dK kvs) ∧ y = kV k ∧ kvs.length < sizeLine ∧ H' = upd H a (.dK (putK kvs k v))) ∨
  ∃ kvs k b, H a = some (.dT kvs) ∧ y = .ref b ∧ H b = some (.tup (k.map kV)) ∧ kvs.length < sizeLine ∧ H' = upd H a (.dT (putK kvs k v))
theorem DGet.k {H : Hp} {a : Addr} {kvs : List (Key × V)} {k : Key} (e : H a = some (.dK kvs)) : DGet H a (kV k) (valV kvs k) := .inl ⟨kvs, k, .inl e, rfl, rfl⟩
theorem DPut.k {H : Hp} {a : Addr} {kvs : List (Key × V)} {k : Key} {v : V} (e : H a = some (.dK kvs)) (hl : kvs.length < sizeLine) : DPut H a (kV k) v (upd H a (.dK (putK kvs k v))) := .inl ⟨kvs, k, e, rfl, hl, rfl⟩
section
variable {X : Cx} {pins : List (Addr × Obj)} {σ : St} {H : Hp} {s : Shared} {a : Addr} {y v : V} {u r : Value} {o : Option V} {A : Around} {E : Value → Shared → Prop}

theorem Inv.big (I : Inv X pins σ H s) : sysModules < s.heap.objs.size := by
  have h : mainGlobals < s.heap.objs.size := (I.mod.glob.keeps I.bk).lt
  exact Nat.lt_trans (by decide) h

/-- d[y], there -/
theorem d_getItem {Q : Value → Shared → Prop} (hu : A.units + 1 < cLine) (I : Inv X pins σ H s) (g : DGet H a y (some v)) (ry : RelV y u) (h : ∀ w' s', Inv X pins σ H s' → RelV v w' → Q w' s') :
    wpAny (model X.prog X.w) A (getItem (.ref a) u) Q E s := by
  rcases g with ⟨kvs, k, e, ey, l⟩ | ⟨kvs, k, b, e, ey, eb, l⟩
  · subst ey
    obtain ⟨z, hd, vs, rel, dd⟩ := dk_rd I.hok e
    obtain ⟨w', hw, rw'⟩ := RelO.some_of (v := v) (o := valueAt vs k) (by rw [l]; exact rel.val k)
    exact wpAny_getItem_of (kV_is ry) dd.mapOf hw (h w' _ (I.tok _) rw')
  · subst ey
    cases (show u = Value.ref b from ry)
    obtain ⟨z, hd, xs, rel, dd⟩ := dt_rd I.hok e
    obtain ⟨w', hw, rw'⟩ := RelO.some_of (v := v) (o := (atKey xs k).map (·.2)) (by rw [l]; exact rel.val k)
    obtain ⟨p, hp, hp2⟩ := Option.map_eq_some_iff.mp hw
    refine wpAny_getItem_heap (tupleKind_room_in1 hu) (key_of I.hok eb) dd hp ?_
    rw [hp2]
    exact h w' _ (I.tok _) rw'
theorem d_notIn {Q : Value → Shared → Prop} (hu : A.units + 1 < cLine) (I : Inv X pins σ H s) (g : DGet H a y o) (ry : RelV y u) (h : ∀ s', Inv X pins σ H s' → Q (.bool (!o.isSome)) s') :
    wpAny (model X.prog X.w) A (compareOp .NotIn u (.ref a)) Q E s := by
  rcases g with ⟨kvs, k, e, ey, l⟩ | ⟨kvs, k, b, e, ey, eb, l⟩
  · subst ey
    obtain ⟨z, hd, vs, rel, dd⟩ := dk_rd I.hok e
    refine wpAny_notIn_of (kV_is ry) hd dd.mapOf ?_
    rw [← (rel.val k).isSome_eq, ← l]
    exact h _ (I.tok _)
  · subst ey
    cases (show u = Value.ref b from ry)
    obtain ⟨z, hd, xs, rel, dd⟩ := dt_rd I.hok e
    refine wpAny_notIn_heap (tupleKind_room_in1 hu) (key_of I.hok eb) hd dd ?_
    have q := (rel.val k).isSome_eq
    rw [Option.isSome_map] at q
    rw [← q, ← l]
    exact h _ (I.tok _)
/-- a dict's object is replaced -/
theorem d_write {h' : Heap} {t' : Nat} {ob : HO} (I : Inv X pins σ H s) (mu : Mut (H a)) (hs : Heap.SameBut a s.heap h') (he : ∃ q, h'.get? a = some q) (new : ObjOk X.prog X.w (upd H a ob) h' a ob) :
    Inv X pins σ (upd H a ob) { s with heap := h', toks := t' } :=
  I.write (x := a) (e := a) mu (.inl rfl) (fun b q hb z => (hs.2 b hb).trans z) he new
theorem dk_new {P : Program} {w : World} {H' : Hp} {h' : Heap} {kvs : List (Key × V)} {vs : List (Key × Value)} (z : kvs.length ≤ sizeLine) (hd : (a == sysModules) = false) (rel : KV kvs vs) (dd : h'.DictOf (mixKind P w) a vs) :
    ObjOk P w H' h' a (.dK kvs) := ⟨z, hd, vs, rel, dd⟩
/-- d[y] = v -/
theorem d_setItem {H' : Hp} {Q : Unit → Shared → Prop} (hu : A.units + 1 < cLine) (I : Inv X pins σ H s) (g : DPut H a y v H') (ry : RelV y u) (rv : RelV v r) (h : ∀ s', Inv X pins σ H' s' → Q () s') :
    wpAny (model X.prog X.w) A (setItem (.ref a) u r) Q E s := by
  rcases g with ⟨kvs, k, e, ey, l, eH⟩ | ⟨kvs, k, b, e, ey, eb, l, eH⟩
  · subst ey eH
    obtain ⟨z, hd, vs, rel, dd⟩ := dk_of I.hok e
    have hz : vs.length ≤ sizeLine := by rw [← rel.length]; exact z
    have hl : (putK kvs k v).length ≤ sizeLine := by have := length_putK kvs k v; omega
    refine wpAny_setItem_pairs (hsz := hz) (kV_is ry) dd fun h' dd' hs => h _ ?_
    have he : ∃ q, h'.get? a = some q := let ⟨q, _, _, hq, _⟩ := dd'; ⟨q, hq⟩
    exact d_write I (by rw [e]; exact True.intro) hs he (dk_new hl hd (rel.put k rv) dd')
  · subst ey eH
    cases (show u = Value.ref b from ry)
    obtain ⟨z, hd, xs, rel, dd⟩ := dt_of I.hok e
    have hz : xs.length ≤ sizeLine := by rw [← Paired.length rel]; exact z
    have hl : (putK kvs k v).length ≤ sizeLine := by have := length_putK kvs k v; omega
    refine wpAny_setItem_heap (hsz := hz) (tupleKind_room_in1 hu) (key_of I.hok eb) dd fun h' dd' hs => h _ ?_
    obtain ⟨q, es, ep, hq, h2, h3, h4, _, h5⟩ := dd'
    refine d_write I (by rw [e]; exact True.intro) hs ⟨q, hq⟩ ⟨hl, hd, _, (rel.put k eb rv).keeps fun c ys ec => ?_, q, es, ep, hq, h2, h3, h4, h5⟩
    rw [upd_ne (ne_of ec e (fun z => nomatch z))]
    exact ec
end

section
variable {X : Cx} {pins : List (Addr × Obj)} {σ : St} {H : Hp} {s : Shared} {a : Addr} {kvs : List (Key × V)} {k : Key} {u : Value} {A : Around} {E : Value → Shared → Prop}
end


/-! ### readings and rules -/
/-- the element of a subscription, not a slice -/
noncomputable def NoSl (i : Expr) : Prop := ∀ ov iv, subscripted i false ov iv = operate [ov, iv] (getItem ov iv)
theorem subD_of {prog : Program} {w : World} {A : Around} {E : Value → Shared → Prop} {s : Shared} {env : Env} {value slice : Expr} {pos : Pos} {T id : String} {Q : Value → Shared → Prop}
    (hl : typeLookup (.type T) "__getitem__" = pure (some (.builtin id))) (hs : NoSl slice)
    (h : wpAny (model prog w) A (eval value env) (fun o s₁ => wpAny (model prog w) A (eval slice env) (fun i s₂ => s₂.TypeIs o T ∧ wpAny (model prog w) A (getItem o i) Q E s₂) E s₁) E s) :
    wpAny (model prog w) A (eval (.Subscript value slice pos) env) Q E s := by
  refine Subscript_ (wpAny_mono h (fun o s₁ h₁ => wpAny_mono h₁ (fun i s₂ h₂ => ?_) fun _ _ x => x) fun _ _ x => x)
  obtain ⟨hT, h₂⟩ := h₂
  unfold subscriptTail
  refine wpAny_bind ?_
  rw [getitemInPython_of_ne hT.not_modules]
  refine wpAny_bind (wpAny_specialOf hT hl ?_)
  have fin : wpAny (model prog w) A (subscripted slice false o i) (fun r s₃ => wpAny (model prog w) A (letTemporaryGo value o r >>= fun _ => pure r) Q E s₃) E s₂ := by
    rw [hs o i]
    exact wpAny_operating (wpAny_mono h₂ (fun r s₃ h₃ => wpAny_bind (wpAny_letTemporaryGo (wpAny_pure h₃))) fun _ _ x => x)
  first
    | exact wpAny_pure (wpAny_bind fin)
    | exact wpAny_bind (wpAny_pure (wpAny_bind fin))
    | exact wpAny_bind fin

theorem dict_typeIs {X : Cx} {pins : List (Addr × Obj)} {σ : St} {H : Hp} {s : Shared} {a : Addr} {y : V} {o : Option V} (I : Inv X pins σ H s) (g : DGet H a y o) : s.TypeIs (.ref a) "dict" := by
  rcases g with ⟨kvs, k, e, _, _⟩ | ⟨kvs, k, b, e, _, _, _⟩
  · obtain ⟨_, _, vs, _, dd⟩ := dk_rd I.hok e
    exact dd.typeIs
  · obtain ⟨_, _, xs, _, dd⟩ := dt_rd I.hok e
    exact dd.typeIs
/-- d[y] -/
noncomputable def tDGet (td ty : TE) : TE := fun σ H Q => td σ H fun x H1 => ty σ H1 fun y H2 => ∃ a v, x = .ref a ∧ DGet H2 a y (some v) ∧ Q v H2
noncomputable def tDNotIn (ty td : TE) : TE := fun σ H Q => ty σ H fun y H1 => td σ H1 fun x H2 => ∃ a o, x = .ref a ∧ DGet H2 a y o ∧ Q (.bl (!o.isSome)) H2
/-- d[y] = v -/
noncomputable def sDPut (td ty tv : TE) : TS := fun D σ H => tv σ H fun v H1 => td σ H1 fun x H2 => ty σ H2 fun y H3 => ∃ a H4, x = .ref a ∧ DPut H3 a y v H4 ∧ D.nx σ H4
section
variable {X : Cx} {o i e value : Expr} {pos pos' tpos : Pos} {td ty tv : TE}
theorem pe_dget (hu : X.A.units + 1 < cLine) (ho : PE X o td) (hi : PE X i ty) (hs : NoSl i) : PE X (.Subscript o i pos) (tDGet td ty) := by
  intro pins s σ H Q I h
  refine subD_of PySem.F.slot_dict_getitem.lookup hs (thn (ho pins s σ H _ I h) fun u s1 ⟨x, H1, I1, rx, q1⟩ => thn (hi pins s1 σ H1 _ I1 q1) fun iv s2 hh9 => ?_)
  obtain ⟨y, H2, I2, ry, a, v, ex, g, q2⟩ := hh9
  subst ex
  obtain rfl : u = Value.ref a := rx
  exact ⟨dict_typeIs I2 g, d_getItem hu I2 g ry fun w' s3 I3 rw' => ⟨v, H2, I3, rw', q2⟩⟩
theorem pc_dnotin (hu : X.A.units + 1 < cLine) (hi : PE X i ty) (ho : PE X o td) : PC X .NotIn i o (tDNotIn ty td) := by
  intro pins s σ H Q I h
  refine thn (hi pins s σ H _ I h) fun iv s1 ⟨y, H1, I1, ry, q1⟩ => thn (ho pins s1 σ H1 _ I1 q1) fun u s2 hh9 => ?_
  obtain ⟨x, H2, I2, rx, a, ov, ex, g, q2⟩ := hh9
  subst ex
  obtain rfl : u = Value.ref a := rx
  exact d_notIn hu I2 g ry fun s3 I3 => ⟨.bl (!ov.isSome), H2, I3, rfl, q2⟩
theorem ps_dput (hu : X.A.units + 1 < cLine) (ho : PE X o td) (hi : PE X i ty) (hv : PE X value tv) (hs : swapsWith value (some (.Subscript o i pos')) pos.line X.env = pure false) :
    PS X (.Assign [.Subscript o i pos'] value pos) (sDPut td ty tv) := by
  intro pins s σ H D I h
  refine wpAny_Assign_Subscript (thn (hv pins s σ H _ I h) fun r s1 ⟨v, H1, I1, rv, q1⟩ => thn (ho pins s1 σ H1 _ I1 q1) fun u s2 ⟨x, H2, I2, rx, q2⟩ => thn (hi pins s2 σ H2 _ I2 q2) fun iv s3 hh9 => ?_) hs
  obtain ⟨y, H3, I3, ry, a, H4, ex, g, q3⟩ := hh9
  subst ex
  obtain rfl : u = Value.ref a := rx
  exact d_setItem hu I3 g ry rv fun s4 I4 => ⟨σ, H4, I4, q3⟩
end


/-! ### displays -/
theorem dk_empty {P : Program} {w : World} {H : Hp} (h : Heap) (hb : sysModules < h.objs.size) : ObjOk P w H (h.push { cls := .type "dict", data := .dict #[] }) h.objs.size (.dK []) :=
  ⟨Nat.zero_le _, beq_eq_false_iff_ne.mpr (Ne.symm (Nat.ne_of_lt hb)), [], .nil, Heap.DictOf.new h⟩
/-- {}, to be a dict of the kind that is wanted -/
noncomputable def tDNewK : TE := fun _ H Q => ∀ p, H p = none → Q (.ref p) (upd H p (.dK []))
section
variable {X : Cx} {pos : Pos}
theorem pe_dnewK : PE X (.Dict [] [] pos) tDNewK := fun pins s σ H Q I h =>
  wpAny_Dict_empty ⟨.ref s.heap.objs.size, _, I.laid (a := s.heap.objs.size) (o := .dK []) (t' := s.toks) (fun _ _ q => Heap.get?_push_of_some _ q) (Nat.le_refl _) (dk_empty s.heap I.big), rfl, h _ (I.hok.fresh (Nat.le_refl _))⟩
end

/-! ### methods -/
section
variable {X : Cx} {pins : List (Addr × Obj)} {σ : St} {H : Hp} {s : Shared} {a : Addr} {y d : V} {u r : Value} {o : Option V} {A : Around} {E : Value → Shared → Prop}
end

section
variable {X : Cx} {o e f : Expr} {apos cpos : Pos} {td ty tx : TE}
end

/-! ### dict(d): a copy -/
section
variable {X : Cx} {pins : List (Addr × Obj)} {σ : St} {H : Hp} {s : Shared} {a : Addr} {kvs : List (Key × V)} {A : Around} {E : Value → Shared → Prop}
end


section
variable {X : Cx} {pins : List (Addr × Obj)} {σ : St} {H : Hp} {s : Shared} {a : Addr} {y : V} {u : Value} {A : Around} {E : Value → Shared → Prop}
end
end L2
namespace L2
open PySem PySem.Spec PyProof.Rows
section
variable {κ : Type} [DecidableEq κ]
theorem valV_in {kvs : List (κ × V)} {k : κ} {v : V} (h : valV kvs k = some v) : k ∈ kvs.map (·.1) := by
  have q : (kvs.any fun kv => decide (kv.1 = k)) = true := by
    rw [valV_any, h]
    all_goals rfl
  obtain ⟨p, hp, e⟩ := List.any_eq_true.mp q
  exact List.mem_map.mpr ⟨p, hp, of_decide_eq_true e⟩
end
end L2
/-! RULES OF MY OWN over the layer: isinstance, == and != of tuples and lists of flat items, > of tuples of ints, a range by steps. -/
namespace Add
open PySem PySem.Spec PyProof.Rows L2

theorem pos {j : Int} (h : 0 < j) : 0 < j := h
section
variable {K : PySem.W.Frag}
end

section
variable {X : Cx}
theorem call_isi : CallR X (.builtin "isinstance") (fun xs H Q => ∃ x t c b, xs = [x, .ty c] ∧ TyOf X.K H x t ∧ PySem.W.kitOne X.K t (.type c) = some b ∧ Q (.bl b) H) := by
  intro pins s σ H xs us Q I r h
  obtain ⟨x, t, c, b, rfl, ty, e, q⟩ := h
  obtain ⟨u, u', rfl, r1, r2⟩ := Vals.two r
  cases (show u' = Value.type c from r2)
  exact isinst_ok I r1 ty e fun tk => ⟨.bl b, H, I.tok tk, rfl, q⟩

/-- two lists of flat values, item by item -/
noncomputable def eqVs : List V → List V → Bool
  | [], [] => true
  | x :: xs, y :: ys => eqV x y && eqVs xs ys
  | _, _ => false
noncomputable def eAt (xs ys : List V) (j : Nat) : Bool := match xs[j]?, ys[j]? with
  | some x, some y => eqV x y
  | _, _ => false
theorem all_eq : ∀ (xs ys : List V), ((List.range (min xs.length ys.length)).all (eAt xs ys) && (xs.length == ys.length)) = eqVs xs ys
  | [], [] => rfl
  | [], _ :: _ => by simp [eqVs]
  | _ :: _, [] => by simp [eqVs]
  | x :: xs, y :: ys => by
    have ih := all_eq xs ys
    have e : min (x :: xs).length (y :: ys).length = min xs.length ys.length + 1 := by simp only [List.length_cons]; omega
    rw [e, List.range_succ_eq_map, List.all_cons, List.all_map]
    have f : (eAt (x :: xs) (y :: ys) ∘ Nat.succ) = eAt xs ys := by funext j; simp [eAt, Function.comp]
    have g : ((x :: xs).length == (y :: ys).length) = (xs.length == ys.length) := by simp
    rw [f, g]
    show ((eqV x y && (List.range (min xs.length ys.length)).all (eAt xs ys)) && (xs.length == ys.length)) = (eqV x y && eqVs xs ys)
    rw [← ih, Bool.and_assoc]
theorem items_eq {A : Around} {s : Shared} {xs ys : List V} {us ws : List Value} (r : Vals xs us) (r' : Vals ys ws) (fx : xs.all flatV = true) (fy : ys.all flatV = true) :
    ∀ j (h1 : j < us.toArray.size) (h2 : j < ws.toArray.size), SeqAt.EqAt A s us.toArray[j] ws.toArray[j] (eAt xs ys j) := by
  intro j h1 h2
  have g1 : j < xs.length := by rw [r.length]; simpa using h1
  have g2 : j < ys.length := by rw [r'.length]; simpa using h2
  obtain ⟨u, hu, ru⟩ := r.get (i := j) (x := xs[j]) (by simp [g1])
  obtain ⟨w, hw, rw'⟩ := r'.get (i := j) (x := ys[j]) (by simp [g2])
  have e1 : us.toArray[j] = u := by
    have : us[j]? = some us[j] := by simp
    rw [this] at hu
    simpa using Option.some.inj hu
  have e2 : ws.toArray[j] = w := by
    have : ws[j]? = some ws[j] := by simp
    rw [this] at hw
    simpa using Option.some.inj hw
  have e3 : eAt xs ys j = eqV xs[j] ys[j] := by simp [eAt, g1, g2]
  rw [e1, e2, e3]
  exact eqAt_V ru rw' (List.all_eq_true.mp fx _ (List.getElem_mem g1)) (List.all_eq_true.mp fy _ (List.getElem_mem g2))
end

/-! ### range(i, j, c), c a positive number -/
section
variable {X : Cx} {tg : Expr}
end
end Add
namespace Add
open PySem PySem.Spec PyProof.Rows L2
section
open PySem.SeqAt
open PySem.AutoSeq1 (wpAny_loadPart')
open PySem.MeetsSeq PySem.MeetsSeq2 PySem.MeetsSeq3
open HT
end
section
variable {prog : Program} {w : World} {A : Around} {E : Value → Shared → Prop} {s : Shared}
end
section
variable {X : Cx}
end
end Add

namespace Add
open PySem PySem.Spec PyProof.Rows L2

/-! ### a comprehension with one for and at most one if -/
theorem closure_go {env : Env} : ∀ (names : List (Str × NameKind)) (acc : List (Str × Addr)), (∀ x ∈ names, x.2 = .free → ∃ c, env.cells.lookup x.1 = some c) →
    (∀ x c, acc.lookup x = some c → env.cells.lookup x = some c) →
    ∃ cl, (forIn names acc fun (x : Str × NameKind) (cs : List (Str × Addr)) => if (x.2 == NameKind.free) = true then (do let a ← cellOf env x.1; pure (ForInStep.yield ((x.1, a) :: cs))) else (pure (ForInStep.yield cs) : Sem (ForInStep (List (Str × Addr))))) = pure cl ∧
      (∀ x c, cl.lookup x = some c → env.cells.lookup x = some c) ∧ (∀ x, (acc.lookup x).isSome = true → (cl.lookup x).isSome = true) ∧ ∀ x ∈ names, x.2 = .free → (cl.lookup x.1).isSome = true
  | [], acc, _, ha => ⟨acc, rfl, ha, fun _ h => h, fun _ h => absurd h (by simp)⟩
  | (n, k) :: r, acc, hf, ha => by
    have hr : ∀ x ∈ r, x.2 = .free → ∃ c, env.cells.lookup x.1 = some c := fun x hx => hf x (List.mem_cons_of_mem _ hx)
    rw [List.forIn_cons]
    cases hk : (k == NameKind.free) with
    | false =>
      obtain ⟨cl, e, c1, c2, c3⟩ := closure_go r acc hr ha
      refine ⟨cl, ?_, c1, c2, fun x hx hx2 => ?_⟩
      · simp only [hk, Bool.false_eq_true, if_false]
        exact e
      · rcases List.mem_cons.mp hx with z | z
        · subst z
          have z2 : k = .free := hx2
          subst z2
          exact absurd hk (by decide)
        · exact c3 x z hx2
    | true =>
      have hk' : k = .free := by simpa using hk
      obtain ⟨c, hc⟩ := hf (n, k) List.mem_cons_self hk'
      have ha' : ∀ x d, ((n, c) :: acc).lookup x = some d → env.cells.lookup x = some d := fun x d e => by
        rw [List.lookup_cons] at e
        cases q : x == n with
        | true =>
          rw [q] at e
          have q' : x = n := by simpa using q
          subst q'
          rw [hc]; exact e
        | false => rw [q] at e; exact ha x d e
      obtain ⟨cl, e, c1, c2, c3⟩ := closure_go r ((n, c) :: acc) hr ha'
      have there : ((((n, c) :: acc).lookup n).isSome) = true := by simp
      refine ⟨cl, ?_, c1, fun x hx => c2 x ?_, fun x hx hx2 => ?_⟩
      · have hcell : cellOf env n = pure c := by unfold cellOf; rw [hc]
        simp only [hk, if_true, hcell]
        exact e
      · rw [List.lookup_cons]
        cases q : x == n with
        | true => rfl
        | false => exact hx
      · rcases List.mem_cons.mp hx with z | z
        · subst z; exact c2 n there
        · exact c3 x z hx2
theorem closure_ok {env : Env} {scope : Scope} (hf : ∀ x ∈ scope.names, x.2 = .free → ∃ c, env.cells.lookup x.1 = some c) :
    ∃ cl, closureFor scope env = pure cl ∧ (∀ x c, cl.lookup x = some c → env.cells.lookup x = some c) ∧ ∀ x ∈ scope.names, x.2 = .free → (cl.lookup x.1).isSome = true := by
  obtain ⟨cl, e, c1, _, c3⟩ := closure_go scope.names [] hf (fun x c h => absurd h (by simp))
  refine ⟨cl, ?_, c1, c3⟩
  unfold closureFor
  exact (congrArg (fun z => z >>= fun cs => (pure cs : Sem (List (Str × Addr)))) e).trans rfl

/-- what must be so of the names of a comprehension's block: N its names, js where those from around stand in the def's own -/
noncomputable def compOk (N : List Str) (js : List (Option Nat)) (XN : List Str) (xs scope : Scope) : Bool :=
  (scope.kind == .function) && (scope.names.all fun x => x.2 != .cell) && (scope.names.all fun x => x.2 != .local || (scope.names.lookup x.1 == some .local)) &&
  (scope.names.all fun x => x.2 != .free || (xs.names.lookup x.1 == some .cell || xs.names.lookup x.1 == some .free)) && (N.length == js.length) &&
  ((N.zip js).all fun p => match p.2 with | none => true | some j => (XN[j]? == some p.1) && (xs.names.lookup p.1 == some .cell || xs.names.lookup p.1 == some .free) && (scope.names.any fun x => x.1 == p.1 && x.2 == .free) && (scope.names.lookup p.1 == some .free))

structure CompNm (N : List Str) (js : List (Option Nat)) (XN : List Str) (xs scope : Scope) : Prop where
  kind : scope.kind = .function
  nocell : ∀ x ∈ scope.names, x.2 ≠ .cell
  names : ∀ x ∈ scope.names, x.2 = .local → scope.names.lookup x.1 = some .local
  clos : ∀ x ∈ scope.names, x.2 = .free → (xs.names.lookup x.1 = some .cell ∨ xs.names.lookup x.1 = some .free)
  len : N.length = js.length
  free : ∀ (i j : Nat) (x : Str), N[i]? = some x → js[i]? = some (some j) → XN[j]? = some x ∧ (xs.names.lookup x = some .cell ∨ xs.names.lookup x = some .free) ∧ (x, NameKind.free) ∈ scope.names ∧ scope.names.lookup x = some .free
theorem compOk_nm {N : List Str} {js : List (Option Nat)} {XN : List Str} {xs scope : Scope} (h : compOk N js XN xs scope = true) : CompNm N js XN xs scope := by
  unfold compOk at h
  simp only [Bool.and_eq_true, List.all_eq_true, beq_iff_eq, Bool.or_eq_true, bne_iff_ne, ne_eq] at h
  obtain ⟨⟨⟨⟨⟨h1, h2⟩, h3⟩, h4⟩, h5⟩, h6⟩ := h
  refine ⟨h1, fun x hx => h2 x hx, fun x hx e => ?_, fun x hx e => ?_, h5, fun i j x e1 e2 => ?_⟩
  · rcases h3 x hx with z | z
    · exact absurd e z
    · exact z
  · rcases h4 x hx with z | z
    · exact absurd e z
    · exact z
  · have hz : (N.zip js)[i]? = some (x, some j) := by rw [List.getElem?_zip_eq_some]; exact ⟨e1, e2⟩
    have := h6 _ (List.mem_of_getElem? hz)
    simp only [Bool.and_eq_true, beq_iff_eq, Bool.or_eq_true, List.any_eq_true] at this
    obtain ⟨⟨⟨a1, a2⟩, y, hy, b1, b2⟩, a4⟩ := this
    refine ⟨a1, a2, ?_, a4⟩
    obtain ⟨y1, y2⟩ := y
    have b1' : y1 = x := b1
    have b2' : y2 = .free := b2
    subst b1' b2'
    exact hy

theorem lookup_free {env : Env} {scope : Scope} {x : Str} (h : scope.names.lookup x = some .free) : (relabel scope env).names.lookup x = some .cell ∨ (relabel scope env).names.lookup x = some .free := by
  have gen : ∀ (l : List (Str × NameKind)), l.lookup x = some .free → ((l.map fun (n, k) => if (k == NameKind.free && env.scope.kind == .function && env.kindOf n == some .cell) then (n, NameKind.cell) else (n, k)).lookup x = some .cell ∨ (l.map fun (n, k) => if (k == NameKind.free && env.scope.kind == .function && env.kindOf n == some .cell) then (n, NameKind.cell) else (n, k)).lookup x = some .free) := by
    intro l
    induction l with
    | nil => intro h; simp at h
    | cons y r ih =>
      obtain ⟨n, k⟩ := y
      intro h
      rw [List.lookup_cons] at h
      rw [List.map_cons]
      cases q : x == n with
      | false =>
        rw [q] at h
        have := ih h
        by_cases hc : (k == NameKind.free && env.scope.kind == .function && env.kindOf n == some .cell) = true
        · simpa [hc, List.lookup_cons, q] using this
        · simpa [hc, List.lookup_cons, q] using this
      | true =>
        rw [q] at h
        have h' : k = .free := Option.some.inj h
        subst h'
        by_cases hc : (NameKind.free == NameKind.free && env.scope.kind == .function && env.kindOf n == some .cell) = true
        · exact .inl (by show List.lookup x ((if (NameKind.free == NameKind.free && env.scope.kind == .function && env.kindOf n == some .cell) = true then (n, NameKind.cell) else (n, NameKind.free)) :: _) = _; rw [if_pos hc, List.lookup_cons, q])
        · exact .inr (by show List.lookup x ((if (NameKind.free == NameKind.free && env.scope.kind == .function && env.kindOf n == some .cell) = true then (n, NameKind.cell) else (n, NameKind.free)) :: _) = _; rw [if_neg hc, List.lookup_cons, q])
  exact gen scope.names h

noncomputable def cxComp (X : Cx) (N : List Str) (scope : Scope) (cl : List (Str × Addr)) (C : Addr) (s : Shared) (H : Hp) (fp : List Addr) (E : Value → Shared → Prop) : Cx :=
  { X with N := N, s₀ := s, H₀ := H, env := compEnvC scope cl C X.env, outer := X.stack, ex := fp, fn := fun _ => false, pn := [], xe := E }
/-- the block's names at its entry -/
noncomputable def compSt (js : List (Option Nat)) (σ : L2.St) : L2.St := js.map fun j => j.bind fun k => (σ[k]?).join

section
variable {prog : Program} {w : World} {A : Around} {R : Result → Shared → Prop} {s : Shared}
theorem compLoop_G {elt target iter : Expr} {ifs : List Expr} {scope : Scope} {pos : Pos} {it acc : Value} {env : Env} (I : Nat → Shared → Prop)
    (turn : ∀ n s, I n s → wpAny (model prog w) A (pyNext it) (fun r s₁ => match r with
      | none => R (.ok .next) s₁
      | some v => wpAny (model prog w) A (letOwnedTupleGo target it v) (fun _ s₁' => wpAny (model prog w) A (assign target env v) (fun _ s₂ =>
          wpAny (model prog w) A (forIn ifs true fun c r => if r = true then do let ok ← isTrue c env (eval c env); pure (ForInStep.yield ok) else pure (ForInStep.yield r)) (fun ok s₃ =>
            if ok = true then wpAny (model prog w) A (eval elt env) (fun x s₄ =>
              wpAny (model prog w) A (call (.builtin "list.append") [acc, x]) (fun _ s₅ => ∃ m, m < n ∧ I m s₅) (notedBy (model prog w) A env fun e s' => R (.error e) s') s₄) (notedBy (model prog w) A env fun e s' => R (.error e) s') s₃
            else ∃ m, m < n ∧ I m s₃) (notedBy (model prog w) A env fun e s' => R (.error e) s') s₂) (notedBy (model prog w) A env fun e s' => R (.error e) s') s₁')
          (notedBy (model prog w) A env fun e s' => R (.error e) s') s₁) (notedBy (model prog w) A env fun e s' => R (.error e) s') s)
    (n : Nat) (h : I n s) : codeAny (model prog w) A (.compLoop (.ListComp elt [⟨target, iter, ifs, 0⟩] scope pos) 0 it acc env) R s := by
  refine codeAny_loop rfl I (fun n s hI => ?_) n h
  show wpAny _ A ((compTurn (.ListComp elt [⟨target, iter, ifs, 0⟩] scope pos) 0 it acc env).onRaise (fun x => do noteFrame x env; theTreesLotGoes x)) _ _ s
  refine wpAny_noted ?_
  rw [compTurn_list]
  refine wpAny_bind (wpAny_standAt (wpAny_bind (wpAny_mono (turn n s hI) (fun r s₁ h₁ => ?_) fun _ _ h' => h')))
  cases r with
  | none => exact wpAny_pure h₁
  | some v =>
    refine wpAny_bind (wpAny_mono h₁ (fun _ s₁' h₁' => ?_) fun _ _ h' => h')
    refine wpAny_bind (wpAny_mono h₁' (fun _ s₂ h₂ => wpAny_bind (wpAny_mono h₂ (fun ok s₃ h₃ => ?_) fun _ _ h' => h')) fun _ _ h' => h')
    cases ok with
    | false => exact wpAny_pure ⟨rfl, h₃⟩
    | true =>
      exact wpAny_bind (wpAny_bind (wpAny_mono h₃ (fun x s₄ h₄ => wpAny_bind (wpAny_mono h₄ (fun _ s₅ h₅ => wpAny_pure (wpAny_pure ⟨rfl, h₅⟩)) fun _ _ h' => h')) fun _ _ h' => h'))
end

/-- the block's tests: none, or one -/
noncomputable def PTs (X : Cx) (ifs : List Expr) (t : TT) : Prop :=
  ∀ (pins : List (Addr × Obj)) (s : Shared) (σ : L2.St) (H : Hp) (Q : Bool → Hp → Prop), Inv X pins σ H s → t σ H Q →
    wpAny (model X.prog X.w) X.A (forIn ifs true fun c r => if r = true then do let ok ← isTrue c X.env (eval c X.env); pure (ForInStep.yield ok) else pure (ForInStep.yield r)) (TP X pins σ Q) X.xe s
noncomputable def tNoIf : TT := fun _ H Q => Q true H
theorem pts_nil {X : Cx} : PTs X [] tNoIf := fun _ _ _ H _ I h => wpAny_tests_nil ⟨H, I, h⟩
theorem pts_one {X : Cx} {c : Expr} {t : TT} (hc : PT X c t) : PTs X [c] t := fun pins s σ H Q I h => wpAny_tests_one (hc pins s σ H Q I h)

noncomputable def tCompR (js : List (Option Nat)) (g : TG) (tc : TT) (te : TE) (σ : L2.St) (Q : VK) (J : It) (H1 : Hp) : Prop := ∀ p, H1 p = none →
  ∃ W : Nat → Nat → L2.St → Hp → Prop, (∃ m, W 0 m (compSt js σ) (upd H1 p (.lst []))) ∧ ∀ i m σ' H', W i m σ' H' →
    (J.stop i H' ∧ Q (.ref p) H') ∨ (J.go i H' ∧ ∃ N : L2.St → Hp → Prop, (∀ σ2 H2, N σ2 H2 → ∃ m', m' < m ∧ W (i + 1) m' σ2 H2) ∧
      ∀ x H2, J.yld i H' x H2 → g x σ' H2 fun σ3 H3 => tc σ3 H3 fun k H4 => if k = true then te σ3 H4 fun v H5 => ∃ xs, H5 p = some (.lst xs) ∧ xs.length < sizeLine ∧ N σ3 (upd H5 p (.lst (xs ++ [v]))) else N σ3 H4)
noncomputable def tComp (js : List (Option Nat)) (wi : TI) (g : TG) (tc : TT) (te : TE) : TE := fun σ H Q => wi σ H (tCompR js g tc te σ Q)

section
variable {X : Cx} {N XN : List Str} {js : List (Option Nat)} {xs scope : Scope} {elt target iter : Expr} {ifs : List Expr} {pos : Pos} {g : TG} {tc : TT} {te : TE}
theorem comp_block {pins : List (Addr × Obj)} {σ : L2.St} {H2 : Hp} {s2 : Shared} {it : Addr} {fp : List Addr} {tn : Nat → Heap → Prop} {J : It} {cl : List (Str × Addr)} {Q : V → Hp → Prop} {RR : Value → Addr → Result → Shared → Prop} {E : Value → Shared → Prop}
    (hc : X.calm = true) (hN : X.N = XN) (hS : X.env.scope = xs) (nm : CompNm N js XN xs scope) (hcl1 : ∀ x c, cl.lookup x = some c → X.env.cells.lookup x = some c) (hcl2 : ∀ x ∈ scope.names, x.2 = .free → (cl.lookup x.1).isSome = true)
    (hg : ∀ (cl : List (Str × Addr)) (C : Addr) (s : Shared) (H : Hp) (fp : List Addr) (E : Value → Shared → Prop), PG (cxComp X N scope cl C s H fp E) target g)
    (ht : ∀ (cl : List (Str × Addr)) (C : Addr) (s : Shared) (H : Hp) (fp : List Addr) (E : Value → Shared → Prop), PTs (cxComp X N scope cl C s H fp E) ifs tc)
    (he : ∀ (cl : List (Str × Addr)) (C : Addr) (s : Shared) (H : Hp) (fp : List Addr) (E : Value → Shared → Prop), PE (cxComp X N scope cl C s H fp E) elt te)
    (I2 : Inv X pins σ H2 s2) (T : Turn X.prog X.w X.K target J fp it tn) (st2 : tn 0 s2.heap) (f2 : ∀ b ∈ fp, FpOk X pins H2 b)
    (hW : tCompR js g tc te σ Q J H2)
    (fin : ∀ (p C : Addr) (H' : Hp) (s' : Shared) (m : Str → Option Value), Inv X pins σ H' s' → s'.heap.Ns C m → s2.heap.objs.size ≤ C → H' C = none → Q (.ref p) H' → RR (.ref p) C (.ok .next) s') :
    wpAny (model X.prog X.w) X.A (newList []) (fun acc s₃ => wpAny (model X.prog X.w) X.A (newFunctionEnv scope X.env.globals cl [] X.env.qual none .none (some X.env)) (fun cenv s₄ =>
      codeAny (model X.prog X.w) X.A (.compStart (.ListComp elt [⟨target, iter, ifs, 0⟩] scope pos) 0 (.ref it) acc { cenv with scope := relabel scope X.env }) (RR acc cenv.locals) s₄) E s₃) E s2 := by
  refine wpAny_newObj_type (wpAny_newFunctionEnv nm.nocell (by intro y hy; simp at hy) (fun h₁ hns₁ hsb₁ => ?_) nm.kind)
  obtain ⟨W, ⟨m0, w0⟩, turn⟩ := hW s2.heap.objs.size I2.fresh
  have I3 : Inv X pins σ (upd H2 s2.heap.objs.size (.lst [])) { s2 with heap := s2.heap.push { cls := .type "list", data := .seq ([] : List Value).toArray } } := I2.lnew (ys := []) (its := []) (t' := s2.toks) .nil (Nat.zero_le _)
  generalize hs3 : ({ s2 with heap := s2.heap.push { cls := .type "list", data := .seq ([] : List Value).toArray } } : Shared) = s3 at I3 hns₁ hsb₁ ⊢
  have hh3 : s3.heap = s2.heap.push { cls := .type "list", data := .seq ([] : List Value).toArray } := by rw [← hs3]
  have z3 : s3.heap.objs.size = s2.heap.objs.size + 1 := by rw [hh3, Heap.size_push]
  generalize hP : s2.heap.objs.size = P at w0 turn I3 z3 ⊢
  have hH3 : ∀ b ∈ fp, upd H2 P (.lst []) b = none := fun b hb => by
    have nb : b ≠ P := by
      obtain ⟨o, eo, _⟩ := T.obj 0 s2.heap st2 b hb
      have := Heap.lt_size eo
      rw [hP] at this
      exact Nat.ne_of_lt this
    rw [upd_ne nb]
    exact (f2 b hb).1
  generalize hH : upd H2 P (.lst []) = H3 at w0 I3 hH3
  have f3 : ∀ b ∈ fp, b ≠ X.env.locals ∧ b ∉ X.fs ∧ (b ∈ X.ex ∨ X.s₀.heap.objs.size ≤ b) ∧ (∀ x c, X.env.cells.lookup x = some c → c ≠ b) ∧ ∀ p ∈ X.pn ++ pins, p.1 ≠ b := fun b hb => (f2 b hb).2
  have fpl : ∀ b ∈ fp, b < s3.heap.objs.size := fun b hb => by
    obtain ⟨o, eo, _⟩ := T.obj 0 s2.heap st2 b hb
    have hl := Heap.lt_size eo
    exact Nat.lt_of_lt_of_le hl (by rw [z3, hP]; exact Nat.le_succ _)
  have st3 : tn 0 s3.heap := T.keep 0 _ _ st2 fun b _ o e => by rw [hh3]; exact Heap.get?_push_of_some _ e
  generalize hC : s3.heap.objs.size = C at hns₁ hsb₁ z3 fpl ⊢
  have old : ∀ b o, s3.heap.get? b = some o → h₁.get? b = some o := fun b o e => hsb₁.extBut b o (by have hl := Heap.lt_size e; rw [hC] at hl; exact Nat.ne_of_lt hl) (Heap.get?_push_of_some _ e)
  have stk : ∀ b ∈ fp, b ∉ frs X.stack := fun b hb z => by
    rcases List.mem_cons.mp (I3.stkSub b z) with q | q
    · exact (f3 b hb).1 q
    · exact (f3 b hb).2.1 q
  have ok : ∀ E', (cxComp X N scope cl C s3 H3 fp E').Ok := fun E' => {
    mod := I3.ok.mod
    kind := nm.kind
    glob := I3.ok.glob
    blt := I3.ok.blt
    above := Nat.le_of_eq hC
    inj := fun x y c h1 h2 => I3.ok.inj x y c (hcl1 x c h1) (hcl1 y c h2)
    has := fun x hx => by
      have key : (x, NameKind.free) ∈ scope.names := by
        have hl : (relabel scope X.env).names.lookup x = some .cell ∨ (relabel scope X.env).names.lookup x = some .free := hx
        have gen : ∀ (l : List (Str × NameKind)), (∀ y ∈ l, y.2 ≠ .cell) → ((l.map fun (n, k) => if (k == NameKind.free && X.env.scope.kind == .function && X.env.kindOf n == some .cell) then (n, NameKind.cell) else (n, k)).lookup x = some .cell ∨ (l.map fun (n, k) => if (k == NameKind.free && X.env.scope.kind == .function && X.env.kindOf n == some .cell) then (n, NameKind.cell) else (n, k)).lookup x = some .free) → (x, NameKind.free) ∈ l := by
          intro l
          induction l with
          | nil => intro _ h; rcases h with h | h <;> simp at h
          | cons y r ih =>
            obtain ⟨n, k⟩ := y
            intro hn h
            have hr := ih (fun y hy => hn y (List.mem_cons_of_mem _ hy))
            have hk : k ≠ .cell := hn (n, k) List.mem_cons_self
            rw [List.map_cons] at h
            cases q : x == n with
            | false =>
              refine List.mem_cons_of_mem _ (hr ?_)
              by_cases hc : (k == NameKind.free && X.env.scope.kind == .function && X.env.kindOf n == some .cell) = true
              · simpa [hc, List.lookup_cons, q] using h
              · simpa [hc, List.lookup_cons, q] using h
            | true =>
              have q' : x = n := by simpa using q
              subst q'
              by_cases hc : (k == NameKind.free && X.env.scope.kind == .function && X.env.kindOf x == some .cell) = true
              · have : k = .free := by
                  simp only [Bool.and_eq_true, beq_iff_eq] at hc
                  exact hc.1.1
                subst this
                exact List.mem_cons_self
              · have h' : k = .cell ∨ k = .free := by simpa [hc, List.lookup_cons] using h
                rcases h' with z | z
                · exact absurd z hk
                · subst z; exact List.mem_cons_self
        exact gen scope.names nm.nocell hl
      exact Option.isSome_iff_exists.mp (hcl2 _ key rfl)
    cab := fun _ _ h _ => nomatch h
    hd := I3.ok.hd
    frames := I3.ok.frames
    stk := .inl rfl
    exf := fun b hb => ⟨Nat.ne_of_lt (fpl b hb), fun x c e => (f3 b hb).2.2.2.1 x c (hcl1 x c e)⟩
    bs := I3.bs
    bsz := Nat.le_trans I3.ok.bsz I3.sz
    noex := fun b o e hb => by
      rcases (f3 b hb).2.2.1 with z | z
      · exact I3.ok.noex b o e z
      · have h1 := Heap.lt_size e
        have h2 := I3.ok.bsz
        exact absurd (Nat.lt_of_lt_of_le h1 (Nat.le_trans h2 z)) (Nat.lt_irrefl _)
    exfs := stk
    funs := I3.stack
    frf := I3.stkFree }
  have start : ∀ E', Inv (cxComp X N scope cl C s3 H3 fp E') [] (compSt js σ) H3 { s3 with heap := h₁, toks := s3.toks + ([] : List (Str × Value)).length } := fun E' => {
    ok := ok E'
    os := rfl
    bare := I3.bare
    base := Un.kept old
    loc := by
      refine ⟨_, hns₁, fun i x v e1 e2 e3 => ?_⟩
      have e2' : ((js[i]?).map fun j => j.bind fun k => (σ[k]?).join) = some (some v) := by
        have := e2
        unfold compSt at this
        rwa [List.getElem?_map] at this
      cases hj : js[i]? with
      | none => rw [hj] at e2'; cases e2'
      | some jo =>
        rw [hj] at e2'
        cases jo with
        | none => cases e2'
        | some j =>
          have e2'' : (σ[j]?).join = some v := Option.some.inj e2'
          have e4 : σ[j]? = some (some v) := by
            cases q : σ[j]? with
            | none => rw [q] at e2''; cases e2''
            | some o => rw [q] at e2''; cases o with
              | none => cases e2''
              | some y => cases e2''; rfl
          obtain ⟨a1, a2, a3, a4⟩ := nm.free i j x e1 hj
          obtain ⟨mX, hnX, lX⟩ := I3.loc
          have vis : Vis X.env.scope x := by rw [hS]; exact .inr a2
          obtain ⟨u, ru, lu⟩ := lX j x v (by rw [hN]; exact a1) e4 vis
          refine ⟨u, ru, ?_⟩
          rcases lu with ⟨k1, _⟩ | ⟨k1, c, e5, z⟩
          · exfalso
            have k1' : X.env.scope.names.lookup x = some .local := k1
            rw [hS] at k1'
            rcases a2 with q | q <;> rw [q] at k1' <;> cases k1'
          · obtain ⟨c', e6⟩ := Option.isSome_iff_exists.mp (hcl2 _ a3 rfl)
            have e7 := hcl1 x c' e6
            rw [e5] at e7
            cases e7
            refine .inr ⟨?_, c, e6, ?_⟩
            · rcases e3 with q | q | q
              · exfalso
                have := lookup_free (env := X.env) a4
                rcases this with t | t <;> (have q' : (relabel scope X.env).names.lookup x = some .local := q; rw [t] at q'; cases q')
              · exact .inl q
              · exact .inr q
            · obtain ⟨o, ho, hd⟩ := z
              exact ⟨o, old c o ho, hd⟩
    cell := fun x c e => by
      obtain ⟨v, o, ho, hd⟩ := I3.cell x c (hcl1 x c e)
      exact ⟨v, o, old c o ho, hd⟩
    free := I3.hok.fresh (Nat.le_of_eq hC)
    freeC := fun x c e => I3.freeC x c (hcl1 x c e)
    pin := fun p hp => absurd (show p ∈ ([] : List (Addr × Obj)) from hp) (by simp)
    hok := I3.hok.kept old
    len := by unfold compSt; rw [List.length_map]; exact nm.len.symm }
  have done : ∀ {E' : Value → Shared → Prop} {σ' : L2.St} {H' : Hp} {s' : Shared}, Inv (cxComp X N scope cl C s3 H3 fp E') [] σ' H' s' → Q (.ref P) H' → RR (.ref P) C (.ok .next) s' := fun {E' σ' H' s'} J' q => by
    obtain ⟨m', hn', _⟩ := J'.loc
    refine fin P C H' s' m' (I3.call' (ch := fp) J'.os J'.base J'.hok J'.bare fun b hb => ⟨(f3 b hb).2.2.1, (f3 b hb).1, (f3 b hb).2.2.2.1, (f3 b hb).2.2.2.2⟩) hn' (by rw [z3, hP]; exact Nat.le_succ _) J'.free q
  have loop : ∀ s₄ : Shared, s₄ = { s3 with heap := h₁, toks := s3.toks + ([] : List (Str × Value)).length } →
      codeAny (model X.prog X.w) X.A (.compLoop (.ListComp elt [⟨target, iter, ifs, 0⟩] scope pos) 0 (.ref it) (.ref P) (compEnvC scope cl C X.env)) (RR (.ref P) C) s₄ := by
    rintro s₄ rfl
    generalize hNB : notedBy (model X.prog X.w) X.A (compEnvC scope cl C X.env) (fun e s' => RR (.ref P) C (.error e) s') = NB
    have stat : ∀ {H' : Hp}, (∀ b ∈ fp, H' b = none) → ∀ b ∈ fp, FpOk (cxComp X N scope cl C s3 H3 fp NB) [] H' b := fun hn b hb =>
      ⟨hn b hb, Nat.ne_of_lt (fpl b hb), stk b hb, .inl hb, fun x c e => (f3 b hb).2.2.2.1 x c (hcl1 x c e), fun p hp => absurd (show p ∈ ([] : List (Addr × Obj)) from hp) (by simp)⟩
    refine compLoop_G (fun n s' => ∃ i σ' H', Inv (cxComp X N scope cl C s3 H3 fp NB) [] σ' H' s' ∧ tn i s'.heap ∧ (∀ b ∈ fp, H' b = none) ∧ W i n σ' H') ?_ m0 ⟨0, compSt js σ, H3, start NB, T.keep 0 _ _ st3 fun b _ o e => old b o e, hH3, w0⟩
    rw [hNB]
    rintro n s5 ⟨i, σ5, H5, I5, st5, fr5, w5⟩
    rcases turn i n σ5 H5 w5 with ⟨stop, qn⟩ | ⟨go, Nx, hNx, step⟩
    · refine thn (T.done (cxComp X N scope cl C s3 H3 fp NB) rfl rfl rfl hc i [] s5 σ5 H5 NB I5 (stat fr5) st5 stop) fun r s6 ⟨hr, I6⟩ => ?_
      subst hr
      exact done I6 qn
    · refine thn (T.item (cxComp X N scope cl C s3 H3 fp NB) rfl rfl rfl hc i [] s5 σ5 H5 NB I5 (stat fr5) st5 go) fun r s6 ⟨u, hr, h6⟩ => ?_
      subst hr
      refine thn h6 fun _ s7 ⟨x, H7, I7, r7, y7, st7, fr7⟩ => ?_
      have I7' := I7.pinned (stat fr7) (T.obj _ _ st7)
      have again : ∀ {σ8 : L2.St} {H8 : Hp} {s8 : Shared}, Inv (cxComp X N scope cl C s3 H3 fp NB) ([] ++ pinsAt fp s7.heap) σ8 H8 s8 → Nx σ8 H8 → ∃ m, m < n ∧ ∃ i σ' H', Inv (cxComp X N scope cl C s3 H3 fp NB) [] σ' H' s8 ∧ tn i s8.heap ∧ (∀ b ∈ fp, H' b = none) ∧ W i m σ' H' := fun {σ8 H8 s8} I8 n8 => by
        obtain ⟨m', hm, w8⟩ := hNx σ8 H8 n8
        refine ⟨m', hm, i + 1, σ8, H8, I8.unpinned, T.keep _ _ _ st7 fun b hb o e => (I8.pin (b, o) (List.mem_append_right _ (List.mem_append_right _ (mem_pinsAt hb e)))).1, fun b hb => ?_, w8⟩
        obtain ⟨o, e, d⟩ := T.obj _ _ st7 b hb
        exact (I8.pin (b, o) (List.mem_append_right _ (List.mem_append_right _ (mem_pinsAt hb e)))).2.1
      refine thn (hg cl C s3 H3 fp NB _ s7 σ5 H7 x u _ I7' r7 (step x H7 y7)) fun _ s8 ⟨σ8, H8, I8, q8⟩ => ?_
      refine thn (ht cl C s3 H3 fp NB _ s8 σ8 H8 _ I8 q8) fun k s9 ⟨H9, I9, q9⟩ => ?_
      cases k with
      | false =>
        rw [if_neg (by decide)] at q9 ⊢
        exact again I9 q9
      | true =>
        rw [if_pos rfl] at q9 ⊢
        refine thn (he cl C s3 H3 fp NB _ s9 σ8 H9 _ I9 q9) fun uv s10 ⟨v, H10, I10, r10, xs', hx1, hx2, q10⟩ => ?_
        refine thn (mt_append (X := cxComp X N scope cl C s3 H3 fp NB) _ s10 σ8 H10 (.ref P) [v] (.ref P) [uv] (fun _ H11 => Nx σ8 H11) I10 rfl (.cons r10 .nil) ⟨P, xs', v, rfl, rfl, hx1, hx2, q10⟩) fun _ s11 ⟨_, H11, I11, _, q11⟩ => ?_
        exact again I11 q11
  exact codeAny_compStart_list (loop _ rfl) (T.self _ 0 _ _ _ (T.keep 0 _ _ st3 fun b _ o e => old b o e) (loop _ rfl))
end
section
variable {X : Cx} {N XN : List Str} {js : List (Option Nat)} {xs scope : Scope} {elt target iter : Expr} {ifs : List Expr} {pos : Pos} {wi : TI} {g : TG} {tc : TT} {te : TE}
theorem comp_turned {pins : List (Addr × Obj)} {σ σ' : L2.St} {H H' : Hp} {s s' : Shared} {C : Addr} {h' : Heap} (I2 : Inv X pins σ H s) (J : Inv X pins σ' H' s') (hC : s.heap.objs.size ≤ C) (hn : H' C = none) (sb : Heap.SameBut C s'.heap h') : Inv X pins σ' H' { s' with heap := h' } :=
  J.turned (t' := s'.toks) (it := C) (fun b o hb e => sb.extBut b o hb e) hn (Nat.ne_of_gt (Nat.lt_of_lt_of_le I2.lt hC)) (.inr (Nat.le_trans I2.sz hC))
    (fun x c e => by
      obtain ⟨v, q⟩ := I2.cell x c e
      exact Nat.ne_of_lt (Nat.lt_of_lt_of_le q.lt hC)) fun p hp => Nat.ne_of_lt (Nat.lt_of_lt_of_le (Heap.lt_size (I2.pin p hp).1) hC)
theorem pe_comp (hc : X.calm = true) (hN : X.N = XN) (hS : X.env.scope = xs) (hok : compOk N js XN xs scope = true) (hi : PI X target iter wi)
    (hg : ∀ (cl : List (Str × Addr)) (C : Addr) (s : Shared) (H : Hp) (fp : List Addr) (E : Value → Shared → Prop), PG (cxComp X N scope cl C s H fp E) target g)
    (ht : ∀ (cl : List (Str × Addr)) (C : Addr) (s : Shared) (H : Hp) (fp : List Addr) (E : Value → Shared → Prop), PTs (cxComp X N scope cl C s H fp E) ifs tc)
    (he : ∀ (cl : List (Str × Addr)) (C : Addr) (s : Shared) (H : Hp) (fp : List Addr) (E : Value → Shared → Prop), PE (cxComp X N scope cl C s H fp E) elt te)
    (hs : ∀ x, foldedSetIterable iter X.env x = pure x := by intro _; rfl) : PE X (.ListComp elt [⟨target, iter, ifs, 0⟩] scope pos) (tComp js wi g tc te) := by
  intro pins s σ H Q I h
  have nm := compOk_nm hok
  obtain ⟨cl, hcl, c1, c2⟩ := closure_ok (env := X.env) (scope := scope) fun x hx e => I.ok.has x.1 (by
    rcases nm.clos x hx e with q | q
    · exact .inl (by show X.env.scope.names.lookup _ = _; rw [hS]; exact q)
    · exact .inr (by show X.env.scope.names.lookup _ = _; rw [hS]; exact q))
  rw [eval_ListComp]
  refine wpAny_comprehension_free (use := none) rfl hs hcl nm.kind nm.names (thn (hi pins s σ H _ I h) fun v s1 h1 => thn h1 fun itv s2 h2 => ?_)
  obtain ⟨it, fp, tn, J, H2, e, I2, T, st2, f2, hW⟩ := h2
  subst e
  refine comp_block (RR := fun acc C => compPost (model X.prog X.w) X.A X.xe none (EP X pins σ Q) acc C) hc hN hS nm c1 c2 hg ht he I2 T st2 f2 hW fun p C H' s' m J' hn hC hCf q => ?_
  exact ⟨m, hn, fun h' hs' => ⟨.ref p, H', comp_turned I2 J' hC hCf hs', rfl, q⟩⟩
/-- x = [..]: the model stores before it lets the block's names go -/
theorem ps_setComp {i : Nat} {x : Str} {px spos : Pos} (hNd : X.N.Nodup) (hix : X.N[i]? = some x) (hloc : X.env.scope.names.lookup x = some .local) (hc : X.calm = true) (hN : X.N = XN) (hS : X.env.scope = xs) (hok : compOk N js XN xs scope = true) (hi : PI X target iter wi)
    (hg : ∀ (cl : List (Str × Addr)) (C : Addr) (s : Shared) (H : Hp) (fp : List Addr) (E : Value → Shared → Prop), PG (cxComp X N scope cl C s H fp E) target g)
    (ht : ∀ (cl : List (Str × Addr)) (C : Addr) (s : Shared) (H : Hp) (fp : List Addr) (E : Value → Shared → Prop), PTs (cxComp X N scope cl C s H fp E) ifs tc)
    (he : ∀ (cl : List (Str × Addr)) (C : Addr) (s : Shared) (H : Hp) (fp : List Addr) (E : Value → Shared → Prop), PE (cxComp X N scope cl C s H fp E) elt te)
    (hsw : swapsWith (.ListComp elt [⟨target, iter, ifs, 0⟩] scope pos) (some (.Name x px)) spos.line X.env = pure true := by rfl)
    (hs : ∀ x, foldedSetIterable iter X.env x = pure x := by intro _; rfl) : PS X (.Assign [.Name x px] (.ListComp elt [⟨target, iter, ifs, 0⟩] scope pos) spos) (tAsg (tComp js wi g tc te) (gName i)) := by
  intro pins s σ H D I h
  have nm := compOk_nm hok
  obtain ⟨cl, hcl, c1, c2⟩ := closure_ok (env := X.env) (scope := scope) fun x hx e => I.ok.has x.1 (by
    rcases nm.clos x hx e with q | q
    · exact .inl (by show X.env.scope.names.lookup _ = _; rw [hS]; exact q)
    · exact .inr (by show X.env.scope.names.lookup _ = _; rw [hS]; exact q))
  rw [exec_Assign_Name_used _ _ _ _ hsw]
  refine wpAny_bind (wpAny_standAt (wpAny_bind ?_))
  show wpAny _ X.A (do let _ ← comprehension (.ListComp elt [⟨target, iter, ifs, 0⟩] scope pos) scope X.env _ (newList []) false (eval iter X.env) (some (assign (.Name x px) X.env))) _ _ s
  refine wpAny_bind (wpAny_mono (wpAny_comprehension_free (use := some (assign (.Name x px) X.env)) (Q := fun _ s' => SP X pins D .next s') rfl hs hcl nm.kind nm.names
    (thn (hi pins s σ H _ I h) fun v s1 h1 => thn h1 fun itv s2 h2 => ?_)) (fun _ s' hq => wpAny_pure (wpAny_pure hq)) fun _ _ e => e)
  obtain ⟨it, fp, tn, J, H2, e, I2, T, st2, f2, hW⟩ := h2
  subst e
  refine comp_block (Q := fun x H1 => gName i x σ H1 D.nx) (RR := fun acc C => compPost (model X.prog X.w) X.A X.xe (some (assign (.Name x px) X.env)) (fun _ s' => SP X pins D .next s') acc C) hc hN hS nm c1 c2 hg ht he I2 T st2 f2 hW fun p C H' s' m J' hn hC hCf q => ?_
  obtain ⟨o, es, ep, ho, hd, hr⟩ := id hn
  have Jp : Inv X (pins ++ [(C, o)]) σ H' s' := J'.pins_of fun z hz => (List.mem_append.mp hz).elim (fun y => J'.pin z (List.mem_append_right _ y)) fun y => by
    have e : z = (C, o) := by simpa using y
    subst e
    exact ⟨ho, hCf, Nat.ne_of_gt (Nat.lt_of_lt_of_le I2.lt hC), I2.nofs hC, fun v z => by rw [hd] at z; cases z⟩
  refine thn (pg_name (X := X) (pos := px) hNd hix (.inl hloc) (.inr hloc) (pins ++ [(C, o)]) s' σ H' (.ref p) (.ref p) _ Jp rfl q) fun _ s'' ⟨σ'', H'', Js, q''⟩ => ?_
  have pc := Js.pin (C, o) (List.mem_append_right _ (List.mem_append_right _ (by simp)))
  refine ⟨m, ⟨o, es, ep, pc.1, hd, hr⟩, fun h' hs' => ⟨σ'', H'', comp_turned I2 Js.unpinned hC pc.2.1 hs', q''⟩⟩
end

/-! ### what a walk hands out, where nothing that it walks is changed -/
noncomputable def Feeds (J : It) (H : Hp) (xs : List V) : Prop := ∀ H', Same H H' → (∀ i x, xs[i]? = some x → J.go i H' ∧ ∀ y H2, J.yld i H' y H2 → y = x ∧ H2 = H') ∧ J.stop xs.length H'
theorem feeds_list {K : PySem.W.Frag} {H : Hp} {a : Addr} {xs : List V} (h : SqL K H a xs) : Feeds (Itl K a) H xs := fun H' e =>
  ⟨fun i x hx => ⟨⟨xs, x, e.seq h, hx⟩, fun y H2 hy => by
    obtain ⟨e1, e2⟩ := hy
    have := e2 xs (e.seq h)
    rw [hx] at this
    exact ⟨(Option.some.inj this).symm, e1⟩⟩, ⟨xs, e.seq h, Nat.le_refl _⟩⟩
theorem feeds_range {H : Hp} {lo : Int} {n : Nat} : Feeds (Itr lo n) H ((List.range n).map fun i => V.int (lo + (i : Nat))) := fun H' _ =>
  ⟨fun i x hx => by
    rw [List.getElem?_map] at hx
    cases q : (List.range n)[i]? with
    | none => rw [q] at hx; cases hx
    | some j =>
      have hi : i < n := by
        obtain ⟨h1, _⟩ := List.getElem?_eq_some_iff.mp q
        simpa using h1
      have hj : j = i := by
        obtain ⟨_, h2⟩ := List.getElem?_eq_some_iff.mp q
        simpa using h2.symm
      rw [q] at hx
      subst hj
      exact ⟨hi, fun y H2 hy => ⟨hy.2.trans (Option.some.inj hx), hy.1⟩⟩, by show n ≤ _; simp⟩
/-- [f x for x in ..], where the element leaves the heap as it is -/
theorem comp_pure {js : List (Option Nat)} {g : TG} {te : TE} {J : It} {σ : L2.St} {H : Hp} {Q : VK} {xs : List V} (f : V → V) (Sv : L2.St → Prop) (F : Feeds J H xs) (hz : xs.length ≤ sizeLine) (h0 : Sv (compSt js σ))
    (step : ∀ (x : V) (σ' : L2.St) (H' : Hp) (R : L2.St → VK), x ∈ xs → Same H H' → Sv σ' → (∀ σ3, Sv σ3 → R σ3 (f x) H') → g x σ' H' fun σ3 H3 => te σ3 H3 (R σ3))
    (gk : ∀ (x : V) (σ' : L2.St) (H' : Hp) (R R' : L2.St → Hp → Prop), (∀ σ3 H3, R σ3 H3 → R' σ3 H3) → g x σ' H' R → g x σ' H' R')
    (fin : ∀ p, H p = none → Q (.ref p) (upd H p (.lst (xs.map f)))) :
    tCompR js g tNoIf te σ Q J H := by
  intro p hp
  have sm : ∀ o, Same H (upd H p o) := fun o b u e => by rw [upd_ne (ne_of_none e hp)]; exact e
  refine ⟨fun i m σ' H' => m = xs.length - i ∧ i ≤ xs.length ∧ Sv σ' ∧ H' = upd H p (.lst ((xs.take i).map f)), ⟨xs.length, by simp, Nat.zero_le _, h0, by simp⟩, ?_⟩
  rintro i m σ' H' ⟨rfl, hi, hv, rfl⟩
  obtain ⟨F1, F2⟩ := F _ (sm (.lst ((xs.take i).map f)))
  by_cases hlt : i < xs.length
  · have ex : xs[i]? = some xs[i] := by simp [hlt]
    obtain ⟨go, yl⟩ := F1 i _ ex
    refine .inr ⟨go, fun σ2 H2 => Sv σ2 ∧ H2 = upd H p (.lst ((xs.take (i + 1)).map f)), fun σ2 H2 ⟨a, b⟩ => ⟨xs.length - (i + 1), by omega, rfl, hlt, a, b⟩, fun x H2 hy => ?_⟩
    obtain ⟨rfl, rfl⟩ := yl x H2 hy
    refine gk _ _ _ _ _ (fun σ3 H3 z => ?_) (step xs[i] σ' _ (fun σ3 v H5 => ∃ ys, H5 p = some (.lst ys) ∧ ys.length < sizeLine ∧ (Sv σ3 ∧ upd H5 p (.lst (ys ++ [v])) = upd H p (.lst ((xs.take (i + 1)).map f)))) (List.getElem_mem hlt) (sm _) hv fun σ3 hs3 => ?_)
    · exact z
    · refine ⟨_, upd_same, ?_, hs3, ?_⟩
      · rw [List.length_map, List.length_take]; omega
      · rw [upd_upd, List.take_add_one, ex, List.map_append]; rfl
  · have e : i = xs.length := by omega
    subst e
    refine .inl ⟨F2, ?_⟩
    rw [List.take_length]
    exact fin p hp
theorem gk_name {i : Nat} (x : V) (σ' : L2.St) (H' : Hp) (R R' : L2.St → Hp → Prop) (h : ∀ σ3 H3, R σ3 H3 → R' σ3 H3) (z : gName i x σ' H' R) : gName i x σ' H' R' := h _ _ z
end Add

namespace Add
open PySem PySem.Spec PyProof.Rows L2
/-! ### a text walked sign by sign -/
section
variable {X : Cx} {tg : Expr}
end
/-! ### all of a list of truths; texts compared, cut; products of great numbers -/
section
variable {X : Cx}
theorem all_getD (bs : List Bool) : ((List.range bs.length).all fun j => (bs[j]?).getD true) = bs.all fun b => b := by
  rw [← all_rangeD bs fun b => b]
  congr 1
theorem call_allB (hc : X.calm = true) : CallR X (.builtin "all") (fun xs H Q => ∃ (p : Addr) (bs : List Bool), xs = [V.ref p] ∧ SqL X.K H p (bs.map V.bl) ∧ Q (.bl (bs.all fun b => b)) H) := by
  intro pins s σ H xs us Q I r h
  obtain ⟨p, bs, rfl, hS, q⟩ := h
  obtain ⟨u, rfl, ru⟩ := Vals.one r
  cases ru
  obtain ⟨its, rv, pl, hz⟩ := I.list hS
  have hl := rv.length
  rw [List.length_map] at hl
  have hne : p ≠ s.heap.objs.size := by
    obtain ⟨o, ho, _⟩ := pl.isList
    exact Nat.ne_of_lt (Heap.lt_size ho)
  refine call_all_walk (wpAny_pyIter_list pl.isList ⟨s.heap.objs.size, _, _, its.toArray.size, _, _, fun j => (bs[j]?).getD true, rfl, Walks.list (show X.A.in1.handled = none from I.ok.hd hc) _ p hne its.toArray,
    ⟨⟨_, Heap.get?_push_size _ rfl, rfl, rfl⟩, pl.isList.at fun o e => Heap.get?_push_of_some _ e⟩, ?_, fun h' tk hk => ?_⟩)
  · intro i v s' Q' E' hv hq
    have hv' : its[i]? = some v := by simpa using hv
    cases e : bs[i]? with
    | none =>
      exfalso
      have h1 : its.length ≤ i := by rw [← hl]; exact List.getElem?_eq_none_iff.mp e
      rw [List.getElem?_eq_none_iff.mpr h1] at hv'
      cases hv'
    | some b =>
      obtain ⟨u, hu, ru⟩ := rv.get (i := i) (x := .bl b) (by rw [List.getElem?_map, e]; rfl)
      rw [hv'] at hu
      cases hu
      cases (show v = Value.bool b from ru)
      dsimp only at hq
      rw [e] at hq
      exact wpAny_truthy_bool hq
  · refine ⟨.bl _, H, I.kept (t' := tk) fun b o e => hk b o (fun z => ?_) (Heap.get?_push_of_some _ e), rfl, ?_⟩
    · have z' : b = s.heap.objs.size := by simpa using z
      exact absurd (Heap.lt_size e) (by rw [z']; exact Nat.lt_irrefl _)
    · have e : its.toArray.size = bs.length := by rw [List.size_toArray, hl]
      rw [e]
      rw [all_getD]
      exact q
theorem sl_str : SlR X (fun x lo hi H Q => ∃ z, x = .str z ∧ z.length ≤ sizeLine ∧ Q (.str (Txt.slice z lo hi)) H) := by
  intro pins s σ H x v vl vu lo hi sl Q I rx hs pl pu h
  obtain ⟨z, rfl, hz, q⟩ := h
  obtain ⟨t, rfl⟩ := rx
  refine ⟨"str", _, F.slot_str_getitem.lookup, typeIs_str _ _ _, ?_⟩
  have fin : ∀ t' k, EP X pins σ Q (.str (Txt.slice z lo hi) t') { s with toks := k } := fun t' k => ⟨.str _, H, I.tok k, ⟨t', rfl⟩, q⟩
  cases pl with
  | none =>
    cases pu with
    | none => exact wpAny_getItem_str_slice (l := none) (u := none) (st := none) hs rfl (post_val_or_str ⟨Nat.le_trans (Txt.slice_le z _ _) hz, fin⟩)
    | int j uj => exact wpAny_getItem_str_slice (l := none) (u := some (j, uj)) (st := none) hs rfl (post_val_or_str ⟨Nat.le_trans (Txt.slice_le z _ _) hz, fin⟩)
  | int i ui =>
    cases pu with
    | none => exact wpAny_getItem_str_slice (l := some (i, ui)) (u := none) (st := none) hs rfl (post_val_or_str ⟨Nat.le_trans (Txt.slice_le z _ _) hz, fin⟩)
    | int j uj => exact wpAny_getItem_str_slice (l := some (i, ui)) (u := some (j, uj)) (st := none) hs rfl (post_val_or_str ⟨Nat.le_trans (Txt.slice_le z _ _) hz, fin⟩)
theorem star_cmp {a b c d} {es : List Expr} {env : Env} : starEach (.ListComp a b c d :: es) env = (false, eval (.ListComp a b c d) env) :: starEach es env := by rw [starEach]; intro e p' h; cases h
theorem star_con {a b c} {es : List Expr} {env : Env} : starEach (.Constant a b c :: es) env = (false, eval (.Constant a b c) env) :: starEach es env := by rw [starEach]; intro e p' h; cases h
theorem star_nam {a b} {es : List Expr} {env : Env} : starEach (.Name a b :: es) env = (false, eval (.Name a b) env) :: starEach es env := by rw [starEach]; intro e p' h; cases h
theorem star_cal {a b c d} {es : List Expr} {env : Env} : starEach (.Call a b c d :: es) env = (false, eval (.Call a b c d) env) :: starEach es env := by rw [starEach]; intro e p' h; cases h
theorem star_bin {a b c d} {es : List Expr} {env : Env} : starEach (.BinOp a b c d :: es) env = (false, eval (.BinOp a b c d) env) :: starEach es env := by rw [starEach]; intro e p' h; cases h
theorem star_sub {a b c} {es : List Expr} {env : Env} : starEach (.Subscript a b c :: es) env = (false, eval (.Subscript a b c) env) :: starEach es env := by rw [starEach]; intro e p' h; cases h
theorem star_att {a b c} {es : List Expr} {env : Env} : starEach (.Attribute a b c :: es) env = (false, eval (.Attribute a b c) env) :: starEach es env := by rw [starEach]; intro e p' h; cases h
end
section
variable {K : PySem.W.Frag}
theorem kit_str_str : PySem.W.kitOne K (.type "str") (.type "str") = some true := by kernel_rfl
theorem kit_lst_lst : PySem.W.kitOne K (.type "list") (.type "list") = some true := by kernel_rfl
end
end Add

namespace Add
open PySem PySem.Spec PyProof.Rows L2
/-! ### error classes of one's own: made -/
section
variable {prog : Program} {w : World} {A : Around} {E : Value → Shared → Prop} {h : Heap} {g : Array GenState} {d : Drawn} {t : Nat} {os : OsState}
variable {nm q : Str} {C N : Addr} {bs bm bmB : List Value} {hdct : Bool} {sn : List Str} {sub : List Value} {ab : Bool} {col : Option Bool} {dd : Option Addr} {k0 k1 k2 k3 k5 : Option Value} {B Bn newId nid initId inN : String} {bmN : List Value}

end
end Add

namespace Add
open PySem PySem.Spec PyProof.Rows L2
/-! ### error classes of one's own: their objects' attributes -/
section
open PySem.W
variable {prog : Program} {w : World} {A : Around} {E : Value → Shared → Prop} {s : Shared} {K : Frag} {x C : Addr} {ox : Obj} {od : Option Obj} {name : Str} {expr : Bool}
end
end Add

namespace Add
open PySem PySem.Spec PyProof.Rows L2
section
open PySem.W
variable {prog : Program} {w : World} {A : Around} {E : Value → Shared → Prop} {s : Shared} {K : Frag} {x C : Addr} {ox : Obj} {od : Option Obj} {name : Str} {expr : Bool}
/-! ### x.name = v -/
end
end Add

namespace Add
open PySem PySem.Spec PyProof.Rows L2
section
open PySem.W
variable {prog : Program} {w : World} {A : Around} {E : Value → Shared → Prop} {s : Shared} {K : Frag} {x C : Addr} {o : Obj} {name : Str} {v : Value}
end
end Add

namespace Add
open PySem PySem.Spec PyProof.Rows L2
/-! ### the class, by the fragment -/
/-! ### made -/
section
variable {prog : Program} {w : World} {A : Around} {E : Value → Shared → Prop} {K : PySem.W.Frag} {C fI : Addr} {s : Shared} {rest : List Value}
end
end Add

namespace Add
open PySem PySem.Spec PyProof.Rows L2
/-! ### error objects in the abstract heap: the object itself, its dict -/
section
variable {P : Program} {w : World} {H : Hp} {h : Heap} {x C dx : Addr} {od : Option Addr} {fr : Bool} {fs : List (Str × V)}
end
section
variable {X : Cx} {pins : List (Addr × Obj)} {σ : L2.St} {H : Hp} {s : Shared} {A : Around} {E : Value → Shared → Prop}
/-! ### C(..) -/
variable {CX : CXT} {k : Nat} {f : Addr} {fd : FuncData} {ps : List Str} {sp : Sp} {ds : List Value} {dvs : List V} {EX : XK}
/-! ### isinstance -/
end
end Add

namespace Add
open PySem PySem.Spec PyProof.Rows L2
section
variable {X : Cx} {pins : List (Addr × Obj)} {σ : L2.St} {H : Hp} {s : Shared} {E : Value → Shared → Prop}
/-! ### B.__init__(self, ..), B above an error class -/
/-! ### e.f, e.f = v -/
end
end Add

namespace Add
open PySem PySem.Spec PyProof.Rows L2
section
variable {X : Cx}
/-! ### == and != of lists of flat items; insert at the front -/
noncomputable def rEqL (K : PySem.W.Frag) (f : Bool → Bool) : R2 := fun x y H Q => ∃ a b xs ys, x = .ref a ∧ y = .ref b ∧ SqL K H a xs ∧ SqL K H b ys ∧ xs.all flatV = true ∧ ys.all flatV = true ∧ Q (.bl (f (eqVs xs ys))) H
theorem eqVs_len : ∀ {xs ys : List V}, xs.length ≠ ys.length → eqVs xs ys = false
  | [], [], h => absurd rfl h
  | [], _ :: _, _ => rfl
  | _ :: _, [], _ => rfl
  | x :: xs, y :: ys, h => by
    show (eqV x y && eqVs xs ys) = false
    rw [eqVs_len (fun z => h (by rw [List.length_cons, List.length_cons, z])), Bool.and_false]
theorem all_eq_same {xs ys : List V} (h : xs.length = ys.length) : (List.range xs.length).all (eAt xs ys) = eqVs xs ys := by
  rw [← all_eq xs ys, ← h, Nat.min_self]
  simp
theorem op_eqL (hu : X.A.units < cLine) : OpR X (compareOp .Eq) (rEqL X.K fun z => z) := by
  intro pins s σ H x y v u Q I rx ry h
  obtain ⟨a, b, xs, ys, rfl, rfl, ha, hb, fx, fy, q⟩ := h
  cases rx
  cases ry
  obtain ⟨its, r1, p1, _⟩ := I.list ha
  obtain ⟨its2, r2, p2, _⟩ := I.list hb
  have l1 := r1.length
  have l2 := r2.length
  by_cases hz : xs.length = ys.length
  · refine SeqAt.eq_listAt p1.isList p2.isList (by rw [List.size_toArray, List.size_toArray]; omega) hu (items_eq r1 r2 fx fy) ?_
    rw [List.size_toArray, ← l1, all_eq_same hz]
    exact ⟨.bl (eqVs xs ys), H, I, rfl, q⟩
  · refine SeqAt.eq_list_lengthsAt p1.isList p2.isList (bne_iff_ne.mpr (by rw [List.size_toArray, List.size_toArray]; omega)) hu ?_
    rw [eqVs_len hz] at q
    exact ⟨.bl false, H, I, rfl, q⟩
theorem op_neL (hu : X.A.units < cLine) : OpR X (compareOp .NotEq) (rEqL X.K fun z => !z) := by
  intro pins s σ H x y v u Q I rx ry h
  obtain ⟨a, b, xs, ys, rfl, rfl, ha, hb, fx, fy, q⟩ := h
  cases rx
  cases ry
  obtain ⟨its, r1, p1, _⟩ := I.list ha
  obtain ⟨its2, r2, p2, _⟩ := I.list hb
  have l1 := r1.length
  have l2 := r2.length
  by_cases hz : xs.length = ys.length
  · refine SeqAt.RcNeAt.lists p1.isList p2.isList (by rw [List.size_toArray, List.size_toArray]; omega) hu (items_eq r1 r2 fx fy) _ _ _ _ ?_
    rw [List.size_toArray, ← l1, all_eq_same hz]
    exact ⟨.bl (!eqVs xs ys), H, I, rfl, q⟩
  · refine SeqAt.RcNeAt.lists_lengths p1.isList p2.isList (bne_iff_ne.mpr (by rw [List.size_toArray, List.size_toArray]; omega)) hu _ _ _ _ ?_
    rw [eqVs_len hz] at q
    exact ⟨.bl true, H, I, rfl, q⟩
theorem eqV_self : ∀ {x : V}, flatV x = true → eqV x x = true
  | .non, _ => rfl
  | .bl b, _ => by cases b <;> rfl
  | .int i, _ => by simp [eqV]
  | .str y, _ => by simp [eqV]
  | .byt _, h => by simp [flatV] at h
  | .flt _, h => by simp [flatV] at h
  | .ref _, h => by simp [flatV] at h
  | .ty _, h => by simp [flatV] at h
theorem eqVs_self : ∀ {xs : List V}, xs.all flatV = true → eqVs xs xs = true
  | [], _ => rfl
  | x :: xs, h => by
    rw [List.all_cons, Bool.and_eq_true] at h
    show (eqV x x && eqVs xs xs) = true
    rw [eqV_self h.1, eqVs_self h.2]; rfl
end
end Add

namespace Add
open PySem PySem.Spec PyProof.Rows L2
/-! ### all that is asked of an error class, in one word each -/
noncomputable def xNo (K : PySem.W.Frag) (C : Addr) (ns : List Str) : Bool := ns.all fun n => PySem.W.findIn K (.ref C) n == some none
theorem xno_of {K : PySem.W.Frag} {C : Addr} {ns : List Str} {n : Str} (h : xNo K C ns = true) (m : n ∈ ns) : PySem.W.findIn K (.ref C) n = some none := beq_iff_eq.mp (List.all_eq_true.mp h n m)
structure MethAt (K : PySem.W.Frag) (x qual : Str) (st : Stmt) (ps : List Str) (f : Addr) (fd : FuncData) : Prop where
  fn : Fun K x qual st f fd
  bd : Binds K fd ps []
  ty : PySem.W.typeIn K (.ref f) = some (.type "function")
/-! ### rules whose reading names the fragment, for a comprehension's block -/
section
variable {X : Cx} {K : PySem.W.Frag}
theorem pe_fldK {e : Expr} {f : Str} {pos : Pos} {ta : TE} (hK : X.K = K) (he : PE X e ta) (hb : attributeBase e f X.env (eval e X.env) = eval e X.env) : PE X (.Attribute e f pos) (tFld K ta f) := hK ▸ pe_fld he hb
end
end Add

namespace Add
open PySem PySem.Spec PyProof.Rows L2
/-! ### an error in flight: what noteFrame and leaving do to the heap -/
section
variable {M : Model} {A : Around} {E : Value → Shared → Prop} {s : Shared} {base : Heap} {env : Env} {outer : List Env} {L x C : Addr} {od : Option Addr} {vs : Array Value} {sl : Array (Option Value)}
end
end Add

namespace Add
open PySem PySem.Spec PyProof.Rows L2
/-! ### an error in flight, by the abstract heap -/
section
variable {X : Cx} {pins : List (Addr × Obj)} {σ : L2.St} {H : Hp} {s : Shared} {E : Value → Shared → Prop} {x C : Addr} {od : Option Addr}
end

/-! ### how an error lies behind a call -/
end Add

namespace Add
open PySem PySem.Spec PyProof.Rows L2
/-! ### a def that may let an error out; leaves whose errors are asked of by the names' values -/
section
variable {P : Program} {w : World} {K : PySem.W.Frag} {mg : Str → Option Value} {base : Heap}
end
section
variable {X : Cx} {k : Nat} {f C : Addr} {fd : FuncData} {ps : List Str} {sp : Sp} {dvs : List V} {ds : List Value} {EX : L2.St → XK} {x m : Str} {p pos apos : Pos} {e o : Expr} {es : List Expr} {ta : TE} {t : TA}
end
end Add

namespace Add
open PySem PySem.Spec PyProof.Rows L2
/-! ### try: the body's context, and a suite's -/
noncomputable abbrev _root_.L2.Cx.tr (X : Cx) (pins : List (Addr × Obj)) (W : Value → Shared → Prop) : Cx := { X with pn := X.pn ++ pins, xe := W }
section
variable {X : Cx} {pins pins' : List (Addr × Obj)} {σ : L2.St} {H : Hp} {s : Shared} {W : Value → Shared → Prop} {e : Value}
end
/-- the clauses behind a caught error: the ends, the names, the error and its class -/
noncomputable abbrev TH := Ends → L2.St → Addr → Addr → Option Addr → Hp → Prop
section
variable {X : Cx} {pins : List (Addr × Obj)} {σ : L2.St} {H : Hp} {s : Shared} {E : Value → Shared → Prop}
end
/-- the test: a name that is read for a class -/
noncomputable def PC (X : Cx) (t : Expr) (c : Value) : Prop := ∀ (e : Value) (E : Value → Shared → Prop) (pins : List (Addr × Obj)) (s : Shared) (σ : L2.St) (H : Hp) (Q : Value → Shared → Prop), Inv X pins σ H s → Q c s → wpAny (model X.prog X.w) (X.A.mark (some e)) (eval t X.env) Q E s
section
variable {X : Cx} {t : Expr} {b₀ : Stmt} {body : List Stmt} {pos : Pos} {rest : List ExceptHandler} {c : Value} {ts : Addr → TS} {tr : TH}
end
end Add

namespace Add
open PySem PySem.Spec PyProof.Rows L2
/-! ### raise e -/
end Add

namespace Add
open PySem PySem.Spec PyProof.Rows L2
section
variable {X : Cx}
end
end Add

namespace Add
open PySem PySem.Spec PyProof.Rows L2
/-! ### f-strings with plain fields -/
noncomputable abbrev TJ := Str → TE
section
variable {X : Cx} {e : Expr} {es : List Expr} {te : TE} {tj : TJ} {pos : Pos}
end
end Add

namespace Add
open PySem PySem.Spec PyProof.Rows L2
open Builtin Builtin.Str
/-! ### methods of texts -/
section
variable {X : Cx}
end
end Add

namespace Add
open PySem PySem.Spec PyProof.Rows L2
/-! ### int of a text -/
end Add

namespace Add
open PySem PySem.Spec PyProof.Rows L2
/-! ### plain classes of the program's own: what is asked of them, in one word each (closed by kernel_rfl) -/
section
variable {K : PySem.W.Frag} {C f : Addr} {m : Str}
noncomputable def clsB (K : PySem.W.Frag) (C : Addr) : Bool := PySem.W.plainGet K C Str.empty && PySem.W.hasDictIn K C && PySem.W.plainOver K C && (PySem.W.findIn K (.ref C) "__setattr__" == some (some (.builtin "object.__setattr__")))
theorem cls_of (h : clsB K C = true) : Cls K C := by
  unfold clsB at h
  simp only [Bool.and_eq_true, beq_iff_eq] at h
  obtain ⟨⟨⟨h1, h2⟩, h3⟩, h4⟩ := h
  exact ⟨h1, h2, h3, h4⟩
noncomputable def mkB (K : PySem.W.Frag) (C f : Addr) : Bool := PySem.W.makesIn K C && (PySem.W.findIn K (.ref C) "__init__" == some (some (.ref f))) && PySem.W.isFn K (.ref f) && PySem.W.keepIn K (.ref C)
theorem mk_of (h : mkB K C f = true) : Mk K C f := by
  unfold mkB at h
  simp only [Bool.and_eq_true, beq_iff_eq] at h
  obtain ⟨⟨⟨h1, h2⟩, h3⟩, h4⟩ := h
  exact ⟨h1, h2, h3, h4⟩
noncomputable def methB (K : PySem.W.Frag) (C : Addr) (m : Str) (f : Addr) : Bool := (PySem.W.findIn K (.ref C) m == some (some (.ref f))) && PySem.W.isFn K (.ref f) && PySem.W.keepIn K (.ref f)
theorem meth_of (h : methB K C m f = true) : Meth K C m f := by
  unfold methB at h
  simp only [Bool.and_eq_true, beq_iff_eq] at h
  obtain ⟨⟨h1, h2⟩, h3⟩ := h
  exact ⟨h1, h2, h3⟩
end
end Add

namespace Add
open PySem PySem.Spec PyProof.Rows L2
open Builtin Builtin.Str
/-! ### x.startswith(y), x.join(list of texts) -/
section
variable {X : Cx}
end
end Add
namespace Add
open PySem PySem.Spec PyProof.Rows L2
open Builtin Builtin.Str
/-! ### a text some times over: of the outcome its length alone is told -/
end Add

namespace Add
open PySem PySem.Spec PyProof.Rows L2
/-! ### comprehensions whose elements may make things; with a test -/
theorem same_add {H H' : Hp} {p : Addr} {o : HO} (s : Same H H') (n : H p = none) : Same H (upd H' p o) := fun b u e => by rw [upd_ne (ne_of_none e n)]; exact s _ _ e
/-- [f x for x in .. if b x], where test and element leave the heap as it is -/
theorem comp_filt {js : List (Option Nat)} {g : TG} {tc : TT} {te : TE} {J : It} {σ : L2.St} {H : Hp} {Q : VK} {xs : List V} (b : V → Bool) (f : V → V) (Sv : L2.St → Prop) (F : Feeds J H xs) (hz : xs.length ≤ sizeLine) (h0 : Sv (compSt js σ))
    (step : ∀ (x : V) (σ' : L2.St) (H' : Hp) (N : L2.St → Hp → Prop) (R : L2.St → VK), x ∈ xs → Same H H' → Sv σ' → (∀ σ3, Sv σ3 → b x = false → N σ3 H') → (∀ σ3, Sv σ3 → b x = true → R σ3 (f x) H') →
      g x σ' H' fun σ3 H3 => tc σ3 H3 fun k H4 => if k = true then te σ3 H4 (R σ3) else N σ3 H4)
    (gk : ∀ (x : V) (σ' : L2.St) (H' : Hp) (R R' : L2.St → Hp → Prop), (∀ σ3 H3, R σ3 H3 → R' σ3 H3) → g x σ' H' R → g x σ' H' R')
    (fin : ∀ p, H p = none → Q (.ref p) (upd H p (.lst ((xs.filter b).map f)))) :
    tCompR js g tc te σ Q J H := by
  intro p hp
  have sm : ∀ o, Same H (upd H p o) := fun o => same_add (Same.refl H) hp
  have fl : ∀ i, ((xs.take i).filter b).length ≤ i := fun i => Nat.le_trans (List.length_filter_le b (xs.take i)) (by rw [List.length_take]; omega)
  refine ⟨fun i m σ' H' => m = xs.length - i ∧ i ≤ xs.length ∧ Sv σ' ∧ H' = upd H p (.lst (((xs.take i).filter b).map f)), ⟨xs.length, by simp, Nat.zero_le _, h0, by simp⟩, ?_⟩
  rintro i m σ' H' ⟨rfl, hi, hv, rfl⟩
  obtain ⟨F1, F2⟩ := F _ (sm (.lst (((xs.take i).filter b).map f)))
  by_cases hlt : i < xs.length
  · have ex : xs[i]? = some xs[i] := by simp [hlt]
    obtain ⟨go, yl⟩ := F1 i _ ex
    have et : (xs.take (i + 1)).filter b = (xs.take i).filter b ++ (if b xs[i] = true then [xs[i]] else []) := by
      rw [List.take_add_one, ex, List.filter_append]
      congr 1
      show List.filter b [xs[i]] = _
      rw [List.filter_cons]
      rfl
    refine .inr ⟨go, fun σ2 H2 => Sv σ2 ∧ H2 = upd H p (.lst (((xs.take (i + 1)).filter b).map f)), fun σ2 H2 ⟨a, b⟩ => ⟨xs.length - (i + 1), by omega, rfl, hlt, a, b⟩, fun x H2 hy => ?_⟩
    obtain ⟨rfl, rfl⟩ := yl x H2 hy
    refine gk _ _ _ _ _ (fun σ3 H3 z => ?_) (step xs[i] σ' _ (fun σ2 H2 => Sv σ2 ∧ H2 = upd H p (.lst (((xs.take (i + 1)).filter b).map f))) (fun σ3 v H5 => ∃ ys, H5 p = some (.lst ys) ∧ ys.length < sizeLine ∧ (Sv σ3 ∧ upd H5 p (.lst (ys ++ [v])) = upd H p (.lst (((xs.take (i + 1)).filter b).map f)))) (List.getElem_mem hlt) (sm _) hv (fun σ3 hs3 hb => ?_) fun σ3 hs3 hb => ?_)
    · exact z
    · refine ⟨hs3, ?_⟩
      rw [et, hb]
      simp
    · refine ⟨_, upd_same, ?_, hs3, ?_⟩
      · rw [List.length_map]; have := fl i; omega
      · rw [upd_upd, et, hb, if_pos rfl, List.map_append]; rfl
  · have e : i = xs.length := by omega
    subst e
    refine .inl ⟨F2, ?_⟩
    rw [List.take_length]
    exact fin p hp
end Add

namespace Wri
open PySem PySem.Spec PyProof.Rows PySem.W PySem.W.KIN PySem.NumText
/-! ### texts cut at a sign; numbers as they are written -/
/-! figures -/
/-- the number of a text of figures is written: no nought in front -/
noncomputable def plain (x : Str) : Bool := decide (x = Str.ofString "0") || !decide (x.cps.toList.head? = some 48)
end Wri

namespace Add
open PySem PySem.Spec PyProof.Rows L2
/-! ### lists of tuples of flat items: what lies in them, and == of them -/
section
variable {X : Cx}
theorem ix_listC {K : PySem.W.Frag} (h : X.K = K) : IxR X (rIxL K) := by subst h; exact ix_list
end
end Add

namespace Lay
/-! ### rows laid over one another -/
section
variable {W : Type} [DecidableEq W]
noncomputable abbrev Row (W : Type) := Int × Int × W
noncomputable abbrev ends (rs : List (Row W)) : List Int := rs.map fun r => r.2.1
noncomputable def left (rs : List (Row W)) (f : Int) : List (Row W) := rs.filterMap fun r => if r.1 < f then some (r.1, min r.2.1 (f - 1), r.2.2) else none
noncomputable def right (rs : List (Row W)) (l : Int) : List (Row W) := rs.filterMap fun r => if l < r.2.1 then some (max r.1 (l + 1), r.2.1, r.2.2) else none
noncomputable def over (rs : List (Row W)) (f l : Int) (w : W) : List (Row W) := left rs f ++ (f, l, w) :: right rs l
/-! those that touch and have one word made one -/
noncomputable def jn1 (told : List (Row W)) (r : Row W) : List (Row W) := match told.getLast? with
  | some t => if t.2.2 = r.2.2 ∧ t.2.1 + 1 = r.1 then told.dropLast ++ [(t.1, r.2.1, r.2.2)] else told ++ [r]
  | none => told ++ [r]
noncomputable def Nx (r s : Row W) : Prop := r.2.1 < s.1 ∧ (s.1 = r.2.1 + 1 → r.2.2 ≠ s.2.2)
noncomputable def jn (rs : List (Row W)) : List (Row W) := rs.foldl jn1 []
noncomputable def lay (rs : List (Row W)) : List (Row W) := rs.foldl (fun laid r => over laid r.1 r.2.1 r.2.2) []
noncomputable def ov (rs : List (Row W)) : List (Row W) := jn (lay rs)
end
end Lay

namespace Srt
open PySem PySem.W PyProof.Rows
/-! ### the tree of questions that a sort asks: right for any order -/
section
variable {n : Nat} {r : Nat → Nat → Bool}
end
end Srt

namespace Srt
open PySem PySem.W PySem.Calls PyProof.Rows
section
variable {prog : Program} {w : World} {A : Around} {E : Value → Shared → Prop} {s : Shared}
end
end Srt
namespace Add
open PySem PySem.Spec PyProof.Rows L2 Srt PySem.W
/-! ### sorted(list of pairs of whole numbers) -/
section
variable {X : Cx} {pins : List (Addr × Obj)} {σ : L2.St} {H : Hp} {s : Shared}
end
end Add

namespace Mrg
/-! ### stretches merged -/
noncomputable abbrev S2 := Int × Int
noncomputable def inB (rs : List S2) (d : Int) : Bool := rs.any fun r => decide (r.1 ≤ d) && decide (d ≤ r.2)
noncomputable def mg1 (told : List S2) (r : S2) : List S2 := match told.getLast? with
  | some t => if r.1 ≤ t.2 + 1 then told.dropLast ++ [(t.1, if r.2 > t.2 then r.2 else t.2)] else told ++ [r]
  | none => told ++ [r]
noncomputable def mg (rs : List S2) : List S2 := rs.foldl mg1 []
end Mrg

namespace Add
open PySem PySem.Spec PyProof.Rows L2
/-! ### for at, x in enumerate(list) -/
end Add

namespace Add
open PySem PySem.Spec PyProof.Rows L2
/-! ### any of a list of truths; a field within a comprehension's block -/
section
variable {X : Cx}
end
end Add

namespace Add
open PySem PySem.Spec PyProof.Rows L2
/-! ### defs with defaults -/
structure FunD (K : PySem.W.Frag) (x qual : Str) (st : Stmt) (f : Addr) (fd : FuncData) : Prop where
  ex : ∃ (oc dV kV doc pm cdv ct : Value) (od an : Option Addr) (osl : Array (Option Value)),
    fd = PySem.W.fnOf x qual (defArgs st) (defBody st) (defScope st) dV kV doc pm an cdv ct ∧ K.lookup f = some ⟨oc, od, .func fd, osl⟩ ∧ PySem.W.codeIn K cdv qual = true
  kp : PySem.W.keepIn K (.ref f) = true
section
variable {P : Program} {w : World} {K : PySem.W.Frag} {mg : Str → Option Value} {base : Heap}
theorem FunD.ok {x qual : Str} {st : Stmt} {f : Addr} {fd : FuncData} {N ps : List Str} {k : Nat} {sp : Sp} (F : FunD K x qual st f fd) (S : FnScope N ps (defScope st)) (len : ∀ vs H Q E, sp vs H Q E → vs.length = ps.length)
    (hbody : ∀ (cdv : Value) (A : Around) (outer : List Env) (s : Shared) (H : Hp) (vs : List V) (Q : VK) (E : XK), Room k (A.deeper (envOfC qual (defScope st) s.heap.objs.size f cdv)) → sp vs H Q E →
      ∃ t, PSs (cxOf CX0 P w K mg base N qual (defScope st) f cdv A outer s H E).nox (defBody st) t ∧ t { nx := fun _ H' => Q .non H', rt := Q } (start N vs) H) : FnOk P w K mg base CX0 (k + 1) f fd ps sp := by
  obtain ⟨oc, dV, kV, doc, pm, cdv, ct, od, an, osl, rfl, lk, hcd⟩ := F.ex
  refine fn_of lk hcd S len fun A outer s H vs Q E hr hsp => ?_
  obtain ⟨t, h, q⟩ := hbody cdv A outer s H vs Q E hr hsp
  exact ⟨t, h.nox, q⟩
theorem fund_mk {x qual : Str} {st : Stmt} {f : Addr} {oc : Value} {od an : Option Addr} {osl : Array (Option Value)} {dV kV doc pm cdv ct : Value} (l : K.lookup f = some ⟨oc, od, .func (PySem.W.fnOf x qual (defArgs st) (defBody st) (defScope st) dV kV doc pm an cdv ct), osl⟩)
    (c : PySem.W.codeIn K cdv qual = true) (k : PySem.W.keepIn K (.ref f) = true) : FunD K x qual st f (PySem.W.fnOf x qual (defArgs st) (defBody st) (defScope st) dV kV doc pm an cdv ct) := ⟨⟨oc, dV, kV, doc, pm, cdv, ct, od, an, osl, rfl, l, c⟩, k⟩
theorem bindsD {fd : FuncData} {ps : List Str} {ds : List Value} (h : ∀ us : List Value, (us ++ ds).length = ps.length → ∀ S, PySem.W.peek K S (bindArgs fd ⟨us, []⟩) = some (ps.zip (us ++ ds))) : Binds K fd ps ds := fun s us X hl => PySem.W.kp_binds X (h us hl)
end
structure MethD (K : PySem.W.Frag) (x qual : Str) (st : Stmt) (ps : List Str) (f : Addr) (fd : FuncData) : Prop where
  fn : FunD K x qual st f fd
  bd : Binds K fd ps []
  ty : PySem.W.typeIn K (.ref f) = some (.type "function")
end Add

namespace Add
open PySem PySem.Spec PyProof.Rows L2
/-! ### a op b op c op d; what lies in lists of tuples, mapped -/
section
variable {X : Cx} {a b c d : Expr} {ta tb tc td : TE} {pos : Pos}
end
end Add
namespace Tab
open Mrg Lay
/-! ### patterns and tables -/
/-- a weekday or a day of the year that is free -/
noncomputable def fy (wk : List Int) (yr : List S2) (i : Int) : Bool := wk.contains (i % 7 + 1) || inB yr i
end Tab

namespace Add
open PySem PySem.Spec PyProof.Rows L2
/-! ### range(i, j), i and j of any size -/
section
variable {X : Cx} {tg : Expr}
end
end Add

namespace Rev
open PySem PyProof.Rows
/-! ### list(reversed(list)) -/
set_option maxRecDepth 100000
theorem no_len : typeLookup (.type "list_reverseiterator") "__len__" = pure none := by rw [typeLookup_type, builtinLookup_eq_fast]; kernel_rfl
theorem its_hint : typeLookup (.type "list_reverseiterator") "__length_hint__" = pure (some (.builtin "list_reverseiterator.__length_hint__")) := by rw [typeLookup_type, builtinLookup_eq_fast]; kernel_rfl
section
variable {prog : Program} {w : World} {A : Around} {s : Shared} {R : Result → Shared → Prop} {E : Value → Shared → Prop}
variable {I : Addr} {fp wr : List Addr} {G : Array GenState → Array GenState → Prop} {n : Nat} {P : Nat → Value → Prop} {St : Nat → Shared → Prop}
theorem hint_ok {x : Value} {Q : Bool → Shared → Prop} (hT : s.TypeIs x "list_reverseiterator") (h : Q false s) : wpAny (model prog w) A (Builtin.List.listLengthHint x) Q E s := by
  unfold Builtin.List.listLengthHint
  refine wpAny_bind (wpAny_specialOf hT no_len ?_)
  show wpAny _ A (specialOf x (Str.ofString "__length_hint__") >>= _) _ _ _
  refine wpAny_bind (wpAny_specialOf hT its_hint ?_)
  generalize hid : ("list_reverseiterator.__length_hint__" : String) = id0
  wp_delta
  rw [show splitId id0 = some ("list_reverseiterator", "__length_hint__") from by subst hid; decide +kernel]
  subst hid
  refine wpAny_bind (wpAny_isInstance (b := true) hT (by rw [isSubtype_type]; kernel_rfl) ?_)
  exact wpAny_pure h
theorem extend_ok (W : WalksS prog w A.in1 I fp wr G n P St) (hT : ∀ i s, St i s → s.TypeIs (.ref I) "list_reverseiterator") (S : Addr) (res : Value) (c₀ : Nat) (hst : St 0 s) (hSf : S ∉ fp) (hI : I ∈ fp)
    (hS : s.heap.get? S = some { cls := .type "list", data := .seq #[] c₀ })
    (hR : ∀ s' acc' c', Moved (S :: wr) G s s' → s'.heap.get? S = some { cls := .type "list", dict := none, data := .seq acc' c', slots := #[] } → ItemsOf P acc' n → R (.ok (.ret res)) s') (hn : n ≤ sizeLine) :
    wpAny (model prog w) A.in1 (Builtin.List.listExtendWith (.ref S) (.ref I) res)
      (fun fin s' => match fin with | .done f => R (.ok f) s' | .again c' => c'.quiet = true ∧ codeAny (model prog w) A c' R s') (fun e s' => R (.error e) s') s := by
  have hSI : S ≠ I := fun e => hSf (e ▸ hI)
  unfold Builtin.List.listExtendWith
  refine wpAny_bind (wpAny_typeOf (hT 0 _ hst) ?_)
  have h1 : Builtin.List.listSameRef (.ref S) (.ref I) = false := by simp [Builtin.List.listSameRef, hSI]
  have h2 : (Value.type "list_reverseiterator" == Value.type "list") = false := by decide
  have h3 : (Value.type "list_reverseiterator" == Value.type "tuple") = false := by decide
  simp only [h1, h2, h3, Bool.or_false, Bool.false_eq_true, if_false]
  refine wpAny_bind (W.self 0 _ _ _ hst ?_)
  refine wpAny_bind (wpAny_holding (hint_ok (hT 0 _ hst) ?_))
  rw [if_neg (by decide)]
  exact wpAny_pure ⟨plainId_quiet F.plain_extend_loop _, codeAny_extend_loopS W hn _ hSf _ n 0 _ _ _ rfl (Nat.zero_le _) hst hS (ItemsOf.nil P) fun s' acc' c' hm hS' hacc => hR s' acc' c' hm hS' hacc⟩
theorem init_ok (W : WalksS prog w A.in1 I fp wr G n P St) (hT : ∀ i s, St i s → s.TypeIs (.ref I) "list_reverseiterator") (S : Addr) (hst : St 0 s) (hSf : S ∉ fp) (hI : I ∈ fp)
    (hS : s.heap.get? S = some { cls := .type "list", data := .seq #[] })
    (hR : ∀ s' acc' c', Moved (S :: wr) G s s' → s'.heap.get? S = some { cls := .type "list", dict := none, data := .seq acc' c', slots := #[] } → ItemsOf P acc' n → R (.ok (.ret .none)) s') (hn : n ≤ sizeLine) :
    wpAny (model prog w) A.in1 (Builtin.«list.__init__» ⟨[.ref S, .ref I], []⟩)
      (fun fin s' => match fin with | .done f => R (.ok f) s' | .again c' => c'.quiet = true ∧ codeAny (model prog w) A c' R s') (fun e s' => R (.error e) s') s := by
  show wpAny _ A.in1 (Builtin.List.listItems (.ref S) >>= fun old => Builtin.List.listUpdate (.ref S) (fun _ => #[]) >>= fun _ => letGo old.toList.reverse >>= fun _ => Builtin.List.listExtendWith (.ref S) (.ref I) .none) _ _ s
  refine wpAny_bind ?_
  unfold Builtin.List.listItems
  refine wpAny_bind (wpAny_seqItems hS rfl (wpAny_pure ?_))
  refine wpAny_bind (wpAny_updateSeq hS rfl ?_)
  have hS2 := Heap.get?_update_self (Obj.mapSeq (fun _ => (#[] : Array Value))) hS rfl
  have oth : ∀ b o, b ≠ S → s.heap.get? b = some o → (s.heap.update S (Obj.mapSeq (fun _ => (#[] : Array Value)))).get? b = some o := fun b o hb e => (Heap.get?_update_other _ _ (Ne.symm hb)).trans e
  refine wpAny_bind (wpAny_letGo ?_)
  refine extend_ok W hT S .none _ (W.frame 0 s _ s.toks hst (Nat.le_refl _) fun b hb o e => oth b o (fun h => hSf (h ▸ hb)) e) hSf hI hS2 (fun s' acc' c' hm hS' hacc => ?_) hn
  exact hR s' acc' c' (Moved.trans W.gtrans ((Moved.refl W.grefl).then_heap (Nat.le_refl _) fun b o hb e => oth b o (fun h => hb (h ▸ List.mem_cons_self)) e) hm) hS' hacc
theorem list_ok {Q : Value → Shared → Prop} (W : WalksS prog w A.in1.in1 I fp wr G n P St) (hT : ∀ i s, St i s → s.TypeIs (.ref I) "list_reverseiterator") (hst : St 0 s) (hfp : ∀ b ∈ fp, b < s.heap.objs.size) (hI : I ∈ fp)
    (hQ : ∀ s' acc' c', Moved (s.heap.objs.size :: wr) G { s with heap := s.heap.push { cls := .type "list", data := .seq #[] } } s' →
      s'.heap.get? s.heap.objs.size = some { cls := .type "list", dict := none, data := .seq acc' c', slots := #[] } → ItemsOf P acc' n → Q (.ref s.heap.objs.size) s') (hn : n ≤ sizeLine) :
    wpAny (model prog w) A (call (.type "list") [.ref I]) Q E s := by
  have hSf : s.heap.objs.size ∉ fp := fun hm => Nat.lt_irrefl _ (hfp _ hm)
  refine callType_codes (Q₁ := fun obj s₁ => obj = .ref s.heap.objs.size ∧ s₁ = { s with heap := s.heap.push { cls := .type "list", data := .seq #[] } }) F.called_list (F.typeCall_list_1 _) F.entry_list_init (code_list_new _ ⟨rfl, rfl⟩) fun obj s₁ h₁ => ?_
  obtain ⟨rfl, rfl⟩ := h₁
  have hS : (s.heap.push { cls := .type "list", data := .seq #[] }).get? s.heap.objs.size = some { cls := .type "list", data := .seq #[] } := Heap.get?_push_size _ rfl
  exact ⟨⟨_, hS, rfl⟩, F.args_list_init_2 _ _, init_ok W hT _ (W.frame 0 s _ s.toks hst (Nat.le_refl _) fun b _ o e => Heap.get?_push_of_some _ e) hSf hI hS (fun s' acc' c' hm hS' hacc => ⟨rfl, hQ s' acc' c' hm hS' hacc⟩) hn⟩
end
end Rev
namespace Add
open PySem PySem.Spec PyProof.Rows L2
/-! ### the rule of list(reversed(list)) -/
theorem boot_reversed : bootBuiltins "reversed" = some (.type "reversed") := by decide +kernel
theorem vals_snoc {xs : List V} {us : List Value} {x : V} {u : Value} (h : Vals xs us) (r : RelV x u) : Vals (xs ++ [x]) (us ++ [u]) := by
  induction h with
  | nil => exact .cons r .nil
  | cons r' _ ih => exact .cons r' ih
theorem vals_rev {xs : List V} {us : List Value} (h : Vals xs us) : Vals xs.reverse us.reverse := by
  induction h with
  | nil => exact .nil
  | cons r _ ih => rw [List.reverse_cons, List.reverse_cons]; exact vals_snoc ih r
theorem items_rev {its : List Value} {acc : Array Value} (h : ItemsOf (fun i v => its.toArray[its.toArray.size - 1 - i]? = some v) acc its.toArray.size) : acc = its.reverse.toArray := by
  obtain ⟨h1, h2⟩ := h
  have e : acc.toList = its.reverse := by
    refine List.ext_getElem? fun i => ?_
    have hs : acc.size = its.length := by rw [h1]; simp
    by_cases c : i < its.length
    · have hi : i < acc.size := by omega
      have hg : acc[i]? = some acc[i] := Array.getElem?_eq_getElem hi
      have := h2 i _ hg
      rw [Array.getElem?_toList, hg, ← this, List.getElem?_reverse c]
      simp
    · rw [List.getElem?_eq_none (by rw [Array.length_toList]; omega), List.getElem?_eq_none (by rw [List.length_reverse]; omega)]
  rw [← e]
section
variable {X : Cx}
noncomputable def tLR (K : PySem.W.Frag) (t : TA) : TE := fun σ H Q => t σ H fun vs H1 => ∃ l ys, vs = [.ref l] ∧ SqL K H1 l ys ∧ ∀ q, H1 q = none → Q (.ref q) (upd H1 q (.lst ys.reverse))
theorem pe_listRev {e : Expr} {t : TA} {p p2 pos pos2 : Pos} (hca : X.calm = true) (hgl : Gl X "list") (hml : X.mg "list" = none) (hgr : Gl X "reversed") (hmr : X.mg "reversed" = none) (hbl : bootBuiltins "list" = some (.type "list")) (ha : PA X [e] t)
    (he : starEach [e] X.env = (false, eval e X.env) :: starEach [] X.env := by rfl) : PE X (.Call (.Name "list" p) [.Call (.Name "reversed" p2) [e] [] pos2] [] pos) (tLR X.K t) := by
  intro pins s σ H Q I h
  refine wpAny_Call_Name_kw (ld_blt I hgl hml hbl ?_)
  refine PyProof.Rows.callWith_type1 ?_ rfl rfl
  show wpAny _ _ (spliced ((false, eval (.Call (.Name "reversed" p2) [e] [] pos2) X.env) :: [])) _ _ s
  refine Calls.spliced_cons ?_
  refine wpAny_Call_Name_kw (ld_blt I hgr hmr boot_reversed ?_)
  refine PyProof.Rows.callWith_type1 (thn (ha pos2 pins s σ H _ I h) fun us s1 ⟨vs, H1, I1, r1, q1⟩ => ?_) he rfl
  obtain ⟨l, ys, rfl, hq, q⟩ := q1
  obtain ⟨u, rfl, rx⟩ := vals1 r1
  cases rx
  obtain ⟨its, r', pl, hz⟩ := I1.list hq
  refine call_reversed_list pl.isList (Calls.spliced_nil ?_)
  have hl1 := pl.isList
  have hll : l < s1.heap.objs.size := by obtain ⟨o, ho, _⟩ := hl1; exact Heap.lt_size ho
  have hh : X.A.handled = none := I.ok.hd hca
  have W := (Walks.listRev (prog := X.prog) (w := X.w) (A := X.A.in1.in1) hh s1.heap.objs.size l (Nat.ne_of_lt hll) its.toArray).toS
  refine Rev.list_ok W (fun i s st => st.2.1.typeIs) ⟨Nat.zero_le _, ?_, hl1.at fun o e => Heap.get?_push_of_some _ e⟩ (fun b hb => ?_) (by simp) (fun s' acc' c' hm hS' hacc => ?_) ?_
  · refine ⟨_, Heap.get?_push_size _ rfl, rfl, ?_⟩
    rw [show ((its.toArray.size : Nat) : Int) - 1 - ((0 : Nat) : Int) = (its.toArray.size : Int) - 1 by omega]
    rfl
  · show b < (s1.heap.push _).objs.size
    rw [Heap.size_push]
    rcases List.mem_cons.mp hb with z | z
    · rw [z]; exact Nat.lt_succ_self _
    · rw [List.mem_singleton.mp z]; exact Nat.lt_succ_of_lt hll
  · have sz : (s1.heap.push (revObj l ((its.toArray.size : Int) - 1))).objs.size = s1.heap.objs.size + 1 := Heap.size_push _ _
    have kp : ∀ b o, s1.heap.get? b = some o → s'.heap.get? b = some o := fun b o e => by
      have hb := Heap.lt_size e
      refine hm.heap b o (fun z => ?_) (Heap.get?_push_of_some _ (Heap.get?_push_of_some _ e))
      rcases List.mem_cons.mp z with z | z
      · rw [z] at hb
        exact absurd hb (by show ¬ ((s1.heap.push (revObj l ((its.toArray.size : Int) - 1))).objs.size < s1.heap.objs.size); rw [sz]; exact Nat.not_lt_of_le (Nat.le_succ _))
      · rw [List.mem_singleton.mp z] at hb
        exact Nat.lt_irrefl _ hb
    have es : s' = { s1 with heap := s'.heap, toks := s'.toks } := by
      have g1 := hm.gens
      have g2 := hm.drawn
      have g3 := hm.os
      cases s'
      cases s1
      simp_all
    have le : s1.heap.objs.size ≤ (s1.heap.push (revObj l ((its.toArray.size : Int) - 1))).objs.size := by rw [sz]; exact Nat.le_succ _
    rw [items_rev hacc] at hS'
    have new : ObjOk X.prog X.w (upd H1 (s1.heap.push (revObj l ((its.toArray.size : Int) - 1))).objs.size (.lst ys.reverse)) s'.heap (s1.heap.push (revObj l ((its.toArray.size : Int) - 1))).objs.size (.lst ys.reverse) :=
      ⟨by rw [List.length_reverse]; exact hz, its.reverse, c', vals_rev r', hS'⟩
    have I3 := I1.laid (t' := s'.toks) kp le new
    rw [← es] at I3
    exact ⟨.ref _, _, I3, rfl, q _ (I1.hok.fresh le)⟩
  · have := r'.length
    simp only [List.size_toArray]
    omega
end
end Add

namespace Lay
/-! ### runs of days, and the word of a day by its place -/
end Lay

namespace Add
open PySem PySem.Spec PyProof.Rows L2
/-! ### comprehensions whose elements are new tuples -/
end Add

namespace Add
open PySem PySem.Spec PyProof.Rows L2
/-! ### C(e, .., k = v): an own class made with keywords -/
section
variable {X : Cx} {CX : CXT} {k : Nat} {f C : Addr} {fd : FuncData} {ps ks : List Str} {sp : Sp} {E : XK} {x : Str} {p pos : Pos} {e : Expr} {es : List Expr} {kws : List Keyword} {t tk : TA} {g : List Value → List Value → List Value} {gV : List V → List V → List V}
end
/-! ### != of lists whose items are lists alike, item by item: False -/
section
variable {X : Cx}
/-! ### (a, b, ..) = a list of that length -/
end
end Add

namespace Add
open PySem PySem.Spec PyProof.Rows L2
/-! ### xs += ys of lists; max of a list of ints; list(d) of a dict -/
section
variable {X : Cx}
noncomputable def ipL : TIp := fun x y H Q => ∃ l b xs zs, x = .ref l ∧ y = .ref b ∧ H l = some (.lst xs) ∧ H b = some (.lst zs) ∧ xs.length + zs.length ≤ sizeLine ∧ Q (.ref l) (upd H l (.lst (xs ++ zs)))
theorem fills_list_iadd : fillsInplaceSlot (.type "list") "add" (Operator.Add == .Add) = pure false := by
  unfold fillsInplaceSlot
  show (typeLookup (.type "list") (dunderI "add") >>= fun fi => pure (fi.isSome && !isSeqSlot fi)) = pure false
  rw [F.slot_list_iadd.lookup]
  rfl
theorem seq_list_iadd : seqSlot? (.type "list") (dunderI "add") = pure (some (.builtin "list.__iadd__")) := PySem.seqSlot_of F.slot_list_iadd.lookup (by decide +kernel)
theorem ip_ext : PIp X .Add ipL := by
  intro pins s σ H x y v u Q I rx ry h
  obtain ⟨l, b, xs, zs, rfl, rfl, hH, hB, hz, q⟩ := h
  cases rx
  cases ry
  obtain ⟨z, its, n, r, hl, e⟩ := I.lstM hH
  obtain ⟨z2, its2, n2, r2, hl2, e2⟩ := I.lstM hB
  have hsz : its.toArray.size + its2.toArray.size ≤ sizeLine := by rw [List.size_toArray, List.size_toArray]; omega
  have hlong : ¬ (!its.toArray.isEmpty && Builtin.List.listTooLong (its.toArray.size + its2.toArray.size)) = true := by
    rw [notLongL hsz, Bool.and_false]
    exact Bool.false_ne_true
  unfold inplaceOp
  refine wpAny_holding ?_
  have ta : s.TypeIs (.ref l) "list" := ⟨_, e, rfl⟩
  have tb : s.TypeIs (.ref b) "list" := ⟨_, e2, rfl⟩
  refine wpAny_bind (wpAny_typeOf ta (wpAny_bind (wpAny_of_eq fills_list_iadd ?_)))
  show wpAny _ _ (if false = true then _ else _) _ _ s
  rw [if_neg Bool.false_ne_true]
  refine wpAny_bind (wpAny_binaryOp1_none (nm := "add") ta tb noFill_list_add ?_)
  refine wpAny_bind (wpAny_of_eq seq_list_iadd ?_)
  refine wpAny_bind (wpAny_rule ?_)
  refine call_meets F.slot_list_iadd ta F.entry_list_iadd (F.args_list_iadd_2 _ _)
    (AutoSeq1.list___iadd___list_list_0 l its.toArray n b its2.toArray n2 hlong (by rw [List.size_toArray]; omega) (by omega)) ⟨e, e2, ?_⟩
  refine ⟨.ref l, _, I.lset (its' := its ++ its2) hH e (by simp) (r.append r2) ?_, rfl, q⟩
  rw [List.length_append]
  omega
theorem ints_items : ∀ {ns : List Int} {us : List Value}, Vals (ns.map V.int) us → ∃ xs : List (Int × Tok), us = xs.map (fun p => Value.int p.1 p.2) ∧ xs.map (·.1) = ns
  | [], _, .nil => ⟨[], rfl, rfl⟩
  | n :: ns, _, .cons ⟨t, e⟩ r => by
    obtain ⟨xs, e1, e2⟩ := ints_items r
    exact ⟨(n, t) :: xs, by rw [e, e1]; rfl, by rw [List.map_cons, e2]⟩
theorem call_maxL (hc : X.calm = true) : CallR X (.builtin "max") (fun xs H Q => ∃ (p : Addr) (ns : List Int), xs = [.ref p] ∧ SqL X.K H p (ns.map V.int) ∧ ns ≠ [] ∧ ∀ m ∈ ns, Q (.int m) H) := by
  intro pins s σ H xs us Q I r h
  obtain ⟨p, ns, rfl, hq, hne, q⟩ := h
  obtain ⟨u, rfl, rx⟩ := vals1 r
  cases rx
  obtain ⟨its, r', pl, hz⟩ := I.list hq
  obtain ⟨ps, e1, e2⟩ := ints_items r'
  have hl := pl.isList
  have ei : its.toArray = intItems ps.toArray := by rw [e1]; simp [intItems]
  rw [ei] at hl
  refine max_intList (I.ok.hd hc) hl ?_ fun v h' tk hv kp => ?_
  · rw [List.size_toArray]
    refine Nat.pos_of_ne_zero fun z => hne ?_
    rw [← e2, List.eq_nil_of_length_eq_zero z]
    rfl
  · have hm : v ∈ (intItems ps.toArray).toList := by
      rw [← Array.getElem?_toList] at hv
      exact List.mem_of_getElem? hv
    rw [← ei, List.toList_toArray, e1] at hm
    obtain ⟨c, hc', rfl⟩ := List.mem_map.mp hm
    exact ⟨.int c.1, H, I.kept kp, ⟨_, rfl⟩, q c.1 (by rw [← e2]; exact List.mem_map.mpr ⟨c, hc', rfl⟩)⟩
theorem paired_of {α β : Type} {F : α → β → Prop} : ∀ {l : List α} {m : List β}, l.length = m.length → (∀ (j : Nat) (x : α) (u : β), l[j]? = some x → m[j]? = some u → F x u) → Paired F l m
  | [], [], _, _ => .nil
  | x :: l, u :: m, h, f => .cons (f 0 x u rfl rfl) (paired_of (Nat.succ.inj h) fun j y v hy hv => f (j + 1) y v hy hv)
theorem is_kV {P : Program} {w : World} {k : Key} {u : Value} (h : (mixKind P w).is k u = true) : RelV (kV k) u := by
  cases k with
  | inl i => exact Value.isInt_shape h
  | inr x => exact Value.isStrOf_shape h
theorem call_listD (hc : X.calm = true) : CallR X (.type "list") (fun xs H Q => ∃ (d : Addr) (kvs : List (Key × V)), xs = [.ref d] ∧ H d = some (.dK kvs) ∧ ∀ l, H l = none → Q (.ref l) (upd H l (.lst (kvs.map fun kv => kV kv.1)))) := by
  intro pins s σ H xs us Q I r h
  obtain ⟨d, kvs, rfl, hd, q⟩ := h
  obtain ⟨u, rfl, rx⟩ := vals1 r
  cases rx
  obtain ⟨z, lo, vs, kv, hD⟩ := dk_of I.hok hd
  obtain ⟨ep, hat⟩ := hD.dictAt
  refine PySem.W.kdl_call (PySem.W.kdl_dict (knd := mixKind X.prog X.w) (kvs := vs) (ep := ep) lo) (I.ok.hd hc) hat (by rw [← kv.length]; exact z) fun h' tk acc c kp e ia => ?_
  have rv : Vals (kvs.map fun kv => kV kv.1) acc.toList := by
    have hl : (kvs.map fun kv => kV kv.1).length = acc.toList.length := (List.length_map _).trans (kv.length.trans (ia.1.symm.trans Array.length_toList.symm))
    refine paired_of hl fun j x u hx hu => ?_
    obtain ⟨k, y, hk, hi⟩ := ia.2 j u (by rw [← Array.getElem?_toList]; exact hu)
    rw [List.getElem?_map] at hx
    have ek := congrArg (·[j]?) kv.keys
    simp only [List.getElem?_map, hk, Option.map_some] at ek
    cases ej : kvs[j]? with
    | none => rw [ej] at hx; cases hx
    | some p =>
      rw [ej] at hx ek
      cases hx
      cases Option.some.inj ek
      exact is_kV hi
  exact ⟨.ref s.heap.objs.size, _, I.laid (t' := tk) kp (Nat.le_refl _) (show ObjOk X.prog X.w _ h' _ (.lst (kvs.map fun kv => kV kv.1)) from ⟨by rw [List.length_map]; exact z, acc.toList, c, rv, by simpa using e⟩), rfl, q _ (I.hok.fresh (Nat.le_refl _))⟩
end
/-! ### comprehensions whose elements are new objects -/
/-- all but lists stays -/
noncomputable def KeepN (H H' : Hp) : Prop := ∀ b o, (∀ l, o ≠ .lst l) → H b = some o → H' b = some o
theorem KeepN.of {H H' : Hp} (s : Same H H') : KeepN H H' := fun b o _ e => s b o e
theorem KeepN.trans {H H1 H2 : Hp} (a : KeepN H H1) (b : KeepN H1 H2) : KeepN H H2 := fun c o n e => b c o n (a c o n e)
theorem KeepN.upd {H : Hp} {p : Addr} {xs : List V} {o : HO} (h : H p = some (.lst xs)) : KeepN H (L2.upd H p o) := fun b u n e => by
  rw [upd_ne (fun z => by rw [z, h] at e; cases e; exact n _ rfl)]
  exact e
theorem comp_rel {js : List (Option Nat)} {g : TG} {te : TE} {J : It} {σ : L2.St} {H : Hp} {Q : VK} {xs : List V} (R : V → V → Hp → Prop) (Rk : ∀ x y H H', KeepN H H' → R x y H → R x y H') (Sv : L2.St → Prop) (F : Feeds J H xs) (hz : xs.length ≤ sizeLine) (h0 : Sv (compSt js σ))
    (step : ∀ (x : V) (σ' : L2.St) (H' : Hp) (RR : L2.St → VK), x ∈ xs → Same H H' → Sv σ' → (∀ σ3 y H5, Sv σ3 → Same H' H5 → R x y H5 → RR σ3 y H5) → g x σ' H' fun σ3 H3 => te σ3 H3 (RR σ3))
    (gk : ∀ (x : V) (σ' : L2.St) (H' : Hp) (R R' : L2.St → Hp → Prop), (∀ σ3 H3, R σ3 H3 → R' σ3 H3) → g x σ' H' R → g x σ' H' R')
    (fin : ∀ p H' ys, H p = none → Same H H' → H' p = some (.lst ys) → ys.length = xs.length → (∀ (j : Nat) (x y : V), xs[j]? = some x → ys[j]? = some y → R x y H') → Q (.ref p) H') :
    tCompR js g tNoIf te σ Q J H := by
  intro p hp
  refine ⟨fun i m σ' H' => m = xs.length - i ∧ i ≤ xs.length ∧ Sv σ' ∧ Same H H' ∧ ∃ ys, H' p = some (.lst ys) ∧ ys.length = i ∧ ∀ (j : Nat) (x y : V), xs[j]? = some x → ys[j]? = some y → R x y H', ⟨xs.length, by simp, Nat.zero_le _, h0, same_add (Same.refl H) hp, [], upd_same, rfl, fun j x y _ hy => by cases hy⟩, ?_⟩
  rintro i m σ' H' ⟨rfl, hi, hv, sm, us, hh, hl, tt⟩
  obtain ⟨F1, F2⟩ := F _ sm
  by_cases hlt : i < xs.length
  · have ex : xs[i]? = some xs[i] := by simp [hlt]
    obtain ⟨go, yl⟩ := F1 i _ ex
    refine .inr ⟨go, fun σ2 H2 => Sv σ2 ∧ Same H H2 ∧ ∃ ys, H2 p = some (.lst ys) ∧ ys.length = i + 1 ∧ ∀ (j : Nat) (x y : V), xs[j]? = some x → ys[j]? = some y → R x y H2, fun σ2 H2 ⟨a, b, c⟩ => ⟨xs.length - (i + 1), by omega, rfl, hlt, a, b, c⟩, fun x H2 hy => ?_⟩
    obtain ⟨rfl, rfl⟩ := yl x H2 hy
    refine gk _ _ _ _ _ (fun σ3 H3 z => ?_) (step xs[i] σ' _ (fun σ3 v H5 => ∃ ys, H5 p = some (.lst ys) ∧ ys.length < sizeLine ∧ (Sv σ3 ∧ Same H (upd H5 p (.lst (ys ++ [v]))) ∧ ∃ us, upd H5 p (.lst (ys ++ [v])) p = some (.lst us) ∧ us.length = i + 1 ∧ ∀ (j : Nat) (x y : V), xs[j]? = some x → us[j]? = some y → R x y (upd H5 p (.lst (ys ++ [v]))))) (List.getElem_mem hlt) sm hv fun σ3 q H5 hs3 s5 hq => ?_)
    · exact z
    · have k5 := KeepN.upd (o := .lst (us ++ [q])) (s5 _ _ hh)
      refine ⟨_, s5 _ _ hh, ?_, hs3, same_add (sm.trans s5) hp, _, upd_same, ?_, fun j x y hx hyy => ?_⟩
      · omega
      · rw [List.length_append, hl]; rfl
      · by_cases hj : j < us.length
        · rw [List.getElem?_append_left hj] at hyy
          exact Rk _ _ _ _ ((KeepN.of s5).trans k5) (tt j x y hx hyy)
        · rw [List.getElem?_append_right (Nat.not_lt.mp hj)] at hyy
          have ej : j = i := by
            have := (List.getElem?_eq_some_iff.mp hyy).1
            simp at this
            omega
          subst ej
          rw [hl, Nat.sub_self] at hyy
          rw [ex] at hx
          cases hx
          cases hyy
          exact Rk _ _ _ _ k5 hq
  · have e : i = xs.length := by omega
    subst e
    exact .inl ⟨F2, fin p _ us hp sm hh hl tt⟩
theorem call_isiC {X : Cx} {K : PySem.W.Frag} (h : X.K = K) : CallR X (.builtin "isinstance") (fun xs H Q => ∃ x t c b, xs = [x, .ty c] ∧ TyOf K H x t ∧ PySem.W.kitOne K t (.type c) = some b ∧ Q (.bl b) H) := by subst h; exact call_isi
end Add


namespace K46
open PySem L2 Add
/-! the text by places -/
noncomputable def top (i : Nat) : Stmt := PySem.Challenge.pw_termcourt_k46_order_of_hanging.main.body.getD i (.Pass ⟨0, 0, 0, 0⟩)
noncomputable abbrev sUntaken : Stmt := top 7
noncomputable abbrev sHangingOrder : Stmt := top 6
noncomputable abbrev sLawCellAt : Stmt := top 13
noncomputable abbrev sLawWords : Stmt := top 14
noncomputable abbrev sLawBases : Stmt := top 15
noncomputable abbrev sLawDue : Stmt := top 16
noncomputable abbrev sLawTexts : Stmt := top 17
noncomputable abbrev sRuleInit : Stmt := inClass (top 9) 0
noncomputable abbrev sLawRule : Stmt := top 18
noncomputable abbrev sBookInit : Stmt := inClass (top 11) 0
noncomputable abbrev sBookHanging : Stmt := inClass (top 11) 2
noncomputable abbrev sBookTermNames : Stmt := inClass (top 11) 1
noncomputable abbrev sBookRuleOf : Stmt := inClass (top 11) 3
noncomputable abbrev sLaw : Stmt := top 19
structure DefAt (K : PySem.W.Frag) (mg : Str → Option Value) (x : Str) (st : Stmt) (ps : List Str) (f : Addr) (fd : FuncData) : Prop where
  fn : Fun K x x st f fd
  mgx : mg x = some (.ref f)
  bd : Binds K fd ps []
set_option genInjectivity false
set_option genSizeOf false
set_option genSizeOfSpec false
structure Adr where
  fUntaken : Addr
  gUntaken : FuncData
  fHangingOrder : Addr
  gHangingOrder : FuncData
  fLawCellAt : Addr
  gLawCellAt : FuncData
  fLawWords : Addr
  gLawWords : FuncData
  fLawBases : Addr
  gLawBases : FuncData
  fLawDue : Addr
  gLawDue : FuncData
  fLawTexts : Addr
  gLawTexts : FuncData
  fRuleInit : Addr
  gRuleInit : FuncData
  fLawRule : Addr
  gLawRule : FuncData
  fBookInit : Addr
  gBookInit : FuncData
  fBookHanging : Addr
  gBookHanging : FuncData
  fBookTermNames : Addr
  gBookTermNames : FuncData
  fBookRuleOf : Addr
  gBookRuleOf : FuncData
  fLaw : Addr
  gLaw : FuncData
  cBook : Addr
  cRule : Addr
structure Txt (K : PySem.W.Frag) (mg : Str → Option Value) (a : Adr) : Prop where
  dUntaken : DefAt K mg "untaken" sUntaken ["name", "bases", "taken"] a.fUntaken a.gUntaken
  dHangingOrder : DefAt K mg "hanging_order" sHangingOrder ["rules"] a.fHangingOrder a.gHangingOrder
  dLawCellAt : DefAt K mg "_law_cell_at" sLawCellAt ["_law_script", "_law_k"] a.fLawCellAt a.gLawCellAt
  dLawWords : DefAt K mg "_law_words" sLawWords ["_law_cell", "_law_many"] a.fLawWords a.gLawWords
  dLawBases : DefAt K mg "_law_bases" sLawBases ["_law_script", "_law_many"] a.fLawBases a.gLawBases
  dLawDue : DefAt K mg "_law_due" sLawDue ["_law_names", "_law_bases_here"] a.fLawDue a.gLawDue
  dLawTexts : DefAt K mg "_law_texts" sLawTexts ["_law_found", "_law_due_here"] a.fLawTexts a.gLawTexts
  dRuleInit : MethD K "__init__" "Rule.__init__" sRuleInit ["self", "name", "who", "owes", "opens", "base", "many", "unit", "still"] a.fRuleInit a.gRuleInit
  dLawRule : DefAt K mg "_law_rule" sLawRule ["_law_names", "_law_bases_here", "_law_k"] a.fLawRule a.gLawRule
  dBookInit : MethAt K "__init__" "Book.__init__" sBookInit ["self", "rules"] a.fBookInit a.gBookInit
  dBookHanging : MethAt K "hanging" "Book.hanging" sBookHanging ["self"] a.fBookHanging a.gBookHanging
  dBookTermNames : MethAt K "term_names" "Book.term_names" sBookTermNames ["self"] a.fBookTermNames a.gBookTermNames
  dBookRuleOf : MethAt K "rule_of" "Book.rule_of" sBookRuleOf ["self", "name"] a.fBookRuleOf a.gBookRuleOf
  dLaw : DefAt K mg "law" sLaw ["_law_script"] a.fLaw a.gLaw
  e_RuleInit_8 : Binds K a.gRuleInit ["self", "name", "who", "owes", "opens", "base", "many", "unit", "still"] [.none]
  m_Book : mg "Book" = some (.ref a.cBook)
  c_Book : Cls K a.cBook
  k_Book : Mk K a.cBook a.fBookInit
  n_Book : xNo K a.cBook ["name", "who", "owes", "opens", "base", "many", "unit", "still", "ends", "anew", "longer", "yields", "order", "by_name"] = true
  t_dBookHanging : Meth K a.cBook "hanging" a.fBookHanging
  t_dBookTermNames : Meth K a.cBook "term_names" a.fBookTermNames
  t_dBookRuleOf : Meth K a.cBook "rule_of" a.fBookRuleOf
  m_Rule : mg "Rule" = some (.ref a.cRule)
  c_Rule : Cls K a.cRule
  k_Rule : Mk K a.cRule a.fRuleInit
  n_Rule : xNo K a.cRule ["name", "who", "owes", "opens", "base", "many", "unit", "still", "ends", "anew", "longer", "yields", "order", "by_name"] = true
  n_all : mg "all" = none
  n_isinstance : mg "isinstance" = none
  n_len : mg "len" = none
  n_list : mg "list" = none
  n_max : mg "max" = none
  n_range : mg "range" = none
  n_reversed : mg "reversed" = none
  n_str : mg "str" = none
theorem boot_all : bootBuiltins "all" = some (.builtin "all") := by decide +kernel
theorem boot_isinstance : bootBuiltins "isinstance" = some (.builtin "isinstance") := by decide +kernel
theorem boot_len : bootBuiltins "len" = some (.builtin "len") := by decide +kernel
theorem boot_list : bootBuiltins "list" = some (.type "list") := by decide +kernel
theorem boot_max : bootBuiltins "max" = some (.builtin "max") := by decide +kernel
theorem boot_str : bootBuiltins "str" = some (.type "str") := by decide +kernel
theorem scUntaken : FnScope ["name", "bases", "taken", "path", "above"] ["name", "bases", "taken"] (defScope sUntaken) := ⟨rfl, rfl, rfl, by decide +kernel, rfl, by decide +kernel, by decide +kernel⟩
theorem scHangingOrder : FnScope ["rules", "bases", "rule", "taken"] ["rules"] (defScope sHangingOrder) := ⟨rfl, rfl, rfl, by decide +kernel, rfl, by decide +kernel, by decide +kernel⟩
theorem scLawCellAt : FnScope ["_law_script", "_law_k"] ["_law_script", "_law_k"] (defScope sLawCellAt) := ⟨rfl, rfl, rfl, by decide +kernel, rfl, by decide +kernel, by decide +kernel⟩
theorem scLawWords : FnScope ["_law_cell", "_law_many", "_law_some", "_law_size", "_law_at", "_law_primes", "_law_stem", "_law_k", "_law_words_here", "_law_turn", "_law_word"] ["_law_cell", "_law_many"] (defScope sLawWords) := ⟨rfl, rfl, rfl, by decide +kernel, rfl, by decide +kernel, by decide +kernel⟩
theorem scLawBases : FnScope ["_law_script", "_law_many", "_law_turn", "_law_ranks", "_law_bases_here", "_law_k", "_law_cell", "_law_below", "_law_least"] ["_law_script", "_law_many"] (defScope sLawBases) := ⟨rfl, rfl, rfl, by decide +kernel, rfl, by decide +kernel, by decide +kernel⟩
theorem scLawDue : FnScope ["_law_names", "_law_bases_here", "_law_due_here", "_law_k", "_law_above", "_law_at"] ["_law_names", "_law_bases_here"] (defScope sLawDue) := ⟨rfl, rfl, rfl, by decide +kernel, rfl, by decide +kernel, by decide +kernel⟩
theorem scLawTexts : FnScope ["_law_found", "_law_due_here"] ["_law_found", "_law_due_here"] (defScope sLawTexts) := ⟨rfl, rfl, rfl, by decide +kernel, rfl, by decide +kernel, by decide +kernel⟩
theorem scRuleInit : FnScope ["self", "name", "who", "owes", "opens", "base", "many", "unit", "still"] ["self", "name", "who", "owes", "opens", "base", "many", "unit", "still"] (defScope sRuleInit) := ⟨rfl, rfl, rfl, by decide +kernel, rfl, by decide +kernel, by decide +kernel⟩
theorem scLawRule : FnScope ["_law_names", "_law_bases_here", "_law_k"] ["_law_names", "_law_bases_here", "_law_k"] (defScope sLawRule) := ⟨rfl, rfl, rfl, by decide +kernel, rfl, by decide +kernel, by decide +kernel⟩
theorem scBookInit : FnScope ["self", "rules", "rule"] ["self", "rules"] (defScope sBookInit) := ⟨rfl, rfl, rfl, by decide +kernel, rfl, by decide +kernel, by decide +kernel⟩
theorem scBookHanging : FnScope ["self"] ["self"] (defScope sBookHanging) := ⟨rfl, rfl, rfl, by decide +kernel, rfl, by decide +kernel, by decide +kernel⟩
theorem scBookTermNames : FnScope ["self"] ["self"] (defScope sBookTermNames) := ⟨rfl, rfl, rfl, by decide +kernel, rfl, by decide +kernel, by decide +kernel⟩
theorem scBookRuleOf : FnScope ["self", "name"] ["self", "name"] (defScope sBookRuleOf) := ⟨rfl, rfl, rfl, by decide +kernel, rfl, by decide +kernel, by decide +kernel⟩
theorem scLaw : FnScope ["_law_script", "_law_many", "_law_names", "_law_bases_here", "_law_due_here", "_law_rules", "_law_handed", "_law_found", "_law_book", "_law_told", "_law_names_told", "_law_k"] ["_law_script"] (defScope sLaw) := ⟨rfl, rfl, rfl, by decide +kernel, rfl, by decide +kernel, by decide +kernel⟩

seal PySem.Sem.wp

open Add Lay Mrg Tab
theorem iteD {c A B : Prop} [Decidable c] (hc : c) (h : A) : if decide c = true then A else B := by rw [if_pos (decide_eq_true hc)]; exact h
theorem iteDn {c A B : Prop} [Decidable c] (hc : ¬ c) (h : B) : if decide c = true then A else B := by rw [decide_eq_false hc]; exact h
theorem iteND {c A B : Prop} [Decidable c] (hc : c) (h : B) : if (!decide c) = true then A else B := by rw [decide_eq_true hc]; exact h
theorem same_upd {H : Hp} {p : Addr} {o : HO} (hp : H p = none) : Same H (upd H p o) := fun b u e => by rw [upd_ne (ne_of_none e hp)]; exact e
theorem fits {n : Nat} (h : n ≤ 100000) : n ≤ sizeLine := by rw [sizeLine_eq]; omega
theorem lt1000 {xs : List V} (h : xs.length ≤ 90000) : xs.length < sizeLine := by rw [sizeLine_eq]; omega
theorem fit0 : ([] : List V).length ≤ sizeLine := fits (by decide)
theorem atI_of {vs : List V} {k : Int} {j : Nat} {v : V} (h : vs[j]? = some v) (e : k = (j : Int)) : atI vs k = some v := by rw [e]; exact atI_nat h
theorem iteNN {c A B : Prop} [Decidable c] (hc : ¬ c) (h : A) : if (!decide c) = true then A else B := by rw [decide_eq_false hc]; exact h
noncomputable def cell (ns : List Int) (k : Int) : Int := ns.getD k.toNat 0
theorem atI_cell {ns : List Int} {k : Int} (h0 : 0 ≤ k) (h : k < ((ns.map V.int).length : Int)) : atI (ns.map V.int) k = some (V.int (cell ns k)) := by
  rw [List.length_map] at h
  have hk : k.toNat < ns.length := (Int.toNat_lt h0).mpr h
  refine atI_of (j := k.toNat) ?_ (Int.toNat_of_nonneg h0).symm
  rw [List.getElem?_map, List.getElem?_eq_getElem hk]
  unfold cell
  rw [List.getD_eq_getElem?_getD, List.getElem?_eq_getElem hk]
  rfl
theorem cell_out {ns : List Int} {k : Int} (h : ¬ k < ((ns.map V.int).length : Int)) : cell ns k = 0 := by
  rw [List.length_map] at h
  unfold cell
  rw [List.getD_eq_getElem?_getD, List.getElem?_eq_none (Int.ofNat_le.mp (Int.le_trans (Int.not_lt.mp h) (Int.self_le_toNat k)))]
  rfl
noncomputable def spCell (K : PySem.W.Frag) : Sp := fun vs H Q _ => ∃ (a : Addr) (ns : List Int) (k : Int), vs = [.ref a, .int k] ∧ SqL K H a (ns.map V.int) ∧ 0 ≤ k ∧ Q (.int (cell ns k)) H

theorem inV_strs (x : Str) (xs : List Str) : inV (.str x) (xs.map V.str) = xs.contains x := by
  unfold inV
  rw [List.any_map, List.contains_eq_any_beq]
  congr 1
  funext y
  show (y == x) = (x == y)
  rw [Bool.eq_iff_iff, beq_iff_eq, beq_iff_eq]
  exact eq_comm
theorem flat_strs (xs : List Str) : (xs.map V.str).all flatV = true := by rw [List.all_map]; exact List.all_eq_true.mpr fun _ _ => rfl
/-- names, and the term that each hangs on -/
structure Wd (nms : List Str) (bs : List (Option Nat)) (rk : Nat → Nat) : Prop where
  nd : nms.Nodup
  len : bs.length = nms.length
  sm : nms.length ≤ 6
  ok : ∀ (k b : Nat), bs[k]? = some (some b) → b < nms.length ∧ rk b < rk k
  lo : ∀ k, rk k < 7
noncomputable def nm (nms : List Str) (k : Nat) : Str := nms.getD k Str.empty
noncomputable def bo (bs : List (Option Nat)) (k : Nat) : Option Nat := bs.getD k none
noncomputable def upW (nms : List Str) (bs : List (Option Nat)) (tk : List Str) : Nat → Nat → List Str
  | 0, _ => []
  | f + 1, k => if nm nms k ∈ tk then [] else nm nms k :: (match bo bs k with | some b => upW nms bs tk f b | none => [])
noncomputable def ordW (nms : List Str) (bs : List (Option Nat)) (i : Nat) : List Str := (List.range i).foldl (fun tk k => tk ++ (upW nms bs tk 7 k).reverse) []
theorem ordW_succ (nms : List Str) (bs : List (Option Nat)) (i : Nat) : ordW nms bs (i + 1) = ordW nms bs i ++ (upW nms bs (ordW nms bs i) 7 i).reverse := by
  unfold ordW
  rw [List.range_succ, List.foldl_append]
  rfl
theorem upW_len (nms : List Str) (bs : List (Option Nat)) (tk : List Str) : ∀ f k, (upW nms bs tk f k).length ≤ f
  | 0, _ => Nat.le_refl _
  | f + 1, k => by
    unfold upW
    split
    · exact Nat.zero_le _
    · rw [List.length_cons]
      cases bo bs k with
      | none => exact Nat.succ_le_succ (Nat.zero_le _)
      | some b => exact Nat.succ_le_succ (upW_len nms bs tk f b)
theorem ordW_len (nms : List Str) (bs : List (Option Nat)) (i : Nat) : (ordW nms bs i).length ≤ 7 * i := by
  induction i with
  | zero => exact Nat.le_refl _
  | succ i ih =>
    rw [ordW_succ, List.length_append, List.length_reverse]
    have := upW_len nms bs (ordW nms bs i) 7 i
    omega
theorem nm_at {nms : List Str} {k : Nat} (h : k < nms.length) : nms[k]? = some (nm nms k) := by
  unfold nm
  rw [List.getD_eq_getElem?_getD, List.getElem?_eq_getElem h]
  rfl
theorem bo_at {bs : List (Option Nat)} {k : Nat} (h : k < bs.length) : bs[k]? = some (bo bs k) := by
  unfold bo
  rw [List.getD_eq_getElem?_getD, List.getElem?_eq_getElem h]
  rfl
theorem nm_inj {nms : List Str} (nd : nms.Nodup) {j k : Nat} (hj : j < nms.length) (hk : k < nms.length) (e : nm nms j = nm nms k) : j = k := by
  have a := nm_at hj
  rw [e, ← nm_at hk] at a
  exact (List.getElem?_inj hj nd).mp a
noncomputable def encO : Option Nat → V
  | none => .non
  | some b => .int (b : Int)
noncomputable def encN (nms : List Str) : Option Nat → V
  | none => .non
  | some b => .str (nm nms b)
noncomputable def DicOk (kvs : List (Key × V)) (nms : List Str) (bs : List (Option Nat)) : Prop := ∀ k < nms.length, valV kvs (.inr (nm nms k)) = some (encN nms (bo bs k))
noncomputable def spUnt : Sp := fun vs H Q _ => ∃ (x : Str) (d t : Addr) (kvs : List (Key × V)) (nms : List Str) (bs : List (Option Nat)) (rk : Nat → Nat) (tk : List Str) (k : Nat), vs = [.str x, .ref d, .ref t] ∧ H d = some (.dK kvs) ∧ H t = some (.lst (tk.map V.str)) ∧ Wd nms bs rk ∧ k < nms.length ∧ x = nm nms k ∧ DicOk kvs nms bs ∧
  ∀ (q : Addr) (H' : Hp), H q = none → Same H H' → H' q = some (.lst ((upW nms bs tk 7 k).map V.str)) → Q (.ref q) H'
noncomputable def spDue : Sp := fun vs H Q _ => ∃ (pn pb : Addr) (nms : List Str) (bs : List (Option Nat)) (rk : Nat → Nat), vs = [.ref pn, .ref pb] ∧ H pn = some (.lst (nms.map V.str)) ∧ H pb = some (.lst (bs.map encO)) ∧ Wd nms bs rk ∧
  ∀ (q : Addr) (H' : Hp), H q = none → Same H H' → H' q = some (.lst ((ordW nms bs nms.length).map V.str)) → Q (.ref q) H'
noncomputable def spTexts : Sp := fun vs H Q _ => ∃ (p q : Addr) (xs : List Str), vs = [.ref p, .ref q] ∧ H p = some (.lst (xs.map V.str)) ∧ H q = some (.lst (xs.map V.str)) ∧ xs.length ≤ 100 ∧ ∀ H', Same H H' → Q (.bl true) H'

/-- all but x stays -/
noncomputable def SameBut (x : Addr) (H H' : Hp) : Prop := ∀ b o, b ≠ x → H b = some o → H' b = some o
theorem SameBut.of {x : Addr} {H H' : Hp} (s : Same H H') : SameBut x H H' := fun b o _ e => s b o e
theorem SameBut.trans {x : Addr} {H H1 H2 : Hp} (a : SameBut x H H1) (b : SameBut x H1 H2) : SameBut x H H2 := fun c o n e => b c o n (a c o n e)
theorem SameBut.set {x : Addr} {H H' : Hp} {o : HO} (a : SameBut x H H') : SameBut x H (upd H' x o) := fun b u n e => by rw [upd_ne n]; exact a b u n e
theorem SameBut.made {x dx : Addr} {H H' : Hp} {o u : HO} (a : SameBut x (upd (upd H dx u) x o) H') (hx : H x = none) (hd : H dx = none) : Same H H' := fun b v e =>
  a b v (ne_of_none e hx) (by rw [upd_ne (ne_of_none e hx), upd_ne (ne_of_none e hd)]; exact e)
theorem SameBut.free {x q : Addr} {H H' : Hp} (b : SameBut x H H') (n : q ≠ x) (h : H' q = none) : H q = none := by
  cases e : H q with
  | none => rfl
  | some o => rw [b q o n e] at h; cases h
/-- a rule's object: name, base, many -/
noncomputable def RuleAt (C : Addr) (H : Hp) (v : V) (x : Str) (b : V) (m : Int) : Prop := ∃ (p dx : Addr) (fs : List (Str × V)), v = .ref p ∧ H p = some (.ins C dx fs) ∧ fs.lookup (Str.ofString "name") = some (.str x) ∧ fs.lookup (Str.ofString "base") = some b ∧ fs.lookup (Str.ofString "many") = some (.int m)
theorem RuleAt.keep {C : Addr} {H H' : Hp} {v : V} {x : Str} {b : V} {m : Int} (h : RuleAt C H v x b m) (k : KeepN H H') : RuleAt C H' v x b m := by
  obtain ⟨p, dx, fs, e, h1, h2⟩ := h
  exact ⟨p, dx, fs, e, k _ _ (fun l z => by cases z) h1, h2⟩
theorem RuleAt.same {C : Addr} {H H' : Hp} {v : V} {x : Str} {b : V} {m : Int} (h : RuleAt C H v x b m) (s : Same H H') : RuleAt C H' v x b m := h.keep (KeepN.of s)
theorem lk_same (f : Str) (v : V) (fs : List (Str × V)) : (putF f v fs).lookup f = some v := (lookup_putF f f v fs).trans (if_pos rfl)
theorem lk_ne {f g : Str} (v : V) {fs : List (Str × V)} {o : Option V} (n : g ≠ f) (h : fs.lookup g = o) : (putF f v fs).lookup g = o := ((lookup_putF f g v fs).trans (if_neg n)).trans h
theorem ln_put {f : Str} {v : V} {fs : List (Str × V)} {n : Nat} (h : fs.length ≤ n) : (putF f v fs).length ≤ n + 1 := Nat.le_trans (length_putF f v fs) (Nat.succ_le_succ h)
noncomputable def spRInit (a : Adr) : Sp := fun vs H Q _ => ∃ (x dx : Addr) (nx : Str) (w o op b : V) (m : Int) (u s : V), vs = [.ref x, .str nx, w, o, op, b, .int m, u, s] ∧ H x = some (.ins a.cRule dx []) ∧
  ∀ H' fs, SameBut x H H' → H' x = some (.ins a.cRule dx fs) → fs.lookup (Str.ofString "name") = some (.str nx) → fs.lookup (Str.ofString "base") = some b → fs.lookup (Str.ofString "many") = some (.int m) → Q .non H'
noncomputable def Rules (C : Addr) (H : Hp) (us : List V) (nms : List Str) (bs : List (Option Nat)) : Prop := us.length = nms.length ∧ ∀ (j : Nat) (y : V), us[j]? = some y → RuleAt C H y (nm nms j) (encN nms (bo bs j)) (1 + (j : Int))
theorem Rules.keep {C : Addr} {H H' : Hp} {us : List V} {nms : List Str} {bs : List (Option Nat)} (h : Rules C H us nms bs) (k : KeepN H H') : Rules C H' us nms bs := ⟨h.1, fun j y e => (h.2 j y e).keep k⟩
theorem Rules.same {C : Addr} {H H' : Hp} {us : List V} {nms : List Str} {bs : List (Option Nat)} (h : Rules C H us nms bs) (s : Same H H') : Rules C H' us nms bs := h.keep (KeepN.of s)
noncomputable def spHang (a : Adr) : Sp := fun vs H Q _ => ∃ (pr : Addr) (us : List V) (nms : List Str) (bs : List (Option Nat)) (rk : Nat → Nat), vs = [.ref pr] ∧ H pr = some (.lst us) ∧ Rules a.cRule H us nms bs ∧ Wd nms bs rk ∧
  ∀ (q : Addr) (H' : Hp), H q = none → Same H H' → H' q = some (.lst ((ordW nms bs nms.length).map V.str)) → Q (.ref q) H'
theorem dic_put {kvs : List (Key × V)} {nms : List Str} {bs : List (Option Nat)} {i : Nat} (nd : nms.Nodup) (hi : i < nms.length) (h : ∀ k < i, valV kvs (.inr (nm nms k)) = some (encN nms (bo bs k))) : ∀ k < i + 1, valV (putK kvs (.inr (nm nms i)) (encN nms (bo bs i))) (.inr (nm nms k)) = some (encN nms (bo bs k)) := fun k hk => by
  rw [valV_put]
  by_cases e : k = i
  · subst e
    rw [if_pos rfl]
  · rw [if_neg (fun z => e (nm_inj nd (by omega) hi (Sum.inr.inj z)))]
    exact h k (by omega)
theorem up_take {nms : List Str} {bs : List (Option Nat)} {tk : List Str} {f k : Nat} (h : ¬ nm nms k ∈ tk) : upW nms bs tk (f + 1) k = nm nms k :: (match bo bs k with | some b => upW nms bs tk f b | none => []) := by
  show (if nm nms k ∈ tk then [] else _) = _
  rw [if_neg h]
theorem up_stop {nms : List Str} {bs : List (Option Nat)} {tk : List Str} {f k : Nat} (h : nm nms k ∈ tk) : upW nms bs tk f k = [] := by
  cases f with
  | zero => rfl
  | succ f =>
    show (if nm nms k ∈ tk then [] else _) = _
    rw [if_pos h]

theorem nmV {nms : List Str} {k : Nat} (h : k < nms.length) : (nms.map V.str)[k]? = some (.str (nm nms k)) := by rw [List.getElem?_map, nm_at h]; rfl
theorem boV {bs : List (Option Nat)} {k : Nat} (h : k < bs.length) : (bs.map encO)[k]? = some (encO (bo bs k)) := by rw [List.getElem?_map, bo_at h]; rfl
theorem rb {n : Nat} (h : n ≤ 1000) : -2 ^ 62 ≤ (n : Int) ∧ (n : Int) < 2 ^ 62 := by omega

noncomputable def spRule (a : Adr) : Sp := fun vs H Q _ => ∃ (pn pb : Addr) (nms : List Str) (bs : List (Option Nat)) (rk : Nat → Nat) (k : Nat), vs = [.ref pn, .ref pb, .int (k : Int)] ∧ H pn = some (.lst (nms.map V.str)) ∧ H pb = some (.lst (bs.map encO)) ∧ Wd nms bs rk ∧ k < nms.length ∧
  ∀ (x : Addr) (H' : Hp), Same H H' → RuleAt a.cRule H' (.ref x) (nm nms k) (encN nms (bo bs k)) (1 + (k : Int)) → Q (.ref x) H'
/-- what is new, and x itself, stays -/
noncomputable def Rest (x : Addr) (H H' H2 : Hp) : Prop := ∀ b o, (H b = none ∨ b = x) → H' b = some o → H2 b = some o
noncomputable abbrev bfs (po pd : Addr) : List (Str × V) := [(Str.ofString "order", .ref po), (Str.ofString "by_name", .ref pd)]
noncomputable def BookAt (C : Addr) (H : Hp) (p : Addr) (nms ord : List Str) (us : List V) : Prop := ∃ (dx po pd : Addr) (kvs : List (Key × V)), H p = some (.ins C dx (bfs po pd)) ∧ H po = some (.lst (ord.map V.str)) ∧ H pd = some (.dK kvs) ∧ (kvs.map fun kv => kV kv.1) = nms.map V.str ∧ ∀ (j : Nat) (y : V), us[j]? = some y → valV kvs (.inr (nm nms j)) = some y
theorem BookAt.same {C : Addr} {H H' : Hp} {p : Addr} {nms ord : List Str} {us : List V} (h : BookAt C H p nms ord us) (s : Same H H') : BookAt C H' p nms ord us := by
  obtain ⟨dx, po, pd, kvs, h1, h2, h3, h4⟩ := h
  exact ⟨dx, po, pd, kvs, s _ _ h1, s _ _ h2, s _ _ h3, h4⟩
theorem put1 (f : Str) (u : V) : putF f u [] = [(f, u)] := rfl
theorem put2 {f g : Str} (u v : V) (h : f ≠ g) : putF g v [(f, u)] = [(f, u), (g, v)] := by unfold putF; rw [if_neg h]; rfl
noncomputable def spBInit (a : Adr) : Sp := fun vs H Q _ => ∃ (x dx pr : Addr) (us : List V) (nms : List Str) (bs : List (Option Nat)) (rk : Nat → Nat), vs = [.ref x, .ref pr] ∧ H x = some (.ins a.cBook dx []) ∧ H pr = some (.lst us) ∧ Rules a.cRule H us nms bs ∧ Wd nms bs rk ∧
  ∀ H', SameBut x H H' → (∀ H2, Rest x H H' H2 → BookAt a.cBook H2 x nms (ordW nms bs nms.length) us) → Q .non H'
noncomputable def spBHang (a : Adr) : Sp := fun vs H Q _ => ∃ (x : Addr) (nms ord : List Str) (us : List V), vs = [.ref x] ∧ BookAt a.cBook H x nms ord us ∧ ∀ q, H q = none → Q (.ref q) (upd H q (.lst (ord.map V.str)))
noncomputable def spBNames (a : Adr) : Sp := fun vs H Q _ => ∃ (x : Addr) (nms ord : List Str) (us : List V), vs = [.ref x] ∧ BookAt a.cBook H x nms ord us ∧ ∀ q, H q = none → Q (.ref q) (upd H q (.lst (nms.map V.str)))
noncomputable def spBRule (a : Adr) : Sp := fun vs H Q _ => ∃ (x : Addr) (nms ord : List Str) (us : List V) (j : Nat) (y : V), vs = [.ref x, .str (nm nms j)] ∧ BookAt a.cBook H x nms ord us ∧ us[j]? = some y ∧ Q y H
theorem bk_new {kvs : List (Key × V)} {nms : List Str} {i : Nat} (nd : nms.Nodup) (hi : i < nms.length) (h : (kvs.map fun kv => kV kv.1) = (nms.take i).map V.str) : valV kvs (.inr (nm nms i)) = none := by
  cases e : valV kvs (.inr (nm nms i)) with
  | none => rfl
  | some v =>
    have m := valV_in e
    have m2 : V.str (nm nms i) ∈ (nms.take i).map V.str := by
      rw [← h]
      obtain ⟨kv, z1, z2⟩ := List.mem_map.mp m
      exact List.mem_map.mpr ⟨kv, z1, by rw [z2]; rfl⟩
    obtain ⟨y, y1, y2⟩ := List.mem_map.mp m2
    obtain ⟨j, hj, ej⟩ := List.getElem_of_mem y1
    rw [List.length_take] at hj
    rw [List.getElem_take] at ej
    have en : nm nms j = nm nms i := by
      have := nm_at (nms := nms) (k := j) (by omega)
      rw [List.getElem?_eq_getElem (by omega)] at this
      rw [← Option.some.inj this, ej]
      exact V.str.inj y2
    have := nm_inj nd (by omega) hi en
    omega
theorem bk_keys {kvs : List (Key × V)} {nms : List Str} {i : Nat} (y : V) (nd : nms.Nodup) (hi : i < nms.length) (h : (kvs.map fun kv => kV kv.1) = (nms.take i).map V.str) : ((putK kvs (.inr (nm nms i)) y).map fun kv => kV kv.1) = (nms.take (i + 1)).map V.str := by
  rw [putK_new y (bk_new nd hi h), List.map_append, h, List.take_add_one, nm_at hi, List.map_append]
  rfl
theorem bk_get {kvs : List (Key × V)} {nms : List Str} {us : List V} {i : Nat} {y : V} (nd : nms.Nodup) (hi : i < nms.length) (hl : us.length = nms.length) (hy : us[i]? = some y) (h : ∀ (j : Nat) (z : V), j < i → us[j]? = some z → valV kvs (.inr (nm nms j)) = some z) : ∀ (j : Nat) (z : V), j < i + 1 → us[j]? = some z → valV (putK kvs (.inr (nm nms i)) y) (.inr (nm nms j)) = some z := fun j z hj hz => by
  rw [valV_put]
  by_cases e : j = i
  · subst e
    rw [if_pos rfl]
    rw [hy] at hz
    exact hz
  · rw [if_neg (fun q => e (nm_inj nd (by omega) hi (Sum.inr.inj q)))]
    exact h j z (by omega) hz

noncomputable def rkI (t k : Int) : Int := (k * (1 + t % 6) + t / 6) % 7
theorem rkI_in (t k : Int) : 0 ≤ rkI t k ∧ rkI t k < 7 := by unfold rkI; omega
noncomputable def spBas (K : PySem.W.Frag) : Sp := fun vs H Q _ => ∃ (a : Addr) (ns : List Int) (m : Nat), vs = [.ref a, .int (m : Int)] ∧ SqL K H a (ns.map V.int) ∧ m ≤ 6 ∧
  ∀ (q : Addr) (H' : Hp) (bs : List (Option Nat)) (t : Int), H q = none → Same H H' → H' q = some (.lst (bs.map encO)) → bs.length = m → (∀ (k b : Nat), bs[k]? = some (some b) → b < m ∧ rkI t b < rkI t k) → Q (.ref q) H'
noncomputable def encI (j : Nat) : V := .int (j : Int)
theorem flat_encI (xs : List Nat) : (xs.map encI).all flatV = true := by rw [List.all_map]; exact List.all_eq_true.mpr fun _ _ => rfl
theorem eq_nilV (xs : List V) : eqVs xs [] = xs.isEmpty := by cases xs <;> rfl
theorem mulS {a b : Int} (h0 : 0 ≤ b) (h1 : b ≤ 10) : -(2 ^ 64) < b ∧ b < 2 ^ 64 := by omega
theorem bas_snoc {bs : List (Option Nat)} {m i : Nat} {t : Int} {v : Option Nat} (hl : bs.length = i) (h : ∀ (k b : Nat), bs[k]? = some (some b) → b < m ∧ rkI t b < rkI t k) (hv : ∀ b, v = some b → b < m ∧ rkI t b < rkI t i) : ∀ (k b : Nat), (bs ++ [v])[k]? = some (some b) → b < m ∧ rkI t b < rkI t k := fun k b e => by
  by_cases hk : k < bs.length
  · rw [List.getElem?_append_left hk] at e
    exact h k b e
  · rw [List.getElem?_append_right (Nat.not_lt.mp hk)] at e
    have ek : k = i := by
      have := (List.getElem?_eq_some_iff.mp e).1
      simp at this
      omega
    subst ek
    rw [hl, Nat.sub_self] at e
    exact hv b (Option.some.inj e)
theorem pickN (bl : List Nat) (c : Int) (h : bl ≠ []) : 0 < ((bl.map encI).length : Int) ∧ ∃ b ∈ bl, atI (bl.map encI) (c % ((bl.map encI).length : Int)) = some (.int (b : Int)) := by
  have hp : 0 < bl.length := List.length_pos_iff.mpr h
  rw [List.length_map]
  refine ⟨by omega, ?_⟩
  have h0 := Int.emod_nonneg c (b := (bl.length : Int)) (by omega)
  have h1 := Int.emod_lt_of_pos c (b := (bl.length : Int)) (by omega)
  obtain ⟨j, hj⟩ : ∃ j : Nat, c % (bl.length : Int) = (j : Int) := ⟨(c % (bl.length : Int)).toNat, by omega⟩
  have hlt : j < bl.length := by omega
  refine ⟨bl[j], List.getElem_mem hlt, ?_⟩
  rw [hj]
  exact atI_nat (by rw [List.getElem?_map, List.getElem?_eq_getElem hlt]; rfl)

noncomputable abbrev az : Str := Str.ofString "abcdefghijklmnopqrstuvwxyz"
theorem az_len : az.length = 26 := by decide +kernel
theorem az_list : az.cps.toList = (List.range 26).map (fun j => 97 + j) := by decide +kernel
theorem az_at {j : Nat} (h : j < 26) : atI az.cps.toList (j : Int) = some (97 + j) := atI_nat (by rw [az_list, List.getElem?_map, List.getElem?_range h]; rfl)
theorem cat_len (x y : Str) : (x ++ y).length = x.length + y.length := by
  show (x ++ y).cps.size = _
  rw [Str.cps_append, Array.size_append]; rfl
noncomputable def wdL (L : List Nat) (n c : Nat) : List Nat := L.take n ++ c :: L.drop (n + 1)
theorem word_eq {st : Str} {n c : Nat} (h : n + 1 ≤ st.length) : Txt.slice st none (some (n : Int)) ++ (⟨#[c]⟩ : Str) ++ Txt.slice st (some ((n : Int) + 1)) none = ⟨(wdL st.cps.toList n c).toArray⟩ := by
  have hl : st.cps.toList.length = st.length := Array.length_toList
  have e1 : Txt.slice st none (some (n : Int)) = ⟨((st.cps.toList.drop 0).take ((n : Int) - 0).toNat).toArray⟩ := PySem.StrLaws.sliceText_to ⟨Int.natCast_nonneg n, by omega⟩
  have e2 : Txt.slice st (some ((n : Int) + 1)) none = ⟨((st.cps.toList.drop ((n : Int) + 1).toNat).take ((st.cps.toList.length : Int) - ((n : Int) + 1)).toNat).toArray⟩ := PySem.StrLaws.sliceText_from ⟨by omega, by omega⟩
  have e3 : ((n : Int) + 1).toNat = n + 1 := by omega
  rw [e1, e2, e3, List.take_of_length_le (l := st.cps.toList.drop (n + 1)) (by rw [List.length_drop]; omega)]
  apply Str.ext'
  rw [Str.cps_append, Str.cps_append]
  show ((st.cps.toList.drop 0).take ((n : Int) - 0).toNat).toArray ++ #[c] ++ (st.cps.toList.drop (n + 1)).toArray = _
  unfold wdL
  rw [List.drop_zero, show ((n : Int) - 0).toNat = n by omega]
  simp
theorem cut_eq {L : List Nat} {n c : Nat} (h : n < L.length) : Txt.slice ⟨(wdL L n c).toArray⟩ none (some ((n : Int) + 1)) = ⟨(L.take n ++ [c]).toArray⟩ := by
  have lt : (L.take n).length = n := by rw [List.length_take]; omega
  have e1 : Txt.slice ⟨(wdL L n c).toArray⟩ none (some ((n : Int) + 1)) = ⟨(((wdL L n c).toArray.toList.drop 0).take ((n : Int) + 1 - 0).toNat).toArray⟩ := PySem.StrLaws.sliceText_to ⟨by omega, by
    show (n : Int) + 1 ≤ ((wdL L n c).toArray.toList.length : Int)
    rw [List.toList_toArray]
    unfold wdL
    rw [List.length_append, List.length_cons, lt]
    omega⟩
  rw [e1, List.toList_toArray, List.drop_zero, show ((n : Int) + 1 - 0).toNat = n + 1 by omega]
  unfold wdL
  rw [List.take_append, lt, List.take_of_length_le (Nat.le_trans (Nat.le_of_eq lt) (Nat.le_succ n)), show n + 1 - n = 1 by omega]
  rfl
/-- the sign of the k-th word, and the word -/
noncomputable def sgn (t : Int) (e k : Nat) : Nat := 97 + ((t + ((k / (1 + e) : Nat) : Int)) % 26).toNat
noncomputable def wdS (L : List Nat) (n e : Nat) (t : Int) (k : Nat) : Str := if e = 1 ∧ k % 2 = 1 then ⟨(L.take n ++ [sgn t e k]).toArray⟩ else ⟨(wdL L n (sgn t e k)).toArray⟩
theorem mk_inj {x y : List Nat} (h : (⟨x.toArray⟩ : Str) = ⟨y.toArray⟩) : x = y := by
  have := congrArg (fun z : Str => z.cps.toList) h
  simpa using this
theorem wdL_inj {L : List Nat} {n c d : Nat} (h : wdL L n c = wdL L n d) : c = d := by
  unfold wdL at h
  exact (List.cons.inj (List.append_cancel_left h)).1
theorem sgn_inj {t : Int} {e k j : Nat} (he : e ≤ 1) (hk : k < 7) (hj : j < 7) (h : sgn t e k = sgn t e j) : k / (1 + e) = j / (1 + e) := by
  have h : (t + ((k / (1 + e) : Nat) : Int)) % 26 = (t + ((j / (1 + e) : Nat) : Int)) % 26 := by unfold sgn at h; omega
  have a : k / (1 + e) ≤ k := Nat.div_le_self _ _
  have b : j / (1 + e) ≤ j := Nat.div_le_self _ _
  generalize k / (1 + e) = x at *
  generalize j / (1 + e) = y at *
  omega
theorem wdS_inj {L : List Nat} {n e : Nat} {t : Int} (he : e ≤ 1) (hn : n + 1 + e ≤ L.length) {k j : Nat} (hk : k < 7) (hj : j < 7) (h : wdS L n e t k = wdS L n e t j) : k = j := by
  have lt : (L.take n).length = n := by rw [List.length_take]; omega
  have ld : (L.drop (n + 1)).length = L.length - (n + 1) := List.length_drop
  have key : sgn t e k = sgn t e j ∧ (e = 1 → k % 2 = j % 2) := by
    unfold wdS at h
    by_cases c1 : e = 1 ∧ k % 2 = 1
    · rw [if_pos c1] at h
      by_cases c2 : e = 1 ∧ j % 2 = 1
      · rw [if_pos c2] at h
        exact ⟨(List.cons.inj (List.append_cancel_left (mk_inj h))).1, fun _ => by omega⟩
      · rw [if_neg c2] at h
        have hl := congrArg List.length (mk_inj h)
        unfold wdL at hl
        rw [List.length_append, List.length_append, List.length_cons, List.length_cons, List.length_nil, ld] at hl
        omega
    · rw [if_neg c1] at h
      by_cases c2 : e = 1 ∧ j % 2 = 1
      · rw [if_pos c2] at h
        have hl := congrArg List.length (mk_inj h)
        unfold wdL at hl
        rw [List.length_append, List.length_append, List.length_cons, List.length_cons, List.length_nil, ld] at hl
        omega
      · rw [if_neg c2] at h
        exact ⟨wdL_inj (mk_inj h), fun z => by omega⟩
  have q := sgn_inj he hk hj key.1
  rcases (by omega : e = 0 ∨ e = 1) with z | z
  · rw [z] at q
    simpa using q
  · have := key.2 z
    rw [z] at q
    omega
theorem wds_nd {L : List Nat} {n e : Nat} {t : Int} (he : e ≤ 1) (hn : n + 1 + e ≤ L.length) {m : Nat} (hm : m ≤ 6) : ((List.range m).map (wdS L n e t)).Nodup := by
  rw [List.nodup_iff_pairwise_ne, List.pairwise_map]
  refine (List.Pairwise.and_mem.mp (List.nodup_iff_pairwise_ne.mp List.nodup_range)).imp fun {a b} h z => ?_
  have h1 := List.mem_range.mp h.1
  have h2 := List.mem_range.mp h.2.1
  exact h.2.2 (wdS_inj he hn (by omega) (by omega) z)
noncomputable def spWords : Sp := fun vs H Q _ => ∃ (c : Int) (m : Nat), vs = [.int c, .int (m : Int)] ∧ m ≤ 6 ∧ ∀ (q : Addr) (H' : Hp) (nms : List Str), H q = none → Same H H' → H' q = some (.lst (nms.map V.str)) → nms.length = m → nms.Nodup → Q (.ref q) H'
theorem sizeB (c : Int) : 1 + c % 2 ≤ 1 + c % 2 + c / 2 % (8 - c % 2) ∧ 1 + c % 2 + c / 2 % (8 - c % 2) ≤ 8 := by
  rcases (by omega : c % 2 = 0 ∨ c % 2 = 1) with e | e <;> rw [e]
  · rw [show (8 : Int) - 0 = 8 from rfl]; omega
  · rw [show (8 : Int) - 1 = 7 from rfl]; omega
noncomputable def prL : List Int := [100003, 100019, 100043, 100049, 100057, 100069, 100103, 100109]
theorem pr_at {k : Nat} (h : k < 8) : ∃ p : Int, 0 < p ∧ (prL.map V.int)[k]? = some (V.int p) := by
  rcases (by omega : k = 0 ∨ k = 1 ∨ k = 2 ∨ k = 3 ∨ k = 4 ∨ k = 5 ∨ k = 6 ∨ k = 7) with e | e | e | e | e | e | e | e <;> subst e <;> exact ⟨_, by decide, rfl⟩

noncomputable def spLaw (K : PySem.W.Frag) : Sp := fun vs H Q _ => ∃ (a : Addr) (ns : List Int), vs = [.ref a] ∧ SqL K H a (ns.map V.int) ∧ ns.length ≤ 63 ∧ ∀ H', Q (.bl true) H'
theorem RuleAt.name {C : Addr} {H : Hp} {v : V} {x y : Str} {b b' : V} {m m' : Int} (h : RuleAt C H v x b m) (h' : RuleAt C H v y b' m') : x = y := by
  obtain ⟨p, dx, fs, e, h1, h2, _⟩ := h
  obtain ⟨p', dx', fs', e', h1', h2', _⟩ := h'
  rw [e] at e'
  cases e'
  rw [h1] at h1'
  injection h1' with z
  injection z with _ _ z
  subst z
  rw [h2] at h2'
  exact V.str.inj (Option.some.inj h2')
theorem strs_of {ys : List V} {nms : List Str} (hl : ys.length = nms.length) (h : ∀ (j : Nat) (y : V), ys[j]? = some y → y = .str (nm nms j)) : ys = nms.map V.str := by
  refine List.ext_getElem? fun j => ?_
  by_cases hj : j < nms.length
  · rw [nmV hj]
    obtain ⟨y, hy⟩ : ∃ y, ys[j]? = some y := ⟨_, List.getElem?_eq_getElem (by omega)⟩
    rw [hy, h j y hy]
  · rw [List.getElem?_eq_none (by omega), List.getElem?_eq_none (by rw [List.length_map]; omega)]
theorem ord6 {nms : List Str} {bs : List (Option Nat)} (h : nms.length ≤ 6) : (ordW nms bs nms.length).length ≤ 100 := by
  have := ordW_len nms bs nms.length
  omega

section
variable {P : Program} {w : World} {K : PySem.W.Frag} {mg : Str → Option Value} {base : Heap} {a : Adr}
set_option maxHeartbeats 4000000 in
theorem okUntaken (T : Txt K mg a) : FnOk P w K mg base CX0 1 a.fUntaken a.gUntaken ["name", "bases", "taken"] spUnt := by
  refine T.dUntaken.fn.ok scUntaken (fun vs H Q E h => ?_) (fun cdv A outer s H vs Q E hr h => ?_)
  · obtain ⟨_, _, _, _, _, _, _, _, _, rfl, _⟩ := h
    all_goals rfl
  · obtain ⟨x, d, t, kvs, nms, bs, rk, tk, k0, rfl, hd, ht, wd, hk, rfl, dic, k⟩ := h
    refine ⟨_, (pss_cons (ps_set (i := 3) scUntaken.nd rfl (Or.inl rfl) (pe_lst pa_nil))
      (pss_cons (ps_set (i := 4) scUntaken.nd rfl (Or.inl rfl) (pv 0))
      (pss_cons (ps_while PassesOwn.never (PW.pt (pw_and (pt_cmpR op_notN (pv 4) pe_non (nomark _)) (pw_and1 (pt_cmpR op_notIn_seq (pv 4) (pv 2) (by with_unfolding_all rfl))))) (pss_cons (ps_if (pt_cmpR op_in_seq (pv 4) (pv 3) (by with_unfolding_all rfl)) (pss_one ps_never) pss_nil)
      (pss_cons (ps_expr (pe_bm PySem.F.plainAttrs_list PySem.F.slot_list_append PySem.F.type_list_append mt_append (pv 3) (pa_cons (pv 4) pa_nil star_nam)))
      (pss_one (ps_set (i := 4) scUntaken.nd rfl (Or.inl rfl) (pe_dget (hu_of hr) (pv 1) (pv 4) (fun _ _ => rfl)))))))
      (pss_one (ps_ret (pv 3)))))), ?_⟩
    refine ⟨fit0, fun q hq => ?_⟩
    have s0 := same_upd (o := .lst []) hq
    have h0 := upd_same (H := H) (a := q) (o := .lst [])
    generalize upd H q _ = H0 at s0 h0 ⊢
    refine ⟨_, rfl, ?_⟩
    refine ⟨fun m σ' H' => Same H H' ∧ ∃ pa : List Str, H' q = some (.lst (pa.map V.str)) ∧ ((∃ at_ : Nat, σ' = [some (.str (nm nms k0)), some (.ref d), some (.ref t), some (.ref q), some (.str (nm nms at_))] ∧ at_ < nms.length ∧ rk at_ < m ∧ pa ++ upW nms bs tk m at_ = upW nms bs tk 7 k0 ∧ pa.length + m = 7 ∧ ∀ y ∈ pa, ∃ j, j < nms.length ∧ y = nm nms j ∧ rk at_ < rk j) ∨
        (σ' = [some (.str (nm nms k0)), some (.ref d), some (.ref t), some (.ref q), some .non] ∧ pa = upW nms bs tk 7 k0)), ⟨7, s0, [], h0, .inl ⟨k0, rfl, hk, wd.lo k0, rfl, rfl, fun y hy => absurd hy List.not_mem_nil⟩⟩, ?_⟩
    rintro m σ' H' ⟨s1, pa, h1, ⟨at_, rfl, ha, hm, tot, hl, low⟩ | ⟨rfl, e⟩⟩
    · refine ⟨_, rfl, rfl, _, rfl, iteNN (fun z => nomatch z) ⟨_, rfl, _, rfl, _, _, rfl, .inl (SqL.of (s1 _ _ ht)), rfl, flat_strs _, _, rfl, ?_⟩⟩
      show if (!inV (.str (nm nms at_)) (tk.map V.str)) = true then _ else _
      rw [inV_strs]
      cases ec : tk.contains (nm nms at_) with
      | true =>
        refine iteF ⟨_, rfl, k q H' hq s1 ?_⟩
        rw [up_stop (List.contains_iff_mem.mp ec), List.append_nil] at tot
        rw [h1, tot]
      | false =>
        have nt : ¬ nm nms at_ ∈ tk := fun z => by rw [List.contains_iff_mem.mpr z] at ec; cases ec
        have np : pa.contains (nm nms at_) = false := by
          cases ep : pa.contains (nm nms at_) with
          | false => rfl
          | true =>
            obtain ⟨j, j1, j2, j3⟩ := low _ (List.contains_iff_mem.mp ep)
            rw [nm_inj wd.nd ha j1 j2] at j3
            exact absurd j3 (Nat.lt_irrefl _)
        obtain ⟨f, rfl⟩ : ∃ f, m = f + 1 := ⟨m - 1, by omega⟩
        rw [up_take nt] at tot
        have lz : (pa.map V.str).length ≤ 90000 := by rw [List.length_map]; omega
        refine iteT ⟨fun σ2 H2 => Same H H2 ∧ ∃ pa : List Str, H2 q = some (.lst (pa.map V.str)) ∧ ((∃ at_ : Nat, σ2 = [some (.str (nm nms k0)), some (.ref d), some (.ref t), some (.ref q), some (.str (nm nms at_))] ∧ at_ < nms.length ∧ rk at_ < f ∧ pa ++ upW nms bs tk f at_ = upW nms bs tk 7 k0 ∧ pa.length + f = 7 ∧ ∀ y ∈ pa, ∃ j, j < nms.length ∧ y = nm nms j ∧ rk at_ < rk j) ∨
          (σ2 = [some (.str (nm nms k0)), some (.ref d), some (.ref t), some (.ref q), some .non] ∧ pa = upW nms bs tk 7 k0)), fun σ2 H2 z => ⟨f, Nat.lt_succ_self f, z⟩, ?_⟩
        refine ⟨_, rfl, _, rfl, _, _, rfl, .inl (SqL.of h1), rfl, flat_strs _, _, rfl, ?_⟩
        show if (inV (.str (nm nms at_)) (pa.map V.str)) = true then _ else _
        rw [inV_strs, np]
        refine iteF ⟨_, rfl, .inl ⟨rfl, _, SqL.of h1⟩, _, rfl, _, _, _, rfl, rfl, h1, lt1000 lz, ?_⟩
        have s2 : Same H (upd H' q (.lst (pa.map V.str ++ [V.str (nm nms at_)]))) := same_add s1 hq
        have h2 : upd H' q (.lst (pa.map V.str ++ [V.str (nm nms at_)])) q = some (.lst ((pa ++ [nm nms at_]).map V.str)) := by rw [upd_same, List.map_append]; rfl
        generalize upd H' q _ = H2 at s2 h2 ⊢
        refine ⟨_, rfl, _, rfl, d, _, rfl, (dic at_ ha) ▸ DGet.k (k := .inr (nm nms at_)) (s2 _ _ hd), ?_⟩
        cases eb : bo bs at_ with
        | none =>
          rw [eb] at tot
          exact ⟨s2, _, h2, .inr ⟨rfl, tot⟩⟩
        | some b =>
          rw [eb] at tot
          obtain ⟨b1, b2⟩ := wd.ok at_ b (by rw [bo_at (by rw [wd.len]; exact ha), eb])
          refine ⟨s2, _, h2, .inl ⟨b, rfl, b1, by omega, ?_, by rw [List.length_append]; show pa.length + 1 + f = 7; omega, fun y hy => ?_⟩⟩
          · rw [List.append_assoc]
            exact tot
          · rcases List.mem_append.mp hy with z | z
            · obtain ⟨j, j1, j2, j3⟩ := low y z
              exact ⟨j, j1, j2, Nat.lt_trans b2 j3⟩
            · exact ⟨at_, ha, List.mem_singleton.mp z, b2⟩
    · refine ⟨_, rfl, rfl, _, rfl, iteND rfl (iteF ⟨_, rfl, k q H' hq s1 ?_⟩)⟩
      rw [h1, e]
set_option maxHeartbeats 4000000 in
theorem okHangingOrder (T : Txt K mg a) : FnOk P w K mg base CX0 2 a.fHangingOrder a.gHangingOrder ["rules"] (spHang a) := by
  refine T.dHangingOrder.fn.ok scHangingOrder (fun vs H Q E h => ?_) (fun cdv A outer s H vs Q E hr h => ?_)
  · obtain ⟨_, _, _, _, _, rfl, _⟩ := h
    all_goals rfl
  · obtain ⟨pr, us, nms, bs, rk, rfl, hp, hrl, wd, k⟩ := h
    refine ⟨_, (pss_cons (ps_set (i := 1) scHangingOrder.nd rfl (Or.inl rfl) pe_dnewK)
      (pss_cons (ps_for PassesOwn.never rfl (pi_list (pv 0)) (pg_name (i := 2) scHangingOrder.nd rfl (Or.inl rfl)) (pss_one (ps_dput (hu_of hr) (pv 1) (pe_fld (pv 2) rfl) (pe_fld (pv 2) rfl) rfl)))
      (pss_cons (ps_set (i := 3) scHangingOrder.nd rfl (Or.inl rfl) (pe_lst pa_nil))
      (pss_cons (ps_for PassesOwn.never rfl (pi_list (pv 0)) (pg_name (i := 2) scHangingOrder.nd rfl (Or.inl rfl)) (pss_one (ps_aug (i := 3) scHangingOrder.nd rfl (Or.inl rfl) (pe_listRev rfl (by rfl) T.n_list (by rfl) T.n_reversed boot_list (pa_cons (pe_call (okUntaken T) (hr.mono (by decide)) rfl T.dUntaken.mgx T.dUntaken.fn.kp T.dUntaken.bd .nil pass0 (pa_cons (pe_fld (pv 2) rfl) (pa_cons (pv 1) (pa_cons (pv 3) pa_nil star_nam) star_nam) star_att)) pa_nil star_cal)) ip_ext)))
      (pss_one (ps_ret (pv 3))))))), ?_⟩
    refine fun d hd => ?_
    have s0 := same_upd (o := .dK []) hd
    have h0 := upd_same (H := H) (a := d) (o := .dK [])
    generalize upd H d _ = H0 at s0 h0 ⊢
    refine ⟨_, rfl, _, rfl, ⟨_, SqL.of (s0 _ _ hp)⟩, for_list (K := K) (a := pr) (xs := us) (fun i σ H' => Same H H' ∧ ∃ (v2 : Option V) (kvs : List (Key × V)), σ = [some (.ref pr), some (.ref d), v2, none] ∧ H' d = some (.dK kvs) ∧ kvs.length ≤ i ∧ ∀ k < i, valV kvs (.inr (nm nms k)) = some (encN nms (bo bs k)))
      ⟨s0, none, [], rfl, h0, Nat.le_refl _, fun k hk => absurd hk (Nat.not_lt_zero _)⟩ (fun i σ H' _ h => SqL.of (h.1 _ _ hp)) ?_ ?_⟩
    · rintro i x σ H' hx ⟨s1, v2, kvs, rfl, h1, hl, hv⟩
      have hi : i < nms.length := by rw [← hrl.1]; exact (List.getElem?_eq_some_iff.mp hx).1
      obtain ⟨p, dx, fs, rfl, r1, r2, r3, r4⟩ := (hrl.2 i x hx).same s1
      refine ⟨_, rfl, _, _, _, _, _, rfl, r1, T.c_Rule, xno_of T.n_Rule (by decide), r3, _, rfl, _, rfl, _, _, _, _, _, rfl, r1, T.c_Rule, xno_of T.n_Rule (by decide), r2, d, _, rfl, DPut.k (k := .inr (nm nms i)) h1 (by rw [sizeLine_eq]; have := wd.sm; omega), ?_⟩
      exact ⟨same_add s1 hd, _, _, rfl, upd_same, Nat.le_trans (length_putK _ _ _) (Nat.succ_le_succ hl), dic_put wd.nd hi hv⟩
    · rintro σ H1 ⟨s1, v2, kvs, rfl, h1, hl, hv⟩
      rw [hrl.1] at hv
      refine ⟨fit0, fun t ht => ?_⟩
      have s2 := s1.trans (same_upd (o := .lst []) ht)
      have h2 := same_upd (o := .lst []) ht _ _ h1
      have h3 := upd_same (H := H1) (a := t) (o := .lst [])
      have nt := s1.free ht
      have ntd : d ≠ t := fun z => by rw [← z, h1] at ht; cases ht
      generalize upd H1 t _ = H2 at s2 h2 h3 ⊢
      refine ⟨_, rfl, _, rfl, ⟨_, SqL.of (s2 _ _ hp)⟩, for_list (K := K) (a := pr) (xs := us) (fun i σ H' => Same H H' ∧ H' d = some (.dK kvs) ∧ H' t = some (.lst ((ordW nms bs i).map V.str)) ∧ ∃ v2 : Option V, σ = [some (.ref pr), some (.ref d), v2, some (.ref t)])
        ⟨s2, h2, h3, _, rfl⟩ (fun i σ H' _ h => SqL.of (h.1 _ _ hp)) ?_ ?_⟩
      · rintro i x σ H' hx ⟨s1, h1, h3, v2, rfl⟩
        have hi : i < nms.length := by rw [← hrl.1]; exact (List.getElem?_eq_some_iff.mp hx).1
        obtain ⟨p, dx, fs, rfl, r1, r2, r3, r4⟩ := (hrl.2 i x hx).same s1
        refine ⟨_, rfl, _, rfl, _, _, _, _, _, rfl, r1, T.c_Rule, xno_of T.n_Rule (by decide), r2, _, rfl, _, rfl, _, _, _, _, nms, bs, rk, _, i, rfl, h1, h3, wd, hi, rfl, hv, fun q1 H3 n1 z1 e1 => ?_⟩
        refine ⟨_, _, rfl, SqL.of e1, fun q2 hq2 => ?_⟩
        have z2 := z1.trans (same_upd (o := .lst ((upW nms bs (ordW nms bs i) 7 i).map V.str).reverse) hq2)
        have e2 := upd_same (H := H3) (a := q2) (o := .lst ((upW nms bs (ordW nms bs i) 7 i).map V.str).reverse)
        generalize upd H3 q2 _ = H4 at z2 e2 ⊢
        refine ⟨_, _, _, _, rfl, rfl, z2 _ _ h3, e2, fits (by
          have a := ordW_len nms bs i
          have b := upW_len nms bs (ordW nms bs i) 7 i
          have c := wd.sm
          rw [List.length_reverse, List.length_map, List.length_map]; omega), ?_⟩
        refine ⟨same_add (s1.trans z2) nt, (upd_ne ntd).trans (z2 _ _ h1), ?_, _, rfl⟩
        rw [upd_same, ordW_succ, ← List.map_reverse, ← List.map_append]
      · rintro σ H' ⟨s1, h1, h3, v2, rfl⟩
        rw [hrl.1] at h3
        exact ⟨_, rfl, k t H' nt s1 h3⟩
set_option maxHeartbeats 4000000 in
theorem okLawCellAt (T : Txt K mg a) : FnOk P w K mg base CX0 1 a.fLawCellAt a.gLawCellAt ["_law_script", "_law_k"] (spCell K) := by
  refine T.dLawCellAt.fn.ok scLawCellAt (fun vs H Q E h => ?_) (fun cdv A outer s H vs Q E hr h => ?_)
  · obtain ⟨_, _, _, rfl, _⟩ := h
    all_goals rfl
  · obtain ⟨l, ns, i, rfl, hS, h0, k⟩ := h
    refine ⟨_, (pss_cons (ps_if (pt_cmpR op_lt (pv 1) (pe_callB call_len (by rfl) T.n_len boot_len (pa_cons (pv 0) pa_nil star_nam)) (nomark _)) (pss_one (ps_ret (pe_ix ix_list (pv 0) (pv 1) (fun _ _ => rfl)))) pss_nil)
      (pss_one (ps_ret pe_int))), ?_⟩
    refine ⟨_, rfl, _, rfl, _, _, rfl, .inl ⟨_, hS, rfl⟩, _, _, rfl, rfl, _, rfl, ?_⟩
    refine ite2 (fun c => ?_) (fun c => ?_)
    · exact ⟨_, rfl, _, rfl, _, _, _, _, rfl, rfl, hS, atI_cell h0 (of_decide_eq_true c), k⟩
    · have e : cell ns i = 0 := cell_out (fun z => c (decide_eq_true z))
      rw [e] at k; exact k
set_option maxHeartbeats 4000000 in
theorem okLawWords (T : Txt K mg a) : FnOk P w K mg base CX0 1 a.fLawWords a.gLawWords ["_law_cell", "_law_many"] spWords := by
  refine T.dLawWords.fn.ok scLawWords (fun vs H Q E h => ?_) (fun cdv A outer s H vs Q E hr h => ?_)
  · obtain ⟨_, _, rfl, _⟩ := h
    all_goals rfl
  · obtain ⟨c, m, rfl, hm, k⟩ := h
    refine ⟨_, (pss_cons (ps_set (i := 2) scLawWords.nd rfl (Or.inl rfl) pe_str)
      (pss_cons (ps_set (i := 3) scLawWords.nd rfl (Or.inl rfl) (pe_op op_add (pe_op op_add pe_int (pe_op op_mod (pv 0) pe_int)) (pe_op op_mod (pe_op op_fdiv (pv 0) pe_int) (pe_op op_sub pe_int (pe_op op_mod (pv 0) pe_int)))))
      (pss_cons (ps_set (i := 4) scLawWords.nd rfl (Or.inl rfl) (pe_op op_mod (pe_op op_fdiv (pv 0) pe_int) (pe_op op_sub (pv 3) (pe_op op_mod (pv 0) pe_int))))
      (pss_cons (ps_set (i := 5) scLawWords.nd rfl (Or.inl rfl) (pe_lst (pa_cons pe_int (pa_cons pe_int (pa_cons pe_int (pa_cons pe_int (pa_cons pe_int (pa_cons pe_int (pa_cons pe_int (pa_cons pe_int pa_nil star_con) star_con) star_con) star_con) star_con) star_con) star_con) star_con)))
      (pss_cons (ps_set (i := 6) scLawWords.nd rfl (Or.inl rfl) pe_str)
      (pss_cons (ps_for PassesOwn.never rfl (pi_range1 rfl T.n_range (pa_cons (pv 3) pa_nil star_nam)) (pg_name (i := 7) scLawWords.nd rfl (Or.inl rfl)) (pss_one (ps_set (i := 6) scLawWords.nd rfl (Or.inl rfl) (pe_op op_add_str (pv 6) (pe_ix ix_str (pv 2) (pe_op op_mod (pe_op op_mod (pe_op op_mul (pv 0) pe_int) (pe_ix ix_list (pv 5) (pv 7) (fun _ _ => rfl))) pe_int) (fun _ _ => rfl))))))
      (pss_cons (ps_set (i := 8) scLawWords.nd rfl (Or.inl rfl) (pe_lst pa_nil))
      (pss_cons (ps_for PassesOwn.never rfl (pi_range1 rfl T.n_range (pa_cons (pv 1) pa_nil star_nam)) (pg_name (i := 7) scLawWords.nd rfl (Or.inl rfl)) (pss_cons (ps_set (i := 9) scLawWords.nd rfl (Or.inl rfl) (pe_op op_mod (pe_op op_add (pe_op op_fdiv (pv 0) pe_int) (pe_op op_fdiv (pv 7) (pe_op op_add pe_int (pe_op op_mod (pv 0) pe_int)))) pe_int))
      (pss_cons (ps_set (i := 10) scLawWords.nd rfl (Or.inl rfl) (pe_op op_add_str (pe_op op_add_str (pe_slice sl_str (pv 6) po_none (po_some (pv 4))) (pe_ix ix_str (pv 2) (pv 9) (fun _ _ => rfl))) (pe_slice sl_str (pv 6) (po_some (pe_op op_add (pv 4) pe_int)) po_none)))
      (pss_cons (ps_if (PW.pt (pw_and (pt_cmpR op_eq (pe_op op_mod (pv 0) pe_int) pe_int (nomark _)) (pw_and1 (pt_cmpR op_eq (pe_op op_mod (pv 7) pe_int) pe_int (nomark _))))) (pss_one (ps_set (i := 10) scLawWords.nd rfl (Or.inl rfl) (pe_slice sl_str (pv 10) po_none (po_some (pe_op op_add (pv 4) pe_int))))) pss_nil)
      (pss_one (ps_expr (pe_bm PySem.F.plainAttrs_list PySem.F.slot_list_append PySem.F.type_list_append mt_append (pv 8) (pa_cons (pv 10) pa_nil star_nam))))))))
      (pss_one (ps_ret (pv 8))))))))))), ?_⟩
    have za := az_len
    have ce : c % 2 = 0 ∨ c % 2 = 1 := by omega
    have sB := sizeB c
    refine ⟨_, rfl, _, _, rfl, rfl, (pos (by decide)), _, _, rfl, rfl, _, rfl, _, _, rfl, rfl, ⟨by decide, by decide⟩, _, rfl, _, _, rfl, rfl, (pos (by decide)), _, _, rfl, rfl, _, _, rfl, rfl, (pos (by omega)), _, _, rfl, rfl, ?_⟩
    dsimp only []
    generalize 1 + c % 2 + c / 2 % (8 - c % 2) = S at sB ⊢
    have aB : 0 ≤ c / 16 % (S - c % 2) ∧ c / 16 % (S - c % 2) < S - c % 2 := ⟨Int.emod_nonneg _ (by omega), Int.emod_lt_of_pos _ (by omega)⟩
    refine ⟨_, rfl, _, _, rfl, rfl, ⟨by decide, by decide⟩, _, rfl, _, rfl, _, _, rfl, rfl, (pos (by decide)), _, _, rfl, rfl, _, _, rfl, rfl, (pos (by omega)), ?_⟩
    dsimp only []
    obtain ⟨n, en⟩ : ∃ n : Nat, c / 16 % (S - c % 2) = (n : Int) := ⟨(c / 16 % (S - c % 2)).toNat, by omega⟩
    rw [en] at aB ⊢
    obtain ⟨e, ee⟩ : ∃ e : Nat, c % 2 = (e : Int) := ⟨(c % 2).toNat, by omega⟩
    obtain ⟨z, ez⟩ : ∃ z : Nat, S = (z : Int) := ⟨S.toNat, by omega⟩
    subst ez
    have he : e ≤ 1 := by omega
    have hn : n + 1 + e ≤ z := by omega
    have hz : z ≤ 8 := by omega
    refine ⟨fits (show 8 ≤ 100000 by decide), fun pp hpp => ?_⟩
    have s0 := same_upd (o := .lst (prL.map V.int)) hpp
    have h0 : upd H pp (.lst (prL.map V.int)) pp = some (.lst (prL.map V.int)) := upd_same
    change _ at h0
    have e0 : upd H pp (.lst [V.int 100003, V.int 100019, V.int 100043, V.int 100049, V.int 100057, V.int 100069, V.int 100103, V.int 100109]) = upd H pp (.lst (prL.map V.int)) := rfl
    rw [e0]
    generalize upd H pp (.lst (prL.map V.int)) = H0 at s0 h0 ⊢
    have bnd := rb (n := z) (by omega)
    refine ⟨_, rfl, _, rfl, bnd.1, bnd.2, for_range (lo := 0) (n := ((z : Int)).toNat) (fun i σ H' => H' = H0 ∧ ∃ (x : Str) (v7 : Option V), σ = [some (.int c), some (.int (m : Int)), some (.str az), some (.int (z : Int)), some (.int (n : Int)), some (.ref pp), some (.str x), v7, none, none, none] ∧ x.length = i)
      ⟨rfl, Str.ofString "", none, rfl, by decide +kernel⟩ ?_ ?_⟩
    · rintro i σ H' hi ⟨rfl, x, v7, rfl, hl⟩
      have hi : i < z := hi
      rw [Int.zero_add]
      obtain ⟨p, p0, pa⟩ := pr_at (k := i) (by omega)
      obtain ⟨j, ej, j26⟩ : ∃ j : Nat, c * 48271 % p % 26 = (j : Int) ∧ j < 26 := ⟨(c * 48271 % p % 26).toNat, by omega, by omega⟩
      refine ⟨_, rfl, _, rfl, _, rfl, _, _, rfl, rfl, .inr ⟨by decide, by decide⟩, _, rfl, _, rfl, _, _, _, _, rfl, rfl, SqL.of h0, atI_nat pa, _, _, rfl, rfl, (pos p0), _, _, rfl, rfl, (pos (by decide)), _, _, _, rfl, rfl, fits (by rw [za]; decide), (show atI az.cps.toList (c * 48271 % p % 26) = _ by rw [ej]; exact az_at j26), _, _, rfl, rfl, fits (show x.length + 1 ≤ 100000 by omega), ?_⟩
      refine ⟨rfl, _, _, rfl, ?_⟩
      rw [cat_len, hl]
      rfl
    · rintro σ H' ⟨rfl, st, v7, rfl, hl⟩
      have hl : st.length = z := hl
      refine ⟨fit0, fun q hq => ?_⟩
      have s1 := s0.trans (same_upd (o := .lst []) hq)
      have h1 := upd_same (H := H') (a := q) (o := .lst [])
      have nq := s0.free hq
      generalize upd H' q _ = H1 at s1 h1 ⊢
      have bm := rb (n := m) (by omega)
      refine ⟨_, rfl, _, rfl, bm.1, bm.2, for_range (lo := 0) (n := ((m : Int)).toNat) (fun i σ H' => Same H H' ∧ ∃ v7 v9 v10 : Option V, σ = [some (.int c), some (.int (m : Int)), some (.str az), some (.int (z : Int)), some (.int (n : Int)), some (.ref pp), some (.str st), v7, some (.ref q), v9, v10] ∧ H' q = some (.lst (((List.range i).map (wdS st.cps.toList n e (c / 128))).map V.str)))
        ⟨s1, _, none, none, rfl, h1⟩ ?_ ?_⟩
      · rintro i σ H' hi ⟨s2, v7, v9, v10, rfl, h2⟩
        have hi : i < m := hi
        rw [Int.zero_add]
        have lz : ((((List.range i).map (wdS st.cps.toList n e (c / 128))).map V.str)).length ≤ 90000 := by rw [List.length_map, List.length_map, List.length_range]; omega
        have ed : (c / 128 + (i : Int) / (1 + c % 2)) % 26 = (((sgn (c / 128) e i - 97 : Nat)) : Int) := by
          rw [ee]
          unfold sgn
          have : (i : Int) / (1 + (e : Int)) = ((i / (1 + e) : Nat) : Int) := by
            rw [Int.natCast_ediv]
            rfl
          rw [this]
          omega
        have sg26 : sgn (c / 128) e i - 97 < 26 := by unfold sgn; omega
        have sg97 : 97 + (sgn (c / 128) e i - 97) = sgn (c / 128) e i := by unfold sgn; omega
        refine ⟨_, rfl, _, _, rfl, rfl, ⟨by decide, by decide⟩, _, rfl, _, rfl, _, _, rfl, rfl, (pos (by decide)), _, _, rfl, rfl, _, _, rfl, rfl, ⟨by omega, by omega⟩, _, _, rfl, rfl, _, _, rfl, rfl, (pos (by decide)), ?_⟩
        dsimp only []
        rw [ed]
        have cat := az_at sg26
        rw [sg97] at cat
        have t1 := Nat.le_trans (Txt.slice_le st none (some (n : Int))) (Nat.le_of_eq hl)
        have t2 := Nat.le_trans (Txt.slice_le st (some ((n : Int) + 1)) none) (Nat.le_of_eq hl)
        refine ⟨_, rfl, _, rfl, _, rfl, _, rfl, fits (by omega), _, rfl, _, rfl, _, _, _, rfl, rfl, fits (by rw [za]; decide), cat, _, _, rfl, rfl, fits (show _ + 1 ≤ 100000 by omega), _, rfl, _, rfl, _, _, rfl, rfl, _, rfl, _, rfl, fits (by omega), _, _, rfl, rfl, fits (by rw [cat_len]; show _ + 1 + _ ≤ 100000; omega), ?_⟩
        dsimp only []
        rw [word_eq (st := st) (n := n) (c := sgn (c / 128) e i) (by omega)]
        have lL : st.cps.toList.length = z := by rw [Array.length_toList]; exact hl
        have lw : (⟨(wdL st.cps.toList n (sgn (c / 128) e i)).toArray⟩ : Str).length ≤ 100000 := by
          show (wdL st.cps.toList n (sgn (c / 128) e i)).toArray.size ≤ 100000
          rw [List.size_toArray]
          unfold wdL
          rw [List.length_append, List.length_cons, List.length_take, List.length_drop, lL]
          omega
        have fin : ∀ w : Str, w = wdS st.cps.toList n e (c / 128) i → ∀ v9 : Option V, Same H (upd H' q (.lst ((((List.range i).map (wdS st.cps.toList n e (c / 128))).map V.str) ++ [V.str w]))) ∧ ∃ v7 v9' v10 : Option V, [some (V.int c), some (.int (m : Int)), some (.str az), some (.int (z : Int)), some (.int (n : Int)), some (.ref pp), some (.str st), some (.int (i : Int)), some (.ref q), v9, some (.str w)] = [some (V.int c), some (.int (m : Int)), some (.str az), some (.int (z : Int)), some (.int (n : Int)), some (.ref pp), some (.str st), v7, some (.ref q), v9', v10] ∧ upd H' q (.lst ((((List.range i).map (wdS st.cps.toList n e (c / 128))).map V.str) ++ [V.str w])) q = some (.lst (((List.range (i + 1)).map (wdS st.cps.toList n e (c / 128))).map V.str)) := fun w hw v9 => by
          refine ⟨same_add s2 nq, _, _, _, rfl, ?_⟩
          rw [upd_same, List.range_succ, List.map_append, List.map_append, hw]
          rfl
        refine ⟨_, rfl, _, _, rfl, rfl, (pos (by decide)), rfl, _, rfl, ?_⟩
        by_cases c1 : c % 2 = 1
        · refine iteD (congrArg V.int c1) ⟨_, rfl, _, _, rfl, rfl, (pos (by decide)), rfl, _, rfl, ?_⟩
          by_cases c2 : (i : Int) % 2 = 1
          · refine iteD (congrArg V.int c2) ⟨_, rfl, _, rfl, _, _, rfl, rfl, _, rfl, _, rfl, fits lw, ?_⟩
            dsimp only []
            rw [cut_eq (by omega)]
            refine ⟨_, rfl, .inl ⟨rfl, _, SqL.of h2⟩, _, rfl, _, _, _, rfl, rfl, h2, lt1000 lz, ?_⟩
            exact fin _ (by unfold wdS; rw [if_pos ⟨by omega, by omega⟩]) _
          · refine iteDn (fun z => c2 (V.int.inj z)) ⟨_, rfl, .inl ⟨rfl, _, SqL.of h2⟩, _, rfl, _, _, _, rfl, rfl, h2, lt1000 lz, ?_⟩
            exact fin _ (by unfold wdS; rw [if_neg (fun z => by omega)]) _
        · refine iteDn (fun z => c1 (V.int.inj z)) (iteF ⟨_, rfl, .inl ⟨rfl, _, SqL.of h2⟩, _, rfl, _, _, _, rfl, rfl, h2, lt1000 lz, ?_⟩)
          exact fin _ (by unfold wdS; rw [if_neg (fun z => by omega)]) _
      · rintro σ H' ⟨s2, v7, v9, v10, rfl, h2⟩
        refine ⟨_, rfl, k q H' _ nq s2 h2 (by rw [List.length_map, List.length_range]; rfl) (wds_nd he (by rw [Array.length_toList]; show n + 1 + e ≤ st.length; omega) (by show m ≤ 6; exact hm))⟩
set_option maxHeartbeats 4000000 in
theorem okLawBases (T : Txt K mg a) : FnOk P w K mg base CX0 2 a.fLawBases a.gLawBases ["_law_script", "_law_many"] (spBas K) := by
  refine T.dLawBases.fn.ok scLawBases (fun vs H Q E h => ?_) (fun cdv A outer s H vs Q E hr h => ?_)
  · obtain ⟨_, _, _, rfl, _⟩ := h
    all_goals rfl
  · obtain ⟨l, ns, m, rfl, hS, hm, k⟩ := h
    refine ⟨_, (pss_cons (ps_set (i := 2) scLawBases.nd rfl (Or.inr rfl) (pe_call (okLawCellAt T) (hr.mono (by decide)) rfl T.dLawCellAt.mgx T.dLawCellAt.fn.kp T.dLawCellAt.bd .nil pass0 (pa_cons (pv 0) (pa_cons pe_int pa_nil star_con) star_nam)))
      (pss_cons (ps_set (i := 3) scLawBases.nd rfl (Or.inr rfl) (pe_comp (N := ["_law_k", "_law_turn"]) (js := [none, some 2]) (XN := ["_law_script", "_law_many", "_law_turn", "_law_ranks", "_law_bases_here", "_law_k", "_law_cell", "_law_below", "_law_least"]) (xs := defScope sLawBases) rfl rfl rfl (by decide +kernel) (pi_range1 rfl T.n_range (pa_cons (pv 1) pa_nil star_nam)) (fun _ _ _ _ _ _ => (pg_name (i := 0) (show List.Nodup (["_law_k", "_law_turn"] : List Str) from by decide +kernel) rfl (Or.inl rfl) (Or.inr rfl))) (fun _ _ _ _ _ _ => pts_nil) (fun _ _ _ _ _ _ => (pe_op op_mod (pe_op op_add (pe_op op_mul (pv 0) (pe_op op_add pe_int (pe_op op_mod (pv 1) pe_int))) (pe_op op_fdiv (pv 1) pe_int)) pe_int))))
      (pss_cons (ps_set (i := 4) scLawBases.nd rfl (Or.inl rfl) (pe_lst pa_nil))
      (pss_cons (ps_for PassesOwn.never rfl (pi_range1 rfl T.n_range (pa_cons (pv 1) pa_nil star_nam)) (pg_name (i := 5) scLawBases.nd rfl (Or.inr rfl)) (pss_cons (ps_set (i := 6) scLawBases.nd rfl (Or.inl rfl) (pe_call (okLawCellAt T) (hr.mono (by decide)) rfl T.dLawCellAt.mgx T.dLawCellAt.fn.kp T.dLawCellAt.bd .nil pass0 (pa_cons (pv 0) (pa_cons (pe_op op_add pe_int (pv 5)) pa_nil star_bin) star_nam)))
      (pss_cons (ps_setComp (i := 7) scLawBases.nd rfl rfl (N := ["_law_other", "_law_ranks", "_law_k"]) (js := [none, some 3, some 5]) (XN := ["_law_script", "_law_many", "_law_turn", "_law_ranks", "_law_bases_here", "_law_k", "_law_cell", "_law_below", "_law_least"]) (xs := defScope sLawBases) rfl rfl rfl (by decide +kernel) (pi_range1 rfl T.n_range (pa_cons (pv 1) pa_nil star_nam)) (fun _ _ _ _ _ _ => (pg_name (i := 0) (show List.Nodup (["_law_other", "_law_ranks", "_law_k"] : List Str) from by decide +kernel) rfl (Or.inl rfl) (Or.inr rfl))) (fun _ _ _ _ _ _ => (pts_one (pt_cmpR op_lt (pe_ix (ix_listC (K := K) rfl) (pv 1) (pv 0) (fun _ _ => rfl)) (pe_ix (ix_listC (K := K) rfl) (pv 1) (pv 2) (fun _ _ => rfl)) (nomark _)))) (fun _ _ _ _ _ _ => (pv 0)))
      (pss_cons (ps_if (PW.pt (pw_and (pt_cmpR op_eq (pe_op op_mod (pe_op op_fdiv (pv 2) pe_int) pe_int) pe_int (nomark _)) (pw_and1 (pt_cmpR (op_neL hr.units0) (pv 7) (pe_lst pa_nil) (nomark _))))) (pss_cons (ps_set (i := 8) scLawBases.nd rfl (Or.inr rfl) (pe_callB (call_maxL rfl) (by rfl) T.n_max boot_max (pa_cons (pe_comp (N := ["_law_other", "_law_ranks"]) (js := [none, some 3]) (XN := ["_law_script", "_law_many", "_law_turn", "_law_ranks", "_law_bases_here", "_law_k", "_law_cell", "_law_below", "_law_least"]) (xs := defScope sLawBases) rfl rfl rfl (by decide +kernel) (pi_list (pv 7)) (fun _ _ _ _ _ _ => (pg_name (i := 0) (show List.Nodup (["_law_other", "_law_ranks"] : List Str) from by decide +kernel) rfl (Or.inl rfl) (Or.inr rfl))) (fun _ _ _ _ _ _ => pts_nil) (fun _ _ _ _ _ _ => (pe_ix (ix_listC (K := K) rfl) (pv 1) (pv 0) (fun _ _ => rfl)))) pa_nil star_cmp)))
      (pss_one (ps_setComp (i := 7) scLawBases.nd rfl rfl (N := ["_law_other", "_law_least", "_law_ranks"]) (js := [none, some 8, some 3]) (XN := ["_law_script", "_law_many", "_law_turn", "_law_ranks", "_law_bases_here", "_law_k", "_law_cell", "_law_below", "_law_least"]) (xs := defScope sLawBases) rfl rfl rfl (by decide +kernel) (pi_list (pv 7)) (fun _ _ _ _ _ _ => (pg_name (i := 0) (show List.Nodup (["_law_other", "_law_least", "_law_ranks"] : List Str) from by decide +kernel) rfl (Or.inl rfl) (Or.inr rfl))) (fun _ _ _ _ _ _ => (pts_one (pt_cmpR op_eq (pe_ix (ix_listC (K := K) rfl) (pv 2) (pv 0) (fun _ _ => rfl)) (pv 1) (nomark _)))) (fun _ _ _ _ _ _ => (pv 0))))) pss_nil)
      (pss_one (ps_if (PW.pt (pw_or (pt_cmpR op_eq (pe_op op_mod (pv 6) pe_int) pe_int (nomark _)) (pw_or1 (pt_cmpR (op_eqL hr.units0) (pv 7) (pe_lst pa_nil) (nomark _))))) (pss_one (ps_expr (pe_bm PySem.F.plainAttrs_list PySem.F.slot_list_append PySem.F.type_list_append mt_append (pv 4) (pa_cons pe_non pa_nil star_con)))) (pss_one (ps_expr (pe_bm PySem.F.plainAttrs_list PySem.F.slot_list_append PySem.F.type_list_append mt_append (pv 4) (pa_cons (pe_ix ix_list (pv 7) (pe_op op_mod (pe_op op_fdiv (pv 6) pe_int) (pe_callB call_len (by rfl) T.n_len boot_len (pa_cons (pv 7) pa_nil star_nam))) (fun _ _ => rfl)) pa_nil star_sub))))))))))
      (pss_one (ps_ret (pv 4))))))), ?_⟩
    refine ⟨_, rfl, _, _, _, rfl, hS, by decide, ?_⟩
    generalize cell ns 2 = tn
    have bnd := rb (n := m) (by omega)
    refine ⟨_, rfl, _, rfl, bnd.1, bnd.2, ?_⟩
    refine comp_pure (fun v => match v with | .int j => .int (rkI tn j) | _ => .non) (fun σ' => ∃ v, σ' = [v, some (.int tn)]) feeds_range (fits (by rw [List.length_map, List.length_range]; exact Nat.le_trans hm (by decide))) ⟨none, rfl⟩ (fun v σ' H' RR hv sm s4 q => ?_) gk_name fun qr hqr => ?_
    · obtain ⟨v0, rfl⟩ := s4
      obtain ⟨j, hj, rfl⟩ := List.mem_map.mp hv
      exact ⟨_, rfl, _, rfl, _, _, rfl, rfl, (pos (by decide)), _, _, rfl, rfl, _, _, rfl, rfl, .inr (mulS (a := 0) (by omega) (by omega)), _, rfl, _, _, rfl, rfl, ⟨by decide, by decide⟩, _, _, rfl, rfl, _, _, rfl, rfl, (pos (by decide)), q _ ⟨_, rfl⟩⟩
    have er : (((List.range ((m : Int)).toNat).map fun i => V.int (0 + (i : Nat))).map fun v => match v with | .int j => V.int (rkI tn j) | _ => .non) = (List.range m).map fun j => V.int (rkI tn (j : Nat)) := by
      rw [List.map_map]
      refine List.map_congr_left fun j _ => ?_
      show V.int (rkI tn (0 + (j : Int))) = _
      rw [Int.zero_add]
    rw [er]
    have s1 := same_upd (o := .lst ((List.range m).map fun j => V.int (rkI tn (j : Nat)))) hqr
    have hr1 := upd_same (H := H) (a := qr) (o := .lst ((List.range m).map fun j => V.int (rkI tn (j : Nat))))
    generalize upd H qr _ = H1 at s1 hr1 ⊢
    have rkV : ∀ {j : Nat}, j < m → ((List.range m).map fun j => V.int (rkI tn (j : Nat)))[j]? = some (V.int (rkI tn (j : Nat))) := fun {j} hj => by rw [List.getElem?_map, List.getElem?_range hj]; rfl
    refine ⟨fit0, fun qb hqb => ?_⟩
    have s2 := s1.trans (same_upd (o := .lst []) hqb)
    have hr2 := same_upd (o := .lst []) hqb _ _ hr1
    have hb2 := upd_same (H := H1) (a := qb) (o := .lst [])
    have nb := s1.free hqb
    have nbr : qr ≠ qb := fun z => by rw [← z, hr1] at hqb; cases hqb
    generalize upd H1 qb _ = H2 at s2 hr2 hb2 ⊢
    refine ⟨_, rfl, _, rfl, bnd.1, bnd.2, for_range (lo := 0) (n := ((m : Int)).toNat) (fun i σ H' => Same H H' ∧ ∃ (v5 v6 v7 v8 : Option V) (bs : List (Option Nat)), σ = [some (.ref l), some (.int (m : Int)), some (.int tn), some (.ref qr), some (.ref qb), v5, v6, v7, v8] ∧ H' qb = some (.lst (bs.map encO)) ∧ H' qr = some (.lst ((List.range m).map fun j => V.int (rkI tn (j : Nat)))) ∧ bs.length = i ∧ ∀ (k b : Nat), bs[k]? = some (some b) → b < m ∧ rkI tn b < rkI tn k)
      ⟨s2, none, none, none, none, [], rfl, hb2, hr2, rfl, fun k b z => by cases z⟩ ?_ ?_⟩
    · rintro i σ H' hi ⟨s3, v5, v6, v7, v8, bs, rfl, gq, gr, hl, ok⟩
      have hi : i < m := hi
      rw [Int.zero_add]
      have lz : (bs.map encO).length ≤ 90000 := by rw [List.length_map]; omega
      refine ⟨_, rfl, _, rfl, _, _, rfl, rfl, _, _, _, rfl, s3.seq hS, by omega, ?_⟩
      generalize cell ns (3 + (i : Int)) = c
      have fin : ∀ (H5 : Hp) (v : Option Nat), Same H H5 → H5 qb = some (.lst (bs.map encO)) → H5 qr = some (.lst ((List.range m).map fun j => V.int (rkI tn (j : Nat)))) → (∀ b, v = some b → b < m ∧ rkI tn b < rkI tn i) →
          Same H (upd H5 qb (.lst (bs.map encO ++ [encO v]))) ∧ upd H5 qb (.lst (bs.map encO ++ [encO v])) qb = some (.lst ((bs ++ [v]).map encO)) ∧ upd H5 qb (.lst (bs.map encO ++ [encO v])) qr = some (.lst ((List.range m).map fun j => V.int (rkI tn (j : Nat)))) ∧ (bs ++ [v]).length = i + 1 ∧ ∀ (k b : Nat), (bs ++ [v])[k]? = some (some b) → b < m ∧ rkI tn b < rkI tn k := fun H5 v z1 z2 z3 hv =>
        ⟨same_add z1 nb, by rw [upd_same, List.map_append]; rfl, (upd_ne nbr).trans z3, by rw [List.length_append, hl]; rfl, bas_snoc hl ok hv⟩
      refine ⟨_, rfl, _, rfl, bnd.1, bnd.2, ?_⟩
      refine comp_filt (fun v => match v with | .int j => decide (rkI tn j < rkI tn i) | _ => false) (fun v => v) (fun σ' => ∃ v, σ' = [v, some (.ref qr), some (.int (i : Int))]) feeds_range (fits (by rw [List.length_map, List.length_range]; exact Nat.le_trans hm (by decide))) ⟨none, rfl⟩ (fun v σ' H' N RR hv sm s4 kn ky => ?_) gk_name fun pb hpb => ?_
      · obtain ⟨v0, rfl⟩ := s4
        obtain ⟨j, hj, rfl⟩ := List.mem_map.mp hv
        have hj : j < m := List.mem_range.mp hj
        rw [Int.zero_add] at kn ky ⊢
        refine ⟨_, rfl, _, rfl, _, _, _, _, rfl, rfl, SqL.of (sm _ _ gr), atI_nat (rkV hj), _, rfl, _, rfl, _, _, _, _, rfl, rfl, SqL.of (sm _ _ gr), atI_nat (rkV hi), _, _, rfl, rfl, _, rfl, ?_⟩
        by_cases cc : rkI tn j < rkI tn i
        · exact iteD cc ⟨_, rfl, ky _ ⟨_, rfl⟩ (decide_eq_true cc)⟩
        · exact iteDn cc (kn _ ⟨_, rfl⟩ (decide_eq_false cc))
      obtain ⟨bl, eb, ll, pl⟩ : ∃ bl : List Nat, ((((List.range ((m : Int)).toNat).map fun i => V.int (0 + (i : Nat))).filter fun v => match v with | .int j => decide (rkI tn j < rkI tn i) | _ => false).map fun v => v) = bl.map encI ∧ bl.length ≤ m ∧ ∀ j ∈ bl, j < m ∧ rkI tn j < rkI tn i := by
        refine ⟨(List.range m).filter fun j => decide (rkI tn j < rkI tn i), ?_, Nat.le_trans (List.length_filter_le _ _) (Nat.le_of_eq List.length_range), fun j hj => ?_⟩
        · rw [List.map_id', List.filter_map]
          refine (congrArg _ (List.filter_congr fun j _ => ?_)).trans (List.map_congr_left fun j _ => ?_)
          · show decide (rkI tn (0 + (j : Int)) < rkI tn i) = _
            rw [Int.zero_add]
          · show V.int (0 + (j : Int)) = _
            rw [Int.zero_add]
            rfl
        · obtain ⟨z1, z2⟩ := List.mem_filter.mp hj
          exact ⟨List.mem_range.mp z1, of_decide_eq_true z2⟩
      rw [eb]
      have t5 := s3.trans (same_upd (o := .lst (bl.map encI)) hpb)
      have gq := same_upd (o := .lst (bl.map encI)) hpb _ _ gq
      have gr := same_upd (o := .lst (bl.map encI)) hpb _ _ gr
      have gb := upd_same (H := H') (a := pb) (o := .lst (bl.map encI))
      generalize upd H' pb _ = H5 at t5 gq gr gb ⊢
      refine ⟨_, rfl, _, _, rfl, rfl, ⟨by decide, by decide⟩, _, _, rfl, rfl, (pos (by decide)), rfl, _, rfl, ite2 (fun _ => ?_) (fun _ => iteF ?_)⟩
      · refine ⟨_, rfl, fit0, fun e he => ?_⟩
        have t5 := t5.trans (same_upd (o := .lst []) he)
        have gq := same_upd (o := .lst []) he _ _ gq
        have gr := same_upd (o := .lst []) he _ _ gr
        have gb := same_upd (o := .lst []) he _ _ gb
        refine ⟨_, _, _, _, rfl, rfl, SqL.of gb, SqL.of upd_same, flat_encI _, rfl, _, rfl, ?_⟩
        generalize upd H5 e _ = H6 at t5 gq gr gb ⊢
        show if (!eqVs (bl.map encI) []) = true then _ else _
        rw [eq_nilV]
        by_cases en : bl = []
        · rw [show (bl.map encI).isEmpty = true by rw [en]; rfl]
          refine iteF ?_
          refine ⟨_, rfl, _, _, rfl, rfl, (pos (by decide)), rfl, _, rfl, ite2 (fun _ => iteT ?_) (fun _ => ?_)⟩
          · have pv : ∀ b, (none : Option Nat) = some b → b < m ∧ rkI tn b < rkI tn i := fun b z => nomatch z
            exact ⟨_, rfl, .inl ⟨rfl, _, SqL.of gq⟩, _, _, _, rfl, rfl, gq, lt1000 lz, (fin _ none t5 gq gr pv).1, _, _, _, _, _, rfl, (fin _ none t5 gq gr pv).2⟩
          · refine ⟨_, rfl, fit0, fun e he => ?_⟩
            have t5 := t5.trans (same_upd (o := .lst []) he)
            have gq := same_upd (o := .lst []) he _ _ gq
            have gr := same_upd (o := .lst []) he _ _ gr
            have gb := same_upd (o := .lst []) he _ _ gb
            refine ⟨_, _, _, _, rfl, rfl, SqL.of gb, SqL.of upd_same, flat_encI _, rfl, _, rfl, ?_⟩
            generalize upd _ e _ = H9 at t5 gq gr gb ⊢
            show if eqVs (bl.map encI) [] = true then _ else _
            rw [eq_nilV]
            by_cases en : bl = []
            · rw [en]
              refine iteT ?_
              have pv : ∀ b, (none : Option Nat) = some b → b < m ∧ rkI tn b < rkI tn i := fun b z => nomatch z
              exact ⟨_, rfl, .inl ⟨rfl, _, SqL.of gq⟩, _, _, _, rfl, rfl, gq, lt1000 lz, (fin _ none t5 gq gr pv).1, _, _, _, _, _, rfl, (fin _ none t5 gq gr pv).2⟩
            · rw [show (bl.map encI).isEmpty = false by cases bl with | nil => exact absurd rfl en | cons => rfl]
              refine iteF ?_
              obtain ⟨lp, b, hb, ea⟩ := pickN bl (c / 3) en
              have pv : ∀ b', some b = some b' → b' < m ∧ rkI tn b' < rkI tn i := fun b' z => by cases z; exact pl b hb
              exact ⟨_, rfl, .inl ⟨rfl, _, SqL.of gq⟩, _, rfl, _, rfl, _, _, rfl, rfl, ⟨by decide, by decide⟩, _, rfl, _, _, rfl, .inl ⟨_, SqL.of gb, rfl⟩, _, _, rfl, rfl, (pos lp), _, _, _, _, rfl, rfl, SqL.of gb, ea, _, _, _, rfl, rfl, gq, lt1000 lz, (fin _ (some b) t5 gq gr pv).1, _, _, _, _, _, rfl, (fin _ (some b) t5 gq gr pv).2⟩
        · rw [show (bl.map encI).isEmpty = false by cases bl with | nil => exact absurd rfl en | cons => rfl]
          refine iteT ⟨_, rfl, _, rfl, ⟨_, SqL.of gb⟩, ?_⟩
          have lb : bl.length ≤ 100000 := Nat.le_trans ll (Nat.le_trans hm (by decide))
          refine comp_pure (fun v => match v with | .int j => .int (rkI tn j) | _ => .non) (fun σ' => ∃ v, σ' = [v, some (.ref qr)]) (feeds_list (K := K) (SqL.of gb)) (fits (by rw [List.length_map]; exact lb)) ⟨none, rfl⟩ (fun v σ' H' RR hv sm s4 q => ?_) gk_name fun p5 hp5 => ?_
          · obtain ⟨v0, rfl⟩ := s4
            obtain ⟨j, hj, rfl⟩ := List.mem_map.mp hv
            exact ⟨_, rfl, _, rfl, _, _, _, _, rfl, rfl, SqL.of (sm _ _ gr), atI_nat (rkV (pl j hj).1), q _ ⟨_, rfl⟩⟩
          have em : ((bl.map encI).map fun v => match v with | .int j => V.int (rkI tn j) | _ => .non) = (bl.map fun j => rkI tn (j : Nat)).map V.int := by
            rw [List.map_map, List.map_map]
            rfl
          rw [em]
          have nr : (bl.map fun j => rkI tn (j : Nat)) ≠ [] := fun z => en (List.map_eq_nil_iff.mp z)
          refine ⟨_, _, rfl, SqL.of upd_same, nr, fun mx hmx => ?_⟩
          have t5 := t5.trans (same_upd (o := .lst ((bl.map fun j => rkI tn (j : Nat)).map V.int)) hp5)
          have gq := same_upd (o := .lst ((bl.map fun j => rkI tn (j : Nat)).map V.int)) hp5 _ _ gq
          have gr := same_upd (o := .lst ((bl.map fun j => rkI tn (j : Nat)).map V.int)) hp5 _ _ gr
          have gb := same_upd (o := .lst ((bl.map fun j => rkI tn (j : Nat)).map V.int)) hp5 _ _ gb
          generalize upd H6 p5 _ = H7 at t5 gq gr gb ⊢
          refine ⟨_, rfl, _, rfl, ⟨_, SqL.of gb⟩, ?_⟩
          refine comp_filt (fun v => match v with | .int j => decide (rkI tn j = mx) | _ => false) (fun v => v) (fun σ' => ∃ v, σ' = [v, some (.int mx), some (.ref qr)]) (feeds_list (K := K) (SqL.of gb)) (fits (by rw [List.length_map]; exact lb)) ⟨none, rfl⟩ (fun v σ' H' N RR hv sm s4 kn ky => ?_) gk_name fun p6 hp6 => ?_
          · obtain ⟨v0, rfl⟩ := s4
            obtain ⟨j, hj, rfl⟩ := List.mem_map.mp hv
            refine ⟨_, rfl, _, rfl, _, _, _, _, rfl, rfl, SqL.of (sm _ _ gr), atI_nat (rkV (pl j hj).1), _, rfl, rfl, _, rfl, ?_⟩
            by_cases cc : rkI tn j = mx
            · exact iteD (congrArg V.int cc) ⟨_, rfl, ky _ ⟨_, rfl⟩ (decide_eq_true cc)⟩
            · exact iteDn (fun z => cc (V.int.inj z)) (kn _ ⟨_, rfl⟩ (decide_eq_false cc))
          obtain ⟨b2, eb2, pl2⟩ : ∃ b2 : List Nat, (((bl.map encI).filter fun v => match v with | .int j => decide (rkI tn j = mx) | _ => false).map fun v => v) = b2.map encI ∧ ∀ j ∈ b2, j < m ∧ rkI tn j < rkI tn i := by
            refine ⟨bl.filter fun j => decide (rkI tn (j : Nat) = mx), ?_, fun j hj => pl j (List.mem_filter.mp hj).1⟩
            rw [List.map_id', List.filter_map]
            rfl
          rw [eb2]
          have t5 := t5.trans (same_upd (o := .lst (b2.map encI)) hp6)
          have gq := same_upd (o := .lst (b2.map encI)) hp6 _ _ gq
          have gr := same_upd (o := .lst (b2.map encI)) hp6 _ _ gr
          have gb := upd_same (H := H7) (a := p6) (o := .lst (b2.map encI))
          generalize upd H7 p6 _ = H8 at t5 gq gr gb ⊢
          clear en eb ll pl lb em nr hmx
          have pl := pl2
          generalize b2 = bl at gb pl
          refine ⟨_, rfl, _, _, rfl, rfl, (pos (by decide)), rfl, _, rfl, ite2 (fun _ => iteT ?_) (fun _ => ?_)⟩
          · have pv : ∀ b, (none : Option Nat) = some b → b < m ∧ rkI tn b < rkI tn i := fun b z => nomatch z
            exact ⟨_, rfl, .inl ⟨rfl, _, SqL.of gq⟩, _, _, _, rfl, rfl, gq, lt1000 lz, (fin _ none t5 gq gr pv).1, _, _, _, _, _, rfl, (fin _ none t5 gq gr pv).2⟩
          · refine ⟨_, rfl, fit0, fun e he => ?_⟩
            have t5 := t5.trans (same_upd (o := .lst []) he)
            have gq := same_upd (o := .lst []) he _ _ gq
            have gr := same_upd (o := .lst []) he _ _ gr
            have gb := same_upd (o := .lst []) he _ _ gb
            refine ⟨_, _, _, _, rfl, rfl, SqL.of gb, SqL.of upd_same, flat_encI _, rfl, _, rfl, ?_⟩
            generalize upd _ e _ = H9 at t5 gq gr gb ⊢
            show if eqVs (bl.map encI) [] = true then _ else _
            rw [eq_nilV]
            by_cases en : bl = []
            · rw [en]
              refine iteT ?_
              have pv : ∀ b, (none : Option Nat) = some b → b < m ∧ rkI tn b < rkI tn i := fun b z => nomatch z
              exact ⟨_, rfl, .inl ⟨rfl, _, SqL.of gq⟩, _, _, _, rfl, rfl, gq, lt1000 lz, (fin _ none t5 gq gr pv).1, _, _, _, _, _, rfl, (fin _ none t5 gq gr pv).2⟩
            · rw [show (bl.map encI).isEmpty = false by cases bl with | nil => exact absurd rfl en | cons => rfl]
              refine iteF ?_
              obtain ⟨lp, b, hb, ea⟩ := pickN bl (c / 3) en
              have pv : ∀ b', some b = some b' → b' < m ∧ rkI tn b' < rkI tn i := fun b' z => by cases z; exact pl b hb
              exact ⟨_, rfl, .inl ⟨rfl, _, SqL.of gq⟩, _, rfl, _, rfl, _, _, rfl, rfl, ⟨by decide, by decide⟩, _, rfl, _, _, rfl, .inl ⟨_, SqL.of gb, rfl⟩, _, _, rfl, rfl, (pos lp), _, _, _, _, rfl, rfl, SqL.of gb, ea, _, _, _, rfl, rfl, gq, lt1000 lz, (fin _ (some b) t5 gq gr pv).1, _, _, _, _, _, rfl, (fin _ (some b) t5 gq gr pv).2⟩
      · refine ⟨_, rfl, _, _, rfl, rfl, (pos (by decide)), rfl, _, rfl, ite2 (fun _ => iteT ?_) (fun _ => ?_)⟩
        · have pv : ∀ b, (none : Option Nat) = some b → b < m ∧ rkI tn b < rkI tn i := fun b z => nomatch z
          exact ⟨_, rfl, .inl ⟨rfl, _, SqL.of gq⟩, _, _, _, rfl, rfl, gq, lt1000 lz, (fin _ none t5 gq gr pv).1, _, _, _, _, _, rfl, (fin _ none t5 gq gr pv).2⟩
        · refine ⟨_, rfl, fit0, fun e he => ?_⟩
          have t5 := t5.trans (same_upd (o := .lst []) he)
          have gq := same_upd (o := .lst []) he _ _ gq
          have gr := same_upd (o := .lst []) he _ _ gr
          have gb := same_upd (o := .lst []) he _ _ gb
          refine ⟨_, _, _, _, rfl, rfl, SqL.of gb, SqL.of upd_same, flat_encI _, rfl, _, rfl, ?_⟩
          generalize upd _ e _ = H9 at t5 gq gr gb ⊢
          show if eqVs (bl.map encI) [] = true then _ else _
          rw [eq_nilV]
          by_cases en : bl = []
          · rw [en]
            refine iteT ?_
            have pv : ∀ b, (none : Option Nat) = some b → b < m ∧ rkI tn b < rkI tn i := fun b z => nomatch z
            exact ⟨_, rfl, .inl ⟨rfl, _, SqL.of gq⟩, _, _, _, rfl, rfl, gq, lt1000 lz, (fin _ none t5 gq gr pv).1, _, _, _, _, _, rfl, (fin _ none t5 gq gr pv).2⟩
          · rw [show (bl.map encI).isEmpty = false by cases bl with | nil => exact absurd rfl en | cons => rfl]
            refine iteF ?_
            obtain ⟨lp, b, hb, ea⟩ := pickN bl (c / 3) en
            have pv : ∀ b', some b = some b' → b' < m ∧ rkI tn b' < rkI tn i := fun b' z => by cases z; exact pl b hb
            exact ⟨_, rfl, .inl ⟨rfl, _, SqL.of gq⟩, _, rfl, _, rfl, _, _, rfl, rfl, ⟨by decide, by decide⟩, _, rfl, _, _, rfl, .inl ⟨_, SqL.of gb, rfl⟩, _, _, rfl, rfl, (pos lp), _, _, _, _, rfl, rfl, SqL.of gb, ea, _, _, _, rfl, rfl, gq, lt1000 lz, (fin _ (some b) t5 gq gr pv).1, _, _, _, _, _, rfl, (fin _ (some b) t5 gq gr pv).2⟩
    · rintro σ H' ⟨s3, v5, v6, v7, v8, bs, rfl, gq, gr, hl, ok⟩
      exact ⟨_, rfl, k qb H' bs tn nb s3 gq hl ok⟩
set_option maxHeartbeats 4000000 in
theorem okLawDue (T : Txt K mg a) : FnOk P w K mg base CX0 1 a.fLawDue a.gLawDue ["_law_names", "_law_bases_here"] spDue := by
  refine T.dLawDue.fn.ok scLawDue (fun vs H Q E h => ?_) (fun cdv A outer s H vs Q E hr h => ?_)
  · obtain ⟨_, _, _, _, _, rfl, _⟩ := h
    all_goals rfl
  · obtain ⟨pn, pb, nms, bs, rk, rfl, hn, hb, wd, k⟩ := h
    refine ⟨_, (pss_cons (ps_set (i := 2) scLawDue.nd rfl (Or.inl rfl) (pe_lst pa_nil))
      (pss_cons (ps_for PassesOwn.never rfl (pi_range1 rfl T.n_range (pa_cons (pe_callB call_len (by rfl) T.n_len boot_len (pa_cons (pv 0) pa_nil star_nam)) pa_nil star_cal)) (pg_name (i := 3) scLawDue.nd rfl (Or.inl rfl)) (pss_cons (ps_set (i := 4) scLawDue.nd rfl (Or.inl rfl) (pe_lst pa_nil))
      (pss_cons (ps_set (i := 5) scLawDue.nd rfl (Or.inl rfl) (pv 3))
      (pss_cons (ps_while PassesOwn.never (PW.pt (pw_and (pt_cmpR op_notN (pv 5) pe_non (nomark _)) (pw_and1 (pt_cmpR op_notIn_seq (pe_ix ix_list (pv 0) (pv 5) (fun _ _ => rfl)) (pv 2) (by with_unfolding_all rfl))))) (pss_cons (ps_expr (pe_bm PySem.F.plainAttrs_list PySem.F.slot_list_append PySem.F.type_list_append mt_append (pv 4) (pa_cons (pe_ix ix_list (pv 0) (pv 5) (fun _ _ => rfl)) pa_nil star_sub)))
      (pss_one (ps_set (i := 5) scLawDue.nd rfl (Or.inl rfl) (pe_ix ix_list (pv 1) (pv 5) (fun _ _ => rfl))))))
      (pss_one (ps_set (i := 2) scLawDue.nd rfl (Or.inl rfl) (pe_op op_cat (pv 2) (pe_listRev rfl (by rfl) T.n_list (by rfl) T.n_reversed boot_list (pa_cons (pv 4) pa_nil star_nam)))))))))
      (pss_one (ps_ret (pv 2))))), ?_⟩
    refine ⟨fit0, fun q hq => ?_⟩
    have s0 := same_upd (o := .lst []) hq
    have h0 := upd_same (H := H) (a := q) (o := .lst [])
    generalize upd H q _ = H0 at s0 h0 ⊢
    have ln : (nms.map V.str).length = nms.length := List.length_map _
    have sm := wd.sm
    have bnd := rb (n := (nms.map V.str).length) (by omega)
    refine ⟨_, rfl, _, _, rfl, .inl ⟨_, SqL.of (s0 _ _ hn), rfl⟩, _, rfl, bnd.1, bnd.2, for_range (lo := 0) (n := (((nms.map V.str).length : Int)).toNat) (fun i σ H' => Same H H' ∧ ∃ (qd : Addr) (v3 v4 v5 : Option V), σ = [some (.ref pn), some (.ref pb), some (.ref qd), v3, v4, v5] ∧ H qd = none ∧ H' qd = some (.lst ((ordW nms bs i).map V.str)))
      ⟨s0, q, none, none, none, rfl, hq, h0⟩ ?_ ?_⟩
    · rintro i σ H1 hi ⟨s1, qd, v3, v4, v5, rfl, nd, h1⟩
      have hi : i < nms.length := by rw [← ln]; exact hi
      rw [Int.zero_add]
      refine ⟨fit0, fun qa ha => ?_⟩
      have s2 := same_upd (o := .lst []) ha
      have h2 := upd_same (H := H1) (a := qa) (o := .lst [])
      generalize upd H1 qa _ = H2 at s2 h2 ⊢
      refine ⟨_, rfl, ?_⟩
      refine ⟨fun m σ' H' => Same H1 H' ∧ ∃ pa : List Str, H' qa = some (.lst (pa.map V.str)) ∧ pa.length ≤ 7 ∧ ((∃ at_ : Nat, σ' = [some (.ref pn), some (.ref pb), some (.ref qd), some (.int (i : Int)), some (.ref qa), some (.int (at_ : Int))] ∧ at_ < nms.length ∧ rk at_ < m ∧ pa ++ upW nms bs (ordW nms bs i) m at_ = upW nms bs (ordW nms bs i) 7 i ∧ pa.length + m = 7) ∨
        (σ' = [some (.ref pn), some (.ref pb), some (.ref qd), some (.int (i : Int)), some (.ref qa), some .non] ∧ pa = upW nms bs (ordW nms bs i) 7 i)), ⟨7, s2, [], h2, Nat.zero_le _, .inl ⟨i, rfl, hi, wd.lo i, rfl, rfl⟩⟩, ?_⟩
      have fin : ∀ (H' : Hp) (vz : V), Same H1 H' → H' qa = some (.lst ((upW nms bs (ordW nms bs i) 7 i).map V.str)) → ∀ (p5 p6 : Addr) (H5 : Hp), H' p5 = none → H5 = upd H' p5 (.lst ((upW nms bs (ordW nms bs i) 7 i).map V.str).reverse) → H5 p6 = none →
          Same H (upd H5 p6 (.lst ((ordW nms bs i).map V.str ++ ((upW nms bs (ordW nms bs i) 7 i).map V.str).reverse))) ∧ ∃ (qd' : Addr) (v3 v4 v5 : Option V), [some (V.ref pn), some (.ref pb), some (.ref p6), some (.int (i : Int)), some (.ref qa), some vz] = [some (V.ref pn), some (.ref pb), some (.ref qd'), v3, v4, v5] ∧ H qd' = none ∧ upd H5 p6 (.lst ((ordW nms bs i).map V.str ++ ((upW nms bs (ordW nms bs i) 7 i).map V.str).reverse)) qd' = some (.lst ((ordW nms bs (i + 1)).map V.str)) := fun H' vz z1 z2 p5 p6 H5 n5 e5 n6 => by
        have z3 : Same H' H5 := by rw [e5]; exact same_upd n5
        have z4 := (s1.trans z1).trans z3
        refine ⟨z4.trans (same_upd n6), p6, _, _, _, rfl, z4.free n6, ?_⟩
        rw [upd_same, ordW_succ, List.map_append, List.map_reverse]
      have lens : ((ordW nms bs i).map V.str).length + ((upW nms bs (ordW nms bs i) 7 i).map V.str).reverse.length ≤ sizeLine := fits (by
        have a := ordW_len nms bs i
        have b := upW_len nms bs (ordW nms bs i) 7 i
        rw [List.length_reverse, List.length_map, List.length_map]; omega)
      rintro m σ' H' ⟨z1, pa, g1, lp, ⟨at_, rfl, ha', hm, tot, hl⟩ | ⟨rfl, e⟩⟩
      · have z0 := s1.trans z1
        refine ⟨_, rfl, rfl, _, rfl, iteNN (fun z => nomatch z) ⟨_, rfl, _, rfl, _, _, _, _, rfl, rfl, SqL.of (z0 _ _ hn), atI_nat (nmV ha'), _, rfl, _, _, rfl, .inl (SqL.of (z1 _ _ h1)), rfl, flat_strs _, _, rfl, ?_⟩⟩
        show if (!inV (.str (nm nms at_)) ((ordW nms bs i).map V.str)) = true then _ else _
        rw [inV_strs]
        cases ec : (ordW nms bs i).contains (nm nms at_) with
        | true =>
          rw [up_stop (List.contains_iff_mem.mp ec), List.append_nil] at tot
          rw [tot] at g1
          exact iteF ⟨_, rfl, _, rfl, _, _, rfl, SqL.of g1, fun p5 n5 => ⟨_, _, _, _, rfl, rfl, same_upd n5 _ _ (z1 _ _ h1), upd_same, lens, fun p6 n6 => fin H' _ z1 g1 p5 p6 _ n5 rfl n6⟩⟩
        | false =>
          have nt : ¬ nm nms at_ ∈ ordW nms bs i := fun z => by rw [List.contains_iff_mem.mpr z] at ec; cases ec
          obtain ⟨f, rfl⟩ : ∃ f, m = f + 1 := ⟨m - 1, by omega⟩
          rw [up_take nt] at tot
          have lz : (pa.map V.str).length ≤ 90000 := by rw [List.length_map]; omega
          refine iteT ⟨fun σ2 H2 => Same H1 H2 ∧ ∃ pa : List Str, H2 qa = some (.lst (pa.map V.str)) ∧ pa.length ≤ 7 ∧ ((∃ at_ : Nat, σ2 = [some (.ref pn), some (.ref pb), some (.ref qd), some (.int (i : Int)), some (.ref qa), some (.int (at_ : Int))] ∧ at_ < nms.length ∧ rk at_ < f ∧ pa ++ upW nms bs (ordW nms bs i) f at_ = upW nms bs (ordW nms bs i) 7 i ∧ pa.length + f = 7) ∨
            (σ2 = [some (.ref pn), some (.ref pb), some (.ref qd), some (.int (i : Int)), some (.ref qa), some .non] ∧ pa = upW nms bs (ordW nms bs i) 7 i)), fun σ2 H2 z => ⟨f, Nat.lt_succ_self f, z⟩, ?_⟩
          refine ⟨_, rfl, .inl ⟨rfl, _, SqL.of g1⟩, _, rfl, _, rfl, _, _, _, _, rfl, rfl, SqL.of (z0 _ _ hn), atI_nat (nmV ha'), _, _, _, rfl, rfl, g1, lt1000 lz, ?_⟩
          have y2 : Same H1 (upd H' qa (.lst (pa.map V.str ++ [V.str (nm nms at_)]))) := same_add z1 ha
          have g2 : upd H' qa (.lst (pa.map V.str ++ [V.str (nm nms at_)])) qa = some (.lst ((pa ++ [nm nms at_]).map V.str)) := by rw [upd_same, List.map_append]; rfl
          generalize upd H' qa _ = H3 at y2 g2 ⊢
          have hab : at_ < bs.length := by rw [wd.len]; exact ha'
          refine ⟨_, rfl, _, rfl, _, _, _, _, rfl, rfl, SqL.of ((s1.trans y2) _ _ hb), atI_nat (boV hab), ?_⟩
          have l2 : (pa ++ [nm nms at_]).length ≤ 7 := by rw [List.length_append]; show pa.length + 1 ≤ 7; omega
          cases eb : bo bs at_ with
          | none =>
            rw [eb] at tot
            exact ⟨y2, _, g2, l2, .inr ⟨rfl, tot.symm ▸ rfl⟩⟩
          | some b =>
            rw [eb] at tot
            obtain ⟨b1, b2⟩ := wd.ok at_ b (by rw [bo_at hab, eb])
            refine ⟨y2, _, g2, l2, .inl ⟨b, rfl, b1, by omega, ?_, by rw [List.length_append]; show pa.length + 1 + f = 7; omega⟩⟩
            rw [List.append_assoc]
            exact tot
      · rw [e] at g1
        exact ⟨_, rfl, rfl, _, rfl, iteND rfl (iteF ⟨_, rfl, _, rfl, _, _, rfl, SqL.of g1, fun p5 n5 => ⟨_, _, _, _, rfl, rfl, same_upd n5 _ _ (z1 _ _ h1), upd_same, lens, fun p6 n6 => fin H' _ z1 g1 p5 p6 _ n5 rfl n6⟩⟩)⟩
    · rintro σ H' ⟨s1, qd, v3, v4, v5, rfl, nd, h1⟩
      rw [show (((nms.map V.str).length : Int)).toNat = nms.length from ln] at h1
      exact ⟨_, rfl, k qd H' nd s1 h1⟩
set_option maxHeartbeats 4000000 in
theorem okLawTexts (T : Txt K mg a) : FnOk P w K mg base CX0 1 a.fLawTexts a.gLawTexts ["_law_found", "_law_due_here"] spTexts := by
  refine T.dLawTexts.fn.ok scLawTexts (fun vs H Q E h => ?_) (fun cdv A outer s H vs Q E hr h => ?_)
  · obtain ⟨_, _, _, rfl, _⟩ := h
    all_goals rfl
  · obtain ⟨p, q, xs, rfl, hp, hq, hl, k⟩ := h
    refine ⟨_, (pss_cons (ps_if (PW.pt (pw_or (pt_not (pt_val (pe_callB call_isi (by rfl) T.n_isinstance boot_isinstance (pa_cons (pv 0) (pa_cons (pe_bltn (v := .ty "list") rfl T.n_list boot_list rfl) pa_nil star_nam) star_nam)))) (pw_or1 (pt_not (pt_val (pe_callB (call_allB rfl) (by rfl) T.n_all boot_all (pa_cons (pe_comp (N := ["_law_name"]) (js := [none]) (XN := ["_law_found", "_law_due_here"]) (xs := defScope sLawTexts) rfl rfl rfl (by decide +kernel) (pi_list (pv 0)) (fun _ _ _ _ _ _ => (pg_name (i := 0) (show List.Nodup (["_law_name"] : List Str) from by decide +kernel) rfl (Or.inl rfl) (Or.inr rfl))) (fun _ _ _ _ _ _ => pts_nil) (fun _ _ _ _ _ _ => (pe_callB (call_isiC (K := K) rfl) (by rfl) T.n_isinstance boot_isinstance (pa_cons (pv 0) (pa_cons (pe_bltn (v := .ty "str") rfl T.n_str boot_str rfl) pa_nil star_nam) star_nam)))) pa_nil star_cmp))))))) (pss_one (ps_ret pe_bl)) pss_nil)
      (pss_one (ps_ret (pe_cmpR (op_eqL hr.units0) (pv 0) (pv 1) (nomark _))))), ?_⟩
    refine ⟨_, rfl, _, _, _, _, rfl, .lst hp, kit_lst_lst, _, rfl, iteF ?_⟩
    refine ⟨_, rfl, _, rfl, ⟨_, SqL.of hp⟩, ?_⟩
    refine comp_pure (fun _ => .bl true) (fun σ' => ∃ v, σ' = [v]) (feeds_list (K := K) (SqL.of hp)) (fits (by rw [List.length_map]; exact Nat.le_trans hl (by decide))) ⟨none, rfl⟩ (fun v σ' H' RR hv sm s4 q => ?_) gk_name fun p5 hp5 => ?_
    · obtain ⟨v0, rfl⟩ := s4
      obtain ⟨x, _, rfl⟩ := List.mem_map.mp hv
      exact ⟨_, rfl, _, _, _, _, rfl, .str _, kit_str_str, q _ ⟨_, rfl⟩⟩
    have e5 : ((xs.map V.str).map fun _ => V.bl true) = (xs.map fun _ => true).map V.bl := by rw [List.map_map, List.map_map]; rfl
    rw [e5]
    have s1 := same_upd (o := .lst ((xs.map fun _ => true).map V.bl)) hp5
    have ea : (xs.map fun _ => true).all (fun b => b) = true := by rw [List.all_map]; exact List.all_eq_true.mpr fun _ _ => rfl
    refine ⟨_, _, rfl, SqL.of upd_same, ?_⟩
    rw [ea]
    refine ⟨_, rfl, iteF ⟨_, rfl, _, rfl, _, _, _, _, rfl, rfl, SqL.of (s1 _ _ hp), SqL.of (s1 _ _ hq), flat_strs _, flat_strs _, ?_⟩⟩
    show Q (.bl (eqVs (xs.map V.str) (xs.map V.str))) _
    rw [eqVs_self (flat_strs _)]
    exact k _ s1
set_option maxHeartbeats 4000000 in
theorem okRuleInit (T : Txt K mg a) : FnOk P w K mg base CX0 1 a.fRuleInit a.gRuleInit ["self", "name", "who", "owes", "opens", "base", "many", "unit", "still"] (spRInit a) := by
  refine T.dRuleInit.fn.ok scRuleInit (fun vs H Q E h => ?_) (fun cdv A outer s H vs Q E hr h => ?_)
  · obtain ⟨_, _, _, _, _, _, _, _, _, _, rfl, _⟩ := h
    all_goals rfl
  · obtain ⟨x, dx, nx, w, o, op, b, m, u, s', rfl, x0, k⟩ := h
    refine ⟨_, (pss_cons (ps_fld (pv 0) (pv 1) rfl)
      (pss_cons (ps_fld (pv 0) (pv 2) rfl)
      (pss_cons (ps_fld (pv 0) (pv 3) rfl)
      (pss_cons (ps_fld (pv 0) (pv 4) rfl)
      (pss_cons (ps_fld (pv 0) (pv 5) rfl)
      (pss_cons (ps_fld (pv 0) (pv 6) rfl)
      (pss_cons (ps_fld (pv 0) (pv 7) rfl)
      (pss_cons (ps_fld (pv 0) (pv 8) rfl)
      (pss_cons (ps_fld (pv 0) (pe_lst pa_nil) rfl)
      (pss_cons (ps_fld (pv 0) (pe_lst pa_nil) rfl)
      (pss_cons (ps_fld (pv 0) (pe_lst pa_nil) rfl)
      (pss_one (ps_fld (pv 0) (pe_lst pa_nil) rfl))))))))))))), ?_⟩
    have b0 : SameBut x H H := fun _ _ _ e => e
    have l0 : ([] : List (Str × V)).length ≤ 0 := Nat.le_refl _
    refine ⟨_, rfl, _, rfl, _, _, _, _, rfl, x0, T.c_Rule, xno_of T.n_Rule (by decide), Nat.lt_of_le_of_lt l0 (by decide), ?_⟩
    have b1 : SameBut x H (upd H x (.ins a.cRule dx (putF (Str.ofString "name") (.str nx) []))) := b0.set
    have x1 := upd_same (H := H) (a := x) (o := (.ins a.cRule dx (putF (Str.ofString "name") (.str nx) [])))
    have l1 : (putF (Str.ofString "name") (.str nx) []).length ≤ 1 := ln_put l0
    have n1 := lk_same (Str.ofString "name") (.str nx) []
    generalize upd H x _ = H1 at b1 x1 ⊢
    generalize putF (Str.ofString "name") (.str nx) [] = fs1 at x1 l1 n1
    refine ⟨_, rfl, _, rfl, _, _, _, _, rfl, x1, T.c_Rule, xno_of T.n_Rule (by decide), Nat.lt_of_le_of_lt l1 (by decide), ?_⟩
    have b2 : SameBut x H (upd H1 x (.ins a.cRule dx (putF (Str.ofString "who") (w) fs1))) := b1.set
    have x2 := upd_same (H := H1) (a := x) (o := (.ins a.cRule dx (putF (Str.ofString "who") (w) fs1)))
    have l2 : (putF (Str.ofString "who") (w) fs1).length ≤ 2 := ln_put l1
    have n2 := lk_ne (f := Str.ofString "who") (w) (show Str.ofString "name" ≠ Str.ofString "who" by decide +kernel) n1
    generalize upd H1 x _ = H2 at b2 x2 ⊢
    generalize putF (Str.ofString "who") (w) fs1 = fs2 at x2 l2 n2
    refine ⟨_, rfl, _, rfl, _, _, _, _, rfl, x2, T.c_Rule, xno_of T.n_Rule (by decide), Nat.lt_of_le_of_lt l2 (by decide), ?_⟩
    have b3 : SameBut x H (upd H2 x (.ins a.cRule dx (putF (Str.ofString "owes") (o) fs2))) := b2.set
    have x3 := upd_same (H := H2) (a := x) (o := (.ins a.cRule dx (putF (Str.ofString "owes") (o) fs2)))
    have l3 : (putF (Str.ofString "owes") (o) fs2).length ≤ 3 := ln_put l2
    have n3 := lk_ne (f := Str.ofString "owes") (o) (show Str.ofString "name" ≠ Str.ofString "owes" by decide +kernel) n2
    generalize upd H2 x _ = H3 at b3 x3 ⊢
    generalize putF (Str.ofString "owes") (o) fs2 = fs3 at x3 l3 n3
    refine ⟨_, rfl, _, rfl, _, _, _, _, rfl, x3, T.c_Rule, xno_of T.n_Rule (by decide), Nat.lt_of_le_of_lt l3 (by decide), ?_⟩
    have b4 : SameBut x H (upd H3 x (.ins a.cRule dx (putF (Str.ofString "opens") (op) fs3))) := b3.set
    have x4 := upd_same (H := H3) (a := x) (o := (.ins a.cRule dx (putF (Str.ofString "opens") (op) fs3)))
    have l4 : (putF (Str.ofString "opens") (op) fs3).length ≤ 4 := ln_put l3
    have n4 := lk_ne (f := Str.ofString "opens") (op) (show Str.ofString "name" ≠ Str.ofString "opens" by decide +kernel) n3
    generalize upd H3 x _ = H4 at b4 x4 ⊢
    generalize putF (Str.ofString "opens") (op) fs3 = fs4 at x4 l4 n4
    refine ⟨_, rfl, _, rfl, _, _, _, _, rfl, x4, T.c_Rule, xno_of T.n_Rule (by decide), Nat.lt_of_le_of_lt l4 (by decide), ?_⟩
    have b5 : SameBut x H (upd H4 x (.ins a.cRule dx (putF (Str.ofString "base") (b) fs4))) := b4.set
    have x5 := upd_same (H := H4) (a := x) (o := (.ins a.cRule dx (putF (Str.ofString "base") (b) fs4)))
    have l5 : (putF (Str.ofString "base") (b) fs4).length ≤ 5 := ln_put l4
    have n5 := lk_ne (f := Str.ofString "base") (b) (show Str.ofString "name" ≠ Str.ofString "base" by decide +kernel) n4
    have c5 := lk_same (Str.ofString "base") (b) fs4
    generalize upd H4 x _ = H5 at b5 x5 ⊢
    generalize putF (Str.ofString "base") (b) fs4 = fs5 at x5 l5 n5 c5
    refine ⟨_, rfl, _, rfl, _, _, _, _, rfl, x5, T.c_Rule, xno_of T.n_Rule (by decide), Nat.lt_of_le_of_lt l5 (by decide), ?_⟩
    have b6 : SameBut x H (upd H5 x (.ins a.cRule dx (putF (Str.ofString "many") (.int m) fs5))) := b5.set
    have x6 := upd_same (H := H5) (a := x) (o := (.ins a.cRule dx (putF (Str.ofString "many") (.int m) fs5)))
    have l6 : (putF (Str.ofString "many") (.int m) fs5).length ≤ 6 := ln_put l5
    have n6 := lk_ne (f := Str.ofString "many") (.int m) (show Str.ofString "name" ≠ Str.ofString "many" by decide +kernel) n5
    have c6 := lk_ne (f := Str.ofString "many") (.int m) (show Str.ofString "base" ≠ Str.ofString "many" by decide +kernel) c5
    have y6 := lk_same (Str.ofString "many") (.int m) fs5
    generalize upd H5 x _ = H6 at b6 x6 ⊢
    generalize putF (Str.ofString "many") (.int m) fs5 = fs6 at x6 l6 n6 c6 y6
    refine ⟨_, rfl, _, rfl, _, _, _, _, rfl, x6, T.c_Rule, xno_of T.n_Rule (by decide), Nat.lt_of_le_of_lt l6 (by decide), ?_⟩
    have b7 : SameBut x H (upd H6 x (.ins a.cRule dx (putF (Str.ofString "unit") (u) fs6))) := b6.set
    have x7 := upd_same (H := H6) (a := x) (o := (.ins a.cRule dx (putF (Str.ofString "unit") (u) fs6)))
    have l7 : (putF (Str.ofString "unit") (u) fs6).length ≤ 7 := ln_put l6
    have n7 := lk_ne (f := Str.ofString "unit") (u) (show Str.ofString "name" ≠ Str.ofString "unit" by decide +kernel) n6
    have c7 := lk_ne (f := Str.ofString "unit") (u) (show Str.ofString "base" ≠ Str.ofString "unit" by decide +kernel) c6
    have y7 := lk_ne (f := Str.ofString "unit") (u) (show Str.ofString "many" ≠ Str.ofString "unit" by decide +kernel) y6
    generalize upd H6 x _ = H7 at b7 x7 ⊢
    generalize putF (Str.ofString "unit") (u) fs6 = fs7 at x7 l7 n7 c7 y7
    refine ⟨_, rfl, _, rfl, _, _, _, _, rfl, x7, T.c_Rule, xno_of T.n_Rule (by decide), Nat.lt_of_le_of_lt l7 (by decide), ?_⟩
    have b8 : SameBut x H (upd H7 x (.ins a.cRule dx (putF (Str.ofString "still") (s') fs7))) := b7.set
    have x8 := upd_same (H := H7) (a := x) (o := (.ins a.cRule dx (putF (Str.ofString "still") (s') fs7)))
    have l8 : (putF (Str.ofString "still") (s') fs7).length ≤ 8 := ln_put l7
    have n8 := lk_ne (f := Str.ofString "still") (s') (show Str.ofString "name" ≠ Str.ofString "still" by decide +kernel) n7
    have c8 := lk_ne (f := Str.ofString "still") (s') (show Str.ofString "base" ≠ Str.ofString "still" by decide +kernel) c7
    have y8 := lk_ne (f := Str.ofString "still") (s') (show Str.ofString "many" ≠ Str.ofString "still" by decide +kernel) y7
    generalize upd H7 x _ = H8 at b8 x8 ⊢
    generalize putF (Str.ofString "still") (s') fs7 = fs8 at x8 l8 n8 c8 y8
    refine ⟨fit0, fun e8 he8 => ?_⟩
    have b8 := b8.trans (SameBut.of (same_upd (o := .lst []) he8))
    have x8 := same_upd (o := .lst []) he8 _ _ x8
    refine ⟨_, rfl, _, _, _, _, rfl, x8, T.c_Rule, xno_of T.n_Rule (by decide), Nat.lt_of_le_of_lt l8 (by decide), ?_⟩
    generalize upd H8 e8 _ = G8 at b8 x8 ⊢
    have b9 : SameBut x H (upd G8 x (.ins a.cRule dx (putF (Str.ofString "ends") (.ref e8) fs8))) := b8.set
    have x9 := upd_same (H := G8) (a := x) (o := (.ins a.cRule dx (putF (Str.ofString "ends") (.ref e8) fs8)))
    have l9 : (putF (Str.ofString "ends") (.ref e8) fs8).length ≤ 9 := ln_put l8
    have n9 := lk_ne (f := Str.ofString "ends") (.ref e8) (show Str.ofString "name" ≠ Str.ofString "ends" by decide +kernel) n8
    have c9 := lk_ne (f := Str.ofString "ends") (.ref e8) (show Str.ofString "base" ≠ Str.ofString "ends" by decide +kernel) c8
    have y9 := lk_ne (f := Str.ofString "ends") (.ref e8) (show Str.ofString "many" ≠ Str.ofString "ends" by decide +kernel) y8
    generalize upd G8 x _ = H9 at b9 x9 ⊢
    generalize putF (Str.ofString "ends") (.ref e8) fs8 = fs9 at x9 l9 n9 c9 y9
    refine ⟨fit0, fun e9 he9 => ?_⟩
    have b9 := b9.trans (SameBut.of (same_upd (o := .lst []) he9))
    have x9 := same_upd (o := .lst []) he9 _ _ x9
    refine ⟨_, rfl, _, _, _, _, rfl, x9, T.c_Rule, xno_of T.n_Rule (by decide), Nat.lt_of_le_of_lt l9 (by decide), ?_⟩
    generalize upd H9 e9 _ = G9 at b9 x9 ⊢
    have b10 : SameBut x H (upd G9 x (.ins a.cRule dx (putF (Str.ofString "anew") (.ref e9) fs9))) := b9.set
    have x10 := upd_same (H := G9) (a := x) (o := (.ins a.cRule dx (putF (Str.ofString "anew") (.ref e9) fs9)))
    have l10 : (putF (Str.ofString "anew") (.ref e9) fs9).length ≤ 10 := ln_put l9
    have n10 := lk_ne (f := Str.ofString "anew") (.ref e9) (show Str.ofString "name" ≠ Str.ofString "anew" by decide +kernel) n9
    have c10 := lk_ne (f := Str.ofString "anew") (.ref e9) (show Str.ofString "base" ≠ Str.ofString "anew" by decide +kernel) c9
    have y10 := lk_ne (f := Str.ofString "anew") (.ref e9) (show Str.ofString "many" ≠ Str.ofString "anew" by decide +kernel) y9
    generalize upd G9 x _ = H10 at b10 x10 ⊢
    generalize putF (Str.ofString "anew") (.ref e9) fs9 = fs10 at x10 l10 n10 c10 y10
    refine ⟨fit0, fun e10 he10 => ?_⟩
    have b10 := b10.trans (SameBut.of (same_upd (o := .lst []) he10))
    have x10 := same_upd (o := .lst []) he10 _ _ x10
    refine ⟨_, rfl, _, _, _, _, rfl, x10, T.c_Rule, xno_of T.n_Rule (by decide), Nat.lt_of_le_of_lt l10 (by decide), ?_⟩
    generalize upd H10 e10 _ = G10 at b10 x10 ⊢
    have b11 : SameBut x H (upd G10 x (.ins a.cRule dx (putF (Str.ofString "longer") (.ref e10) fs10))) := b10.set
    have x11 := upd_same (H := G10) (a := x) (o := (.ins a.cRule dx (putF (Str.ofString "longer") (.ref e10) fs10)))
    have l11 : (putF (Str.ofString "longer") (.ref e10) fs10).length ≤ 11 := ln_put l10
    have n11 := lk_ne (f := Str.ofString "longer") (.ref e10) (show Str.ofString "name" ≠ Str.ofString "longer" by decide +kernel) n10
    have c11 := lk_ne (f := Str.ofString "longer") (.ref e10) (show Str.ofString "base" ≠ Str.ofString "longer" by decide +kernel) c10
    have y11 := lk_ne (f := Str.ofString "longer") (.ref e10) (show Str.ofString "many" ≠ Str.ofString "longer" by decide +kernel) y10
    generalize upd G10 x _ = H11 at b11 x11 ⊢
    generalize putF (Str.ofString "longer") (.ref e10) fs10 = fs11 at x11 l11 n11 c11 y11
    refine ⟨fit0, fun e11 he11 => ?_⟩
    have b11 := b11.trans (SameBut.of (same_upd (o := .lst []) he11))
    have x11 := same_upd (o := .lst []) he11 _ _ x11
    refine ⟨_, rfl, _, _, _, _, rfl, x11, T.c_Rule, xno_of T.n_Rule (by decide), Nat.lt_of_le_of_lt l11 (by decide), ?_⟩
    generalize upd H11 e11 _ = G11 at b11 x11 ⊢
    have b12 : SameBut x H (upd G11 x (.ins a.cRule dx (putF (Str.ofString "yields") (.ref e11) fs11))) := b11.set
    have x12 := upd_same (H := G11) (a := x) (o := (.ins a.cRule dx (putF (Str.ofString "yields") (.ref e11) fs11)))
    have l12 : (putF (Str.ofString "yields") (.ref e11) fs11).length ≤ 12 := ln_put l11
    have n12 := lk_ne (f := Str.ofString "yields") (.ref e11) (show Str.ofString "name" ≠ Str.ofString "yields" by decide +kernel) n11
    have c12 := lk_ne (f := Str.ofString "yields") (.ref e11) (show Str.ofString "base" ≠ Str.ofString "yields" by decide +kernel) c11
    have y12 := lk_ne (f := Str.ofString "yields") (.ref e11) (show Str.ofString "many" ≠ Str.ofString "yields" by decide +kernel) y11
    generalize upd G11 x _ = H12 at b12 x12 ⊢
    generalize putF (Str.ofString "yields") (.ref e11) fs11 = fs12 at x12 l12 n12 c12 y12
    exact k _ _ b12 x12 n12 c12 y12
set_option maxHeartbeats 4000000 in
theorem okLawRule (T : Txt K mg a) : FnOk P w K mg base CX0 3 a.fLawRule a.gLawRule ["_law_names", "_law_bases_here", "_law_k"] (spRule a) := by
  refine T.dLawRule.fn.ok scLawRule (fun vs H Q E h => ?_) (fun cdv A outer s H vs Q E hr h => ?_)
  · obtain ⟨_, _, _, _, _, _, rfl, _⟩ := h
    all_goals rfl
  · obtain ⟨pn, pb, nms, bs, rk, k0, rfl, hn, hb, wd, hk, k⟩ := h
    refine ⟨_, (pss_cons (ps_if (pt_cmpR op_isN (pe_ix ix_list (pv 1) (pv 2) (fun _ _ => rfl)) pe_non (nomark _)) (pss_one (ps_ret (pe_make T.k_Rule (okRuleInit T) (hr.mono (by decide)) rfl T.m_Rule T.e_RuleInit_8 (dvs := [.non]) (.cons rfl .nil) pass0 (pa_cons (pe_ix ix_list (pv 0) (pv 2) (fun _ _ => rfl)) (pa_cons pe_str (pa_cons pe_str (pa_cons pe_str (pa_cons pe_non (pa_cons (pe_op op_add pe_int (pv 2)) (pa_cons pe_str pa_nil star_con) star_bin) star_con) star_con) star_con) star_con) star_sub)))) pss_nil)
      (pss_one (ps_ret (pe_make T.k_Rule (okRuleInit T) (hr.mono (by decide)) rfl T.m_Rule T.e_RuleInit_8 (dvs := [.non]) (.cons rfl .nil) pass0 (pa_cons (pe_ix ix_list (pv 0) (pv 2) (fun _ _ => rfl)) (pa_cons pe_str (pa_cons pe_str (pa_cons pe_non (pa_cons (pe_ix ix_list (pv 0) (pe_ix ix_list (pv 1) (pv 2) (fun _ _ => rfl)) (fun _ _ => rfl)) (pa_cons (pe_op op_add pe_int (pv 2)) (pa_cons pe_str pa_nil star_con) star_bin) star_sub) star_con) star_con) star_con) star_sub))))), ?_⟩
    have hkb : k0 < bs.length := by rw [wd.len]; exact hk
    have hv := boV hkb
    have keep : ∀ {x dx : Addr}, H x = none → H dx = none → Same H (upd (upd H dx (.own x)) x (.ins a.cRule dx [])) := fun nx nd b u e => by rw [upd_ne (ne_of_none e nx), upd_ne (ne_of_none e nd)]; exact e
    cases eb : bo bs k0 with
    | none =>
      rw [eb] at hv k
      refine ⟨_, rfl, _, rfl, _, _, _, _, rfl, rfl, SqL.of hb, atI_nat hv, rfl, _, rfl, iteD rfl ⟨_, rfl, _, rfl, _, _, _, _, rfl, rfl, SqL.of hn, atI_nat (nmV hk), _, rfl, _, _, rfl, rfl, fun x dx nx nd ne => ?_⟩⟩
      exact ⟨x, dx, _, _, _, _, _, _, _, _, rfl, upd_same, fun H' fs b h1 h2 h3 h4 => ⟨rfl, k x H' (b.made nx nd) ⟨x, dx, fs, rfl, h1, h2, h3, h4⟩⟩⟩
    | some b =>
      rw [eb] at hv k
      have hbn := (wd.ok k0 b (by rw [bo_at hkb, eb])).1
      refine ⟨_, rfl, _, rfl, _, _, _, _, rfl, rfl, SqL.of hb, atI_nat hv, rfl, _, rfl, iteDn (fun z => nomatch z) ⟨_, rfl, _, rfl, _, _, _, _, rfl, rfl, SqL.of hn, atI_nat (nmV hk), _, rfl, _, rfl, _, rfl, _, _, _, _, rfl, rfl, SqL.of hb, atI_nat hv, _, _, _, _, rfl, rfl, SqL.of hn, atI_nat (nmV hbn), _, rfl, _, _, rfl, rfl, fun x dx nx nd ne => ?_⟩⟩
      exact ⟨x, dx, _, _, _, _, _, _, _, _, rfl, upd_same, fun H' fs b h1 h2 h3 h4 => ⟨rfl, k x H' (b.made nx nd) ⟨x, dx, fs, rfl, h1, h2, h3, h4⟩⟩⟩
set_option maxHeartbeats 4000000 in
theorem okBookInit (T : Txt K mg a) : FnOk P w K mg base CX0 3 a.fBookInit a.gBookInit ["self", "rules"] (spBInit a) := by
  refine T.dBookInit.fn.ok scBookInit (fun vs H Q E h => ?_) (fun cdv A outer s H vs Q E hr h => ?_)
  · obtain ⟨_, _, _, _, _, _, _, rfl, _⟩ := h
    all_goals rfl
  · obtain ⟨x, dx, pr, us, nms, bs, rk, rfl, hx, hp, hrl, wd, k⟩ := h
    refine ⟨_, (pss_cons (ps_fld (pv 0) (pe_call (okHangingOrder T) (hr.mono (by decide)) rfl T.dHangingOrder.mgx T.dHangingOrder.fn.kp T.dHangingOrder.bd .nil pass0 (pa_cons (pv 1) pa_nil star_nam)) rfl)
      (pss_cons (ps_fld (pv 0) pe_dnewK rfl)
      (pss_one (ps_for PassesOwn.never rfl (pi_list (pv 1)) (pg_name (i := 2) scBookInit.nd rfl (Or.inl rfl)) (pss_one (ps_dput (hu_of hr) (pe_fld (pv 0) rfl) (pe_fld (pv 2) rfl) (pv 2) rfl)))))), ?_⟩
    refine ⟨_, rfl, _, us, nms, bs, rk, rfl, hp, hrl, wd, fun po H1 no s1 e1 => ?_⟩
    have x1 := s1 _ _ hx
    refine ⟨_, rfl, _, _, _, _, rfl, x1, T.c_Book, xno_of T.n_Book (by decide), by decide, ?_⟩
    rw [put1]
    have npo : po ≠ x := fun z => by rw [z, hx] at no; cases no
    have b2 : SameBut x H (upd H1 x (.ins a.cBook dx [(Str.ofString "order", .ref po)])) := (SameBut.of s1).set
    have x2 := upd_same (H := H1) (a := x) (o := .ins a.cBook dx [(Str.ofString "order", .ref po)])
    have o2 := (upd_ne (o := .ins a.cBook dx [(Str.ofString "order", .ref po)]) npo).trans e1
    generalize upd H1 x _ = H2 at b2 x2 o2 ⊢
    refine fun d hd => ?_
    have s3 := same_upd (o := .dK []) hd
    have d3 := upd_same (H := H2) (a := d) (o := .dK [])
    have x3 := s3 _ _ x2
    have ndx : d ≠ x := fun z => by rw [z, x2] at hd; cases hd
    have ndo : po ≠ d := fun z => by rw [← z, o2] at hd; cases hd
    have nd := b2.free ndx hd
    refine ⟨_, rfl, _, _, _, _, rfl, x3, T.c_Book, xno_of T.n_Book (by decide), (show 1 < 1000 by decide), ?_⟩
    rw [put2 _ _ (by decide +kernel)]
    have b4 : SameBut x H (upd (upd H2 d (.dK [])) x (.ins a.cBook dx (bfs po d))) := (b2.trans (SameBut.of s3)).set
    have x4 := upd_same (H := upd H2 d (.dK [])) (a := x) (o := .ins a.cBook dx (bfs po d))
    have o4 := (upd_ne (o := .ins a.cBook dx (bfs po d)) npo).trans (s3 _ _ o2)
    have d4 := (upd_ne (o := .ins a.cBook dx (bfs po d)) ndx).trans d3
    generalize upd (upd H2 d (.dK [])) x _ = H4 at b4 x4 o4 d4 ⊢
    have npx : pr ≠ x := fun z => by rw [z, hx] at hp; cases hp
    have rule : ∀ {H' : Hp} {i : Nat} {y : V}, SameBut x H H' → us[i]? = some y → RuleAt a.cRule H' y (nm nms i) (encN nms (bo bs i)) (1 + (i : Int)) := fun b e => by
      obtain ⟨p, dx', fs, e1, h1, h2, h3, h4⟩ := hrl.2 _ _ e
      refine ⟨p, dx', fs, e1, b _ _ (fun z => ?_) h1, h2, h3, h4⟩
      rw [z, hx] at h1
      injection h1 with h1
      injection h1 with _ _ h5
      rw [← h5] at h2
      cases h2
    refine ⟨_, rfl, _, rfl, ⟨_, SqL.of (b4 _ _ npx hp)⟩, for_list (K := K) (a := pr) (xs := us) (fun i σ H' => SameBut x H H' ∧ H' x = some (.ins a.cBook dx (bfs po d)) ∧ H' po = some (.lst ((ordW nms bs nms.length).map V.str)) ∧ ∃ (v2 : Option V) (kvs : List (Key × V)), σ = [some (.ref x), some (.ref pr), v2] ∧ H' d = some (.dK kvs) ∧ kvs.length ≤ i ∧ (kvs.map fun kv => kV kv.1) = (nms.take i).map V.str ∧ ∀ (j : Nat) (z : V), j < i → us[j]? = some z → valV kvs (.inr (nm nms j)) = some z)
      ⟨b4, x4, o4, none, [], rfl, d4, Nat.le_refl _, rfl, fun j z hj => absurd hj (Nat.not_lt_zero _)⟩ (fun i σ H' _ h => SqL.of (h.1 _ _ npx hp)) ?_ ?_⟩
    · rintro i y σ H' hy ⟨b5, x5, o5, v2, kvs, rfl, d5, hl, hk, hg⟩
      have hi : i < nms.length := by rw [← hrl.1]; exact (List.getElem?_eq_some_iff.mp hy).1
      obtain ⟨p, dx', fs, rfl, r1, r2, r3, r4⟩ := rule b5 hy
      refine ⟨_, rfl, _, rfl, _, _, _, _, _, rfl, x5, T.c_Book, xno_of T.n_Book (by decide), rfl, _, rfl, _, _, _, _, _, rfl, r1, T.c_Rule, xno_of T.n_Rule (by decide), r2, d, _, rfl, DPut.k (k := .inr (nm nms i)) d5 (by rw [sizeLine_eq]; have := wd.sm; omega), ?_⟩
      exact ⟨fun b o n e => by rw [upd_ne (ne_of_none e nd)]; exact b5 b o n e, (upd_ne ndx.symm).trans x5, (upd_ne ndo).trans o5, _, _, rfl, upd_same, Nat.le_trans (length_putK _ _ _) (Nat.succ_le_succ hl), bk_keys _ wd.nd hi hk, bk_get wd.nd hi hrl.1 hy hg⟩
    · rintro σ H' ⟨b5, x5, o5, v2, kvs, rfl, d5, hl, hk, hg⟩
      rw [hrl.1, List.take_length] at hk
      exact k H' b5 fun H9 rest => ⟨dx, po, d, kvs, rest _ _ (.inr rfl) x5, rest _ _ (.inl no) o5, rest _ _ (.inl nd) d5, hk, fun j y e => hg j y (List.getElem?_eq_some_iff.mp e).1 e⟩
set_option maxHeartbeats 4000000 in
theorem okBookHanging (T : Txt K mg a) : FnOk P w K mg base CX0 1 a.fBookHanging a.gBookHanging ["self"] (spBHang a) := by
  refine T.dBookHanging.fn.ok scBookHanging (fun vs H Q E h => ?_) (fun cdv A outer s H vs Q E hr h => ?_)
  · obtain ⟨_, _, _, _, rfl, _⟩ := h
    all_goals rfl
  · obtain ⟨x, nms, ord, us, rfl, hx, k⟩ := h
    refine ⟨_, (pss_one (ps_ret (pe_callTy call_list_of (by rfl) T.n_list boot_list (pa_cons (pe_fld (pv 0) rfl) pa_nil star_att)))), ?_⟩
    obtain ⟨dx, po, pd, kvs, h1, h2, h3, h4, h5⟩ := hx
    exact ⟨_, rfl, _, _, _, _, _, rfl, h1, T.c_Book, xno_of T.n_Book (by decide), rfl, _, _, rfl, .inl (SqL.of h2), fun l hl => k l hl⟩
set_option maxHeartbeats 4000000 in
theorem okBookTermNames (T : Txt K mg a) : FnOk P w K mg base CX0 1 a.fBookTermNames a.gBookTermNames ["self"] (spBNames a) := by
  refine T.dBookTermNames.fn.ok scBookTermNames (fun vs H Q E h => ?_) (fun cdv A outer s H vs Q E hr h => ?_)
  · obtain ⟨_, _, _, _, rfl, _⟩ := h
    all_goals rfl
  · obtain ⟨x, nms, ord, us, rfl, hx, k⟩ := h
    refine ⟨_, (pss_one (ps_ret (pe_callTy (call_listD rfl) (by rfl) T.n_list boot_list (pa_cons (pe_fld (pv 0) rfl) pa_nil star_att)))), ?_⟩
    obtain ⟨dx, po, pd, kvs, h1, h2, h3, h4, h5⟩ := hx
    refine ⟨_, rfl, _, _, _, _, _, rfl, h1, T.c_Book, xno_of T.n_Book (by decide), rfl, _, _, rfl, h3, fun l hl => ?_⟩
    rw [h4]
    exact k l hl
set_option maxHeartbeats 4000000 in
theorem okBookRuleOf (T : Txt K mg a) : FnOk P w K mg base CX0 1 a.fBookRuleOf a.gBookRuleOf ["self", "name"] (spBRule a) := by
  refine T.dBookRuleOf.fn.ok scBookRuleOf (fun vs H Q E h => ?_) (fun cdv A outer s H vs Q E hr h => ?_)
  · obtain ⟨_, _, _, _, _, _, rfl, _⟩ := h
    all_goals rfl
  · obtain ⟨x, nms, ord, us, j, y, rfl, hx, hy, k⟩ := h
    refine ⟨_, (pss_cons (ps_if (pt_cmp (pc_dnotin (hu_of hr) (pv 1) (pe_fld (pv 0) rfl))) (pss_one ps_never) pss_nil)
      (pss_one (ps_ret (pe_dget (hu_of hr) (pe_fld (pv 0) rfl) (pv 1) (fun _ _ => rfl))))), ?_⟩
    obtain ⟨dx, po, pd, kvs, h1, h2, h3, h4, h5⟩ := hx
    have g : DGet H pd (.str (nm nms j)) (some y) := h5 j y hy ▸ DGet.k (k := .inr (nm nms j)) h3
    exact ⟨_, rfl, _, rfl, _, _, _, _, _, rfl, h1, T.c_Book, xno_of T.n_Book (by decide), rfl, pd, _, rfl, g, _, rfl, iteF ⟨_, rfl, _, _, _, _, _, rfl, h1, T.c_Book, xno_of T.n_Book (by decide), rfl, _, rfl, pd, _, rfl, g, k⟩⟩
set_option maxHeartbeats 4000000 in
theorem okLaw (T : Txt K mg a) : FnOk P w K mg base CX0 5 a.fLaw a.gLaw ["_law_script"] (spLaw K) := by
  refine T.dLaw.fn.ok scLaw (fun vs H Q E h => ?_) (fun cdv A outer s H vs Q E hr h => ?_)
  · obtain ⟨_, _, rfl, _⟩ := h
    all_goals rfl
  · obtain ⟨l, ns, rfl, hS, hlen, k⟩ := h
    refine ⟨_, (pss_cons (ps_set (i := 1) scLaw.nd rfl (Or.inl rfl) (pe_op op_mod (pe_call (okLawCellAt T) (hr.mono (by decide)) rfl T.dLawCellAt.mgx T.dLawCellAt.fn.kp T.dLawCellAt.bd .nil pass0 (pa_cons (pv 0) (pa_cons pe_int pa_nil star_con) star_nam)) pe_int))
      (pss_cons (ps_set (i := 2) scLaw.nd rfl (Or.inr rfl) (pe_call (okLawWords T) (hr.mono (by decide)) rfl T.dLawWords.mgx T.dLawWords.fn.kp T.dLawWords.bd .nil pass0 (pa_cons (pe_call (okLawCellAt T) (hr.mono (by decide)) rfl T.dLawCellAt.mgx T.dLawCellAt.fn.kp T.dLawCellAt.bd .nil pass0 (pa_cons (pv 0) (pa_cons pe_int pa_nil star_con) star_nam)) (pa_cons (pv 1) pa_nil star_nam) star_cal)))
      (pss_cons (ps_set (i := 3) scLaw.nd rfl (Or.inr rfl) (pe_call (okLawBases T) (hr.mono (by decide)) rfl T.dLawBases.mgx T.dLawBases.fn.kp T.dLawBases.bd .nil pass0 (pa_cons (pv 0) (pa_cons (pv 1) pa_nil star_nam) star_nam)))
      (pss_cons (ps_set (i := 4) scLaw.nd rfl (Or.inl rfl) (pe_call (okLawDue T) (hr.mono (by decide)) rfl T.dLawDue.mgx T.dLawDue.fn.kp T.dLawDue.bd .nil pass0 (pa_cons (pv 2) (pa_cons (pv 3) pa_nil star_nam) star_nam)))
      (pss_cons (ps_setComp (i := 5) scLaw.nd rfl rfl (N := ["_law_k", "_law_names", "_law_bases_here"]) (js := [none, some 2, some 3]) (XN := ["_law_script", "_law_many", "_law_names", "_law_bases_here", "_law_due_here", "_law_rules", "_law_handed", "_law_found", "_law_book", "_law_told", "_law_names_told", "_law_k"]) (xs := defScope sLaw) rfl rfl rfl (by decide +kernel) (pi_range1 rfl T.n_range (pa_cons (pv 1) pa_nil star_nam)) (fun _ _ _ _ _ _ => (pg_name (i := 0) (show List.Nodup (["_law_k", "_law_names", "_law_bases_here"] : List Str) from by decide +kernel) rfl (Or.inl rfl) (Or.inr rfl))) (fun _ _ _ _ _ _ => pts_nil) (fun _ _ _ _ _ _ => (pe_call (okLawRule T) (hr.mono (by decide)) rfl T.dLawRule.mgx T.dLawRule.fn.kp T.dLawRule.bd .nil pass0 (pa_cons (pv 1) (pa_cons (pv 2) (pa_cons (pv 0) pa_nil star_nam) star_nam) star_nam))))
      (pss_cons (ps_set (i := 6) scLaw.nd rfl (Or.inl rfl) (pe_callTy call_list_of (by rfl) T.n_list boot_list (pa_cons (pv 5) pa_nil star_nam)))
      (pss_cons (ps_set (i := 7) scLaw.nd rfl (Or.inl rfl) (pe_call (okHangingOrder T) (hr.mono (by decide)) rfl T.dHangingOrder.mgx T.dHangingOrder.fn.kp T.dHangingOrder.bd .nil pass0 (pa_cons (pv 6) pa_nil star_nam)))
      (pss_cons (ps_if (PW.pt (pw_or (pt_not (pt_val (pe_call (okLawTexts T) (hr.mono (by decide)) rfl T.dLawTexts.mgx T.dLawTexts.fn.kp T.dLawTexts.bd .nil pass0 (pa_cons (pv 7) (pa_cons (pv 4) pa_nil star_nam) star_nam)))) (pw_or1 (pt_cmpR op_ne (pe_callB call_len (by rfl) T.n_len boot_len (pa_cons (pv 6) pa_nil star_nam)) (pv 1) (nomark _))))) (pss_one (ps_ret pe_bl)) pss_nil)
      (pss_cons (ps_set (i := 8) scLaw.nd rfl (Or.inl rfl) (pe_make T.k_Book (okBookInit T) (hr.mono (by decide)) rfl T.m_Book T.dBookInit.bd .nil pass0 (pa_cons (pv 6) pa_nil star_nam)))
      (pss_cons (ps_if (pt_cmpR (op_neL hr.units0) (pe_comp (N := ["_law_rule_here"]) (js := [none]) (XN := ["_law_script", "_law_many", "_law_names", "_law_bases_here", "_law_due_here", "_law_rules", "_law_handed", "_law_found", "_law_book", "_law_told", "_law_names_told", "_law_k"]) (xs := defScope sLaw) rfl rfl rfl (by decide +kernel) (pi_list (pv 6)) (fun _ _ _ _ _ _ => (pg_name (i := 0) (show List.Nodup (["_law_rule_here"] : List Str) from by decide +kernel) rfl (Or.inl rfl) (Or.inr rfl))) (fun _ _ _ _ _ _ => pts_nil) (fun _ _ _ _ _ _ => (pe_fldK (K := K) rfl (pv 0) rfl))) (pv 2) (nomark _)) (pss_one (ps_ret pe_bl)) pss_nil)
      (pss_cons (ps_expr (pe_bm0 PySem.F.plainAttrs_list PySem.F.slot_list_clear PySem.F.type_list_clear mt_clear (pv 6)))
      (pss_cons (ps_set (i := 9) scLaw.nd rfl (Or.inl rfl) (pe_meth0 (pv 8) T.c_Book T.t_dBookHanging (okBookHanging T) (hr.mono (by decide)) T.dBookHanging.bd .nil pass0))
      (pss_cons (ps_set (i := 10) scLaw.nd rfl (Or.inl rfl) (pe_meth0 (pv 8) T.c_Book T.t_dBookTermNames (okBookTermNames T) (hr.mono (by decide)) T.dBookTermNames.bd .nil pass0))
      (pss_cons (ps_if (PW.pt (pw_or (pt_not (pt_val (pe_call (okLawTexts T) (hr.mono (by decide)) rfl T.dLawTexts.mgx T.dLawTexts.fn.kp T.dLawTexts.bd .nil pass0 (pa_cons (pv 9) (pa_cons (pv 4) pa_nil star_nam) star_nam)))) (pw_or1 (pt_not (pt_val (pe_call (okLawTexts T) (hr.mono (by decide)) rfl T.dLawTexts.mgx T.dLawTexts.fn.kp T.dLawTexts.bd .nil pass0 (pa_cons (pv 10) (pa_cons (pv 2) pa_nil star_nam) star_nam))))))) (pss_one (ps_ret pe_bl)) pss_nil)
      (pss_cons (ps_expr (pe_bm PySem.F.plainAttrs_list PySem.F.slot_list_append PySem.F.type_list_append mt_append (pv 9) (pa_cons pe_str pa_nil star_con)))
      (pss_cons (ps_expr (pe_bm0 PySem.F.plainAttrs_list PySem.F.slot_list_reverse PySem.F.type_list_reverse mt_reverse (pv 10)))
      (pss_cons (ps_expr (pe_bm0 PySem.F.plainAttrs_list PySem.F.slot_list_clear PySem.F.type_list_clear mt_clear (pv 7)))
      (pss_cons (ps_if (PW.pt (pw_or (pt_not (pt_val (pe_call (okLawTexts T) (hr.mono (by decide)) rfl T.dLawTexts.mgx T.dLawTexts.fn.kp T.dLawTexts.bd .nil pass0 (pa_cons (pe_meth0 (pv 8) T.c_Book T.t_dBookHanging (okBookHanging T) (hr.mono (by decide)) T.dBookHanging.bd .nil pass0) (pa_cons (pv 4) pa_nil star_nam) star_cal)))) (pw_or1 (pt_not (pt_val (pe_call (okLawTexts T) (hr.mono (by decide)) rfl T.dLawTexts.mgx T.dLawTexts.fn.kp T.dLawTexts.bd .nil pass0 (pa_cons (pe_meth0 (pv 8) T.c_Book T.t_dBookTermNames (okBookTermNames T) (hr.mono (by decide)) T.dBookTermNames.bd .nil pass0) (pa_cons (pv 2) pa_nil star_nam) star_cal))))))) (pss_one (ps_ret pe_bl)) pss_nil)
      (pss_cons (ps_for PassesOwn.never rfl (pi_range1 rfl T.n_range (pa_cons (pv 1) pa_nil star_nam)) (pg_name (i := 11) scLaw.nd rfl (Or.inl rfl)) (pss_one (ps_if (PW.pt (pw_or (pt_cmpR op_ne (pe_fld (pe_meth (pv 8) T.c_Book T.t_dBookRuleOf (okBookRuleOf T) (hr.mono (by decide)) T.dBookRuleOf.bd .nil pass0 (pa_cons (pe_ix ix_list (pv 2) (pv 11) (fun _ _ => rfl)) pa_nil star_sub)) rfl) (pe_ix ix_list (pv 2) (pv 11) (fun _ _ => rfl)) (nomark _)) (pw_or1 (pt_cmpR op_ne (pe_fld (pe_meth (pv 8) T.c_Book T.t_dBookRuleOf (okBookRuleOf T) (hr.mono (by decide)) T.dBookRuleOf.bd .nil pass0 (pa_cons (pe_ix ix_list (pv 2) (pv 11) (fun _ _ => rfl)) pa_nil star_sub)) rfl) (pe_op op_add pe_int (pv 11)) (nomark _))))) (pss_one (ps_ret pe_bl)) pss_nil)))
      (pss_one (ps_ret (pe_call (okLawTexts T) (hr.mono (by decide)) rfl T.dLawTexts.mgx T.dLawTexts.fn.kp T.dLawTexts.bd .nil pass0 (pa_cons (pe_call (okHangingOrder T) (hr.mono (by decide)) rfl T.dHangingOrder.mgx T.dHangingOrder.fn.kp T.dHangingOrder.bd .nil pass0 (pa_cons (pv 5) pa_nil star_nam)) (pa_cons (pv 4) pa_nil star_nam) star_cal))))))))))))))))))))))), ?_⟩
    obtain ⟨m, em, hm⟩ : ∃ m : Nat, cell ns 0 % 7 = (m : Int) ∧ m ≤ 6 := ⟨(cell ns 0 % 7).toNat, by omega, by omega⟩
    refine ⟨_, rfl, _, _, _, rfl, hS, by decide, _, _, rfl, rfl, (pos (by decide)), ?_⟩
    dsimp only []
    rw [em]
    refine ⟨_, rfl, _, _, _, rfl, hS, by decide, _, rfl, _, m, rfl, hm, fun q1 H1 nms n1 s1 e1 ln nd => ?_⟩
    refine ⟨_, rfl, _, rfl, _, _, m, rfl, s1.seq hS, hm, fun q2 H2 bs t n2 s2 e2 lb ok => ?_⟩
    have wd : Wd nms bs (fun j => (rkI t (j : Nat)).toNat) := ⟨nd, by rw [lb, ln], by omega, fun j b z => by
      obtain ⟨z1, z2⟩ := ok j b z
      have a1 := rkI_in t (b : Int)
      have a2 := rkI_in t (j : Int)
      exact ⟨by omega, show (rkI t (b : Int)).toNat < (rkI t (j : Int)).toNat by omega⟩, fun j => by
      have a2 := rkI_in t (j : Int)
      show (rkI t (j : Int)).toNat < 7
      omega⟩
    refine ⟨_, rfl, _, rfl, _, _, nms, bs, _, rfl, s2 _ _ e1, e2, wd, fun q3 H3 n3 s3 e3 => ?_⟩
    have e1 := s3 _ _ (s2 _ _ e1)
    have e2 := s3 _ _ e2
    have sA := (s1.trans s2).trans s3
    clear n1 n2 s1 s2 s3 n3
    have bnd := rb (n := m) (by omega)
    have o6 := ord6 (nms := nms) (bs := bs) (by omega)
    refine ⟨_, rfl, _, rfl, bnd.1, bnd.2, ?_⟩
    refine comp_rel (fun x y H => ∃ j : Nat, x = .int (j : Int) ∧ RuleAt a.cRule H y (nm nms j) (encN nms (bo bs j)) (1 + (j : Int))) (fun x y H H' kn ⟨j, z1, z2⟩ => ⟨j, z1, z2.keep kn⟩) (fun σ' => ∃ v, σ' = [v, some (.ref q1), some (.ref q2)]) feeds_range (fits (by rw [List.length_map, List.length_range]; exact Nat.le_trans hm (by decide))) ⟨none, rfl⟩ (fun v σ' H' RR hv sm s4 q => ?_) gk_name fun qr H4 us n4 s4 e4 l4 hr4 => ?_
    · obtain ⟨v0, rfl⟩ := s4
      obtain ⟨j, hj, rfl⟩ := List.mem_map.mp hv
      have hj : j < m := List.mem_range.mp hj
      rw [Int.zero_add] at q ⊢
      exact ⟨_, rfl, _, rfl, _, rfl, _, _, nms, bs, _, j, rfl, sm _ _ e1, sm _ _ e2, wd, by omega, fun x H5 s5 ra => q _ _ _ ⟨_, rfl⟩ s5 ⟨j, rfl, ra⟩⟩
    have lu : us.length = nms.length := by
      rw [l4, List.length_map, List.length_range, ln]
      rfl
    have rl : Rules a.cRule H4 us nms bs := ⟨lu, fun j y hy => by
      have hj : j < m := by rw [← ln, ← lu]; exact (List.getElem?_eq_some_iff.mp hy).1
      obtain ⟨j', z1, z2⟩ := hr4 j (V.int (0 + (j : Nat))) y (by rw [List.getElem?_map, List.getElem?_range (show j < ((m : Int)).toNat from hj)]; rfl) hy
      have : j' = j := by have := V.int.inj z1; omega
      subst this
      exact z2⟩
    clear hr4 l4
    refine ⟨_, rfl, _, _, rfl, .inl (SqL.of e4), fun qh hqh => ?_⟩
    have s5 := same_upd (o := .lst us) hqh
    have hh := upd_same (H := H4) (a := qh) (o := .lst us)
    have nh := s4.free hqh
    have nhr : qr ≠ qh := fun z => by rw [← z, e4] at hqh; cases hqh
    have rl := rl.same s5
    have e4 := s5 _ _ e4
    have s35 := s4.trans s5
    generalize upd H4 qh _ = H5 at s5 hh rl e4 s35 ⊢
    clear s4 s5 hqh
    refine ⟨_, rfl, _, us, nms, bs, _, rfl, hh, rl, wd, fun qf H6 nf s6 ef => ?_⟩
    refine ⟨_, rfl, _, rfl, _, _, _, rfl, ef, s6 _ _ (s35 _ _ e3), o6, fun H7 s7 => ⟨_, rfl, iteF ⟨_, rfl, _, _, rfl, .inl ⟨_, SqL.of (s7 _ _ (s6 _ _ hh)), rfl⟩, _, rfl, rfl, _, rfl, iteND (congrArg V.int (show ((us.length : Nat) : Int) = (m : Int) by omega)) ?_⟩⟩⟩
    have a1 := ne_of_none e1 nh
    have a2 := ne_of_none e3 nh
    have a3 := ne_of_none (s35 _ _ e1) nf
    have a4 := ne_of_none (s35 _ _ e3) nf
    have a5 := ne_of_none e4 nf
    have a6 := ne_of_none hh nf
    have s57 := s6.trans s7
    have ef := s7 _ _ ef
    have s37 := s35.trans s57
    have hh := s57 _ _ hh
    have rl := rl.same s57
    have e4 := s57 _ _ e4
    have e1 := s37 _ _ e1
    have e3 := s37 _ _ e3
    clear s6 s7 s57 s35 nf
    refine ⟨_, rfl, fun xb db nx nd' ne => ?_⟩
    have keep : Same H7 (upd (upd H7 db (.own xb)) xb (.ins a.cBook db [])) := fun b u e => by rw [upd_ne (ne_of_none e nx), upd_ne (ne_of_none e nd')]; exact e
    refine ⟨xb, db, _, us, nms, bs, _, rfl, upd_same, keep _ _ hh, rl.same keep, wd, fun H8 b8 bk => ⟨rfl, ?_⟩⟩
    have s8 : Same H7 H8 := b8.made nx nd'
    have bk2 : ∀ H2 : Hp, (∀ b o, b ≠ qh → b ≠ qf → H8 b = some o → H2 b = some o) → BookAt a.cBook H2 xb nms (ordW nms bs nms.length) us := fun H2 c => bk H2 fun b o hb ho => by
      rcases hb with hb | rfl
      · have hb' := keep.free hb
        exact c b o (fun z => by rw [z, hh] at hb'; cases hb') (fun z => by rw [z, ef] at hb'; cases hb') ho
      · exact c b o (fun z => by rw [z, hh] at nx; cases nx) (fun z => by rw [z, ef] at nx; cases nx) ho
    have hh := s8 _ _ hh
    have ef := s8 _ _ ef
    have rl := rl.same s8
    have e4 := s8 _ _ e4
    have e1 := s8 _ _ e1
    have e3 := s8 _ _ e3
    clear keep b8 bk nx nd' ne
    refine ⟨_, rfl, _, rfl, ⟨_, SqL.of hh⟩, ?_⟩
    refine comp_rel (fun x y H => ∃ (n : Str) (b : V) (j : Int), RuleAt a.cRule H x n b j ∧ y = .str n) (fun x y H H' kn ⟨n, b, j, z1, z2⟩ => ⟨n, b, j, z1.keep kn, z2⟩) (fun σ' => ∃ v, σ' = [v]) (feeds_list (K := K) (SqL.of hh)) (fits (by omega)) ⟨none, rfl⟩ (fun v σ' H' RR hv sm s4 q => ?_) gk_name fun q9 H9 ys n9 s9 e9 l9 hr9 => ?_
    · obtain ⟨v0, rfl⟩ := s4
      obtain ⟨j, hj, rfl⟩ := List.getElem_of_mem hv
      have rj := (rl.2 j _ (List.getElem?_eq_getElem hj)).same sm
      generalize us[j] = y at rj q ⊢
      obtain ⟨p, dx, fs, rfl, r1, r2, r3, r4⟩ := (id rj)
      exact ⟨_, rfl, _, _, _, _, _, rfl, r1, T.c_Rule, xno_of T.n_Rule (by decide), r2, q _ _ _ ⟨_, rfl⟩ (Same.refl _) ⟨_, _, _, rj, rfl⟩⟩
    have ey : ys = nms.map V.str := strs_of (l9.trans lu) fun j y hy => by
      obtain ⟨u, hu⟩ : ∃ u, us[j]? = some u := ⟨_, List.getElem?_eq_getElem (by have := (List.getElem?_eq_some_iff.mp hy).1; omega)⟩
      obtain ⟨n, b, j', z1, z2⟩ := hr9 j u y hu hy
      rw [z2, ((rl.2 j u hu).same s9).name z1]
    rw [ey] at e9
    refine ⟨_, rfl, _, _, _, _, rfl, rfl, SqL.of e9, SqL.of (s9 _ _ e1), flat_strs _, flat_strs _, _, rfl, ?_⟩
    show if (!eqVs (nms.map V.str) (nms.map V.str)) = true then _ else _
    rw [eqVs_self (flat_strs _)]
    refine iteF ?_
    have hh := s9 _ _ hh
    have ef := s9 _ _ ef
    have rl := rl.same s9
    have e4 := s9 _ _ e4
    have e1 := s9 _ _ e1
    have e3 := s9 _ _ e3
    have bk3 : ∀ H2 : Hp, (∀ b o, b ≠ qh → b ≠ qf → H9 b = some o → H2 b = some o) → BookAt a.cBook H2 xb nms (ordW nms bs nms.length) us := fun H2 c => bk2 H2 fun b o z1 z2 e => c b o z1 z2 (s9 _ _ e)
    have sN := sA.trans (s37.trans (s8.trans s9))
    clear ey e9 hr9 l9 n9 bk2 s8 s9 s37
    refine ⟨_, rfl, .inl ⟨rfl, _, SqL.of hh⟩, _, _, rfl, rfl, hh, ?_⟩
    have k10 : ∀ b o, b ≠ qh → b ≠ qf → H9 b = some o → upd H9 qh (.lst []) b = some o := fun b o z1 _ e => (upd_ne z1).trans e
    have f10 := (upd_ne (o := .lst []) (Ne.symm a6)).trans ef
    have g10 := KeepN.upd (o := .lst []) hh
    generalize upd H9 qh _ = H10 at k10 f10 g10 ⊢
    have B10 := bk3 H10 k10
    obtain ⟨db', po, pd, kvs, i10, _⟩ := (id B10)
    refine ⟨_, rfl, _, _, _, rfl, i10, rfl, _, _, _, _, rfl, B10, fun qt hqt => ?_⟩
    have s11 := same_upd (o := .lst ((ordW nms bs nms.length).map V.str)) hqt
    have t11 := upd_same (H := H10) (a := qt) (o := .lst ((ordW nms bs nms.length).map V.str))
    generalize upd H10 qt _ = H11 at s11 t11 ⊢
    refine ⟨_, rfl, _, _, _, rfl, s11 _ _ i10, rfl, _, _, _, _, rfl, B10.same s11, fun qn hqn => ?_⟩
    have s12 := same_upd (o := .lst (nms.map V.str)) hqn
    have t12 := upd_same (H := H11) (a := qn) (o := .lst (nms.map V.str))
    have ntn : qt ≠ qn := ne_of_none t11 hqn
    generalize upd H11 qn _ = H12 at s12 t12 ⊢
    have y12 := s11.trans s12
    have d10 : ∀ {b : Addr} {o : HO}, b ≠ qh → b ≠ qf → H9 b = some o → H12 b = some o := fun z1 z2 e => y12 _ _ (k10 _ _ z1 z2 e)
    refine ⟨_, rfl, _, rfl, _, _, _, rfl, s12 _ _ t11, d10 a2 a4 e3, o6, fun H13 s13 => ⟨_, rfl, iteF ⟨_, rfl, _, rfl, _, _, _, rfl, s13 _ _ t12, s13 _ _ (d10 a1 a3 e1), (by omega), fun H14 s14 => ⟨_, rfl, iteF ?_⟩⟩⟩⟩
    have s24 := s13.trans s14
    have t14 := s24 _ _ (s12 _ _ t11)
    have n14 := s24 _ _ t12
    have f14 := s24 _ _ (y12 _ _ f10)
    have z14 := y12.trans s24
    have g14 := g10.trans (KeepN.of z14)
    have c14 : ∀ b o, b ≠ qh → b ≠ qf → H9 b = some o → H14 b = some o := fun b o z1 z2 e => z14 _ _ (k10 _ _ z1 z2 e)
    have lo : ((ordW nms bs nms.length).map V.str).length ≤ 90000 := by rw [List.length_map]; omega
    refine ⟨_, rfl, .inl ⟨rfl, _, SqL.of t14⟩, _, _, _, rfl, rfl, t14, lt1000 lo, ?_⟩
    have n15 := (upd_ne (o := .lst ((ordW nms bs nms.length).map V.str ++ [V.str (Str.ofString "zz")])) (Ne.symm ntn)).trans n14
    have nft : qf ≠ qt := ne_of_none f10 hqt
    have nfn : qf ≠ qn := ne_of_none (s11 _ _ f10) hqn
    have f15 := (upd_ne (o := .lst ((ordW nms bs nms.length).map V.str ++ [V.str (Str.ofString "zz")])) nft).trans f14
    have g15 := g14.trans (KeepN.upd (o := .lst ((ordW nms bs nms.length).map V.str ++ [V.str (Str.ofString "zz")])) t14)
    have c15 : ∀ b o, b ≠ qh → b ≠ qf → H9 b = some o → upd H14 qt (.lst ((ordW nms bs nms.length).map V.str ++ [V.str (Str.ofString "zz")])) b = some o := fun b o z1 z2 e => (upd_ne (ne_of_none (k10 _ _ z1 z2 e) hqt)).trans (c14 b o z1 z2 e)
    generalize upd H14 qt _ = H15 at n15 f15 g15 c15 ⊢
    refine ⟨_, rfl, .inl ⟨rfl, _, SqL.of n15⟩, _, _, rfl, rfl, n15, ?_⟩
    have f16 := (upd_ne (o := .lst (nms.map V.str).reverse) nfn).trans f15
    have g16 := g15.trans (KeepN.upd (o := .lst (nms.map V.str).reverse) n15)
    have c16 : ∀ b o, b ≠ qh → b ≠ qf → H9 b = some o → upd H15 qn (.lst (nms.map V.str).reverse) b = some o := fun b o z1 z2 e => (upd_ne (ne_of_none (s11 _ _ (k10 _ _ z1 z2 e)) hqn)).trans (c15 b o z1 z2 e)
    generalize upd H15 qn _ = H16 at f16 g16 c16 ⊢
    refine ⟨_, rfl, .inl ⟨rfl, _, SqL.of f16⟩, _, _, rfl, rfl, f16, ?_⟩
    have g17 := g16.trans (KeepN.upd (o := .lst []) f16)
    have c17 : ∀ b o, b ≠ qh → b ≠ qf → H9 b = some o → upd H16 qf (.lst []) b = some o := fun b o z1 z2 e => (upd_ne z2).trans (c16 b o z1 z2 e)
    generalize upd H16 qf _ = HM at g17 c17 ⊢
    have BM := bk3 HM c17
    have rl := rl.keep g17
    have e4 := c17 _ _ nhr a5 e4
    have e1 := c17 _ _ a1 a3 e1
    have e3 := c17 _ _ a2 a4 e3
    clear c14 c15 c16 c17 g14 g15 g16 g17 f14 f15 f16 n14 n15 t14 z14 s24 s13 s14 y12 d10 s11 s12 t11 t12 k10 f10 g10 B10 i10 bk3
    obtain ⟨db', po, pd, kvs, iM, _⟩ := (id BM)
    refine ⟨_, rfl, _, _, _, rfl, iM, rfl, _, _, _, _, rfl, BM, fun q5 h5 => ⟨_, rfl, _, _, _, rfl, upd_same, same_upd h5 _ _ e3, o6, fun Ha sa => ⟨_, rfl, iteF ?_⟩⟩⟩
    have z1 := (same_upd (o := .lst ((ordW nms bs nms.length).map V.str)) h5).trans sa
    refine ⟨_, rfl, _, _, _, rfl, z1 _ _ iM, rfl, _, _, _, _, rfl, BM.same z1, fun q6 h6 => ⟨_, rfl, _, _, _, rfl, upd_same, same_upd h6 _ _ (z1 _ _ e1), (by omega), fun Hb sb => ⟨_, rfl, iteF ?_⟩⟩⟩
    have z2 := (z1.trans (same_upd (o := .lst (nms.map V.str)) h6)).trans sb
    refine ⟨_, rfl, _, rfl, bnd.1, bnd.2, for_range (lo := 0) (n := ((m : Int)).toNat) (fun i σ H' => H' = Hb ∧ ∃ v11 : Option V, σ = [some (.ref l), some (.int (m : Int)), some (.ref q1), some (.ref q2), some (.ref q3), some (.ref qr), some (.ref qh), some (.ref qf), some (.ref xb), some (.ref qt), some (.ref qn), v11])
      ⟨rfl, none, rfl⟩ ?_ ?_⟩
    · rintro i σ H' hi ⟨rfl, v11, rfl⟩
      have hi : i < m := hi
      rw [Int.zero_add]
      have hin : i < nms.length := by omega
      obtain ⟨y, hy⟩ : ∃ y, us[i]? = some y := ⟨_, List.getElem?_eq_getElem (by omega)⟩
      obtain ⟨p, dx, fs, rfl, r1, r2, r3, r4⟩ := (rl.2 i y hy).same z2
      have NK : ∀ z : Prop, z → z := fun _ z => z
      refine ⟨_, rfl, _, _, _, rfl, z2 _ _ iM, rfl, _, rfl, _, rfl, _, _, _, _, rfl, rfl, SqL.of (z2 _ _ e1), atI_nat (nmV hin), _, nms, _, us, i, _, rfl, BM.same z2, hy, _, _, _, _, _, rfl, r1, T.c_Rule, xno_of T.n_Rule (by decide), r2, _, rfl, _, rfl, _, _, _, _, rfl, rfl, SqL.of (z2 _ _ e1), atI_nat (nmV hin), rfl, _, rfl, iteND rfl ?_⟩
      exact ⟨_, rfl, _, _, _, rfl, z2 _ _ iM, rfl, _, rfl, _, rfl, _, _, _, _, rfl, rfl, SqL.of (z2 _ _ e1), atI_nat (nmV hin), _, nms, _, us, i, _, rfl, BM.same z2, hy, _, _, _, _, _, rfl, r1, T.c_Rule, xno_of T.n_Rule (by decide), r4, _, rfl, _, _, rfl, rfl, rfl, _, rfl, iteND rfl ⟨rfl, _, rfl⟩⟩
    · rintro σ H' ⟨rfl, v11, rfl⟩
      refine ⟨_, rfl, _, us, nms, bs, _, rfl, z2 _ _ e4, rl.same z2, wd, fun q7 Hc n7 sc ec => ⟨_, rfl, _, _, _, rfl, ec, sc _ _ (z2 _ _ e3), o6, fun Hd sd => k Hd⟩⟩
end
set_option maxHeartbeats 4000000 in
theorem all_mk {l : PySem.W.OpenLaw} {w : World} {K : PySem.W.Frag} {h : Heap} {mg : Str → Option Value} {fa : Addr} (X : K.In h) (G : h.Ns mainGlobals mg) (hfa : mg "law" = some (.ref fa))
    {C_Book : Addr}
    {C_Rule : Addr}
    {f0 : Addr} {od0 an0 : Option Addr} {sl0 : Array (Option Value)} {oc0 kV0 dc0 pm0 cd0 ct0 : Value}
    {f1 : Addr} {od1 an1 : Option Addr} {sl1 : Array (Option Value)} {oc1 kV1 dc1 pm1 cd1 ct1 : Value}
    {f2 : Addr} {od2 an2 : Option Addr} {sl2 : Array (Option Value)} {oc2 kV2 dc2 pm2 cd2 ct2 : Value}
    {f3 : Addr} {od3 an3 : Option Addr} {sl3 : Array (Option Value)} {oc3 kV3 dc3 pm3 cd3 ct3 : Value}
    {f4 : Addr} {od4 an4 : Option Addr} {sl4 : Array (Option Value)} {oc4 kV4 dc4 pm4 cd4 ct4 : Value}
    {f5 : Addr} {od5 an5 : Option Addr} {sl5 : Array (Option Value)} {oc5 kV5 dc5 pm5 cd5 ct5 : Value}
    {f6 : Addr} {od6 an6 : Option Addr} {sl6 : Array (Option Value)} {oc6 kV6 dc6 pm6 cd6 ct6 : Value}
    {f7 : Addr} {od7 an7 : Option Addr} {sl7 : Array (Option Value)} {oc7 kV7 dc7 pm7 cd7 ct7 : Value}
    {dV7 : Value}
    {f8 : Addr} {od8 an8 : Option Addr} {sl8 : Array (Option Value)} {oc8 kV8 dc8 pm8 cd8 ct8 : Value}
    {f9 : Addr} {od9 an9 : Option Addr} {sl9 : Array (Option Value)} {oc9 kV9 dc9 pm9 cd9 ct9 : Value}
    {f10 : Addr} {od10 an10 : Option Addr} {sl10 : Array (Option Value)} {oc10 kV10 dc10 pm10 cd10 ct10 : Value}
    {f11 : Addr} {od11 an11 : Option Addr} {sl11 : Array (Option Value)} {oc11 kV11 dc11 pm11 cd11 ct11 : Value}
    {f12 : Addr} {od12 an12 : Option Addr} {sl12 : Array (Option Value)} {oc12 kV12 dc12 pm12 cd12 ct12 : Value}
    {f13 : Addr} {od13 an13 : Option Addr} {sl13 : Array (Option Value)} {oc13 kV13 dc13 pm13 cd13 ct13 : Value}
    (ca_Book : PySem.W.nsIn K mainGlobals "Book" = some (some (.ref C_Book)))
    (ca_Rule : PySem.W.nsIn K mainGlobals "Rule" = some (some (.ref C_Rule)))
    (a0 : PySem.W.nsIn K mainGlobals "untaken" = some (some (.ref f0)))
    (l0 : K.lookup f0 = some ⟨oc0, od0, .func (PySem.W.fnOf "untaken" "untaken" (defArgs sUntaken) (defBody sUntaken) (defScope sUntaken) .none kV0 dc0 pm0 an0 cd0 ct0), sl0⟩)
    (c0 : PySem.W.codeIn K cd0 "untaken" = true)
    (k0 : PySem.W.keepIn K (.ref f0) = true)
    (a1 : PySem.W.nsIn K mainGlobals "hanging_order" = some (some (.ref f1)))
    (l1 : K.lookup f1 = some ⟨oc1, od1, .func (PySem.W.fnOf "hanging_order" "hanging_order" (defArgs sHangingOrder) (defBody sHangingOrder) (defScope sHangingOrder) .none kV1 dc1 pm1 an1 cd1 ct1), sl1⟩)
    (c1 : PySem.W.codeIn K cd1 "hanging_order" = true)
    (k1 : PySem.W.keepIn K (.ref f1) = true)
    (a2 : PySem.W.nsIn K mainGlobals "_law_cell_at" = some (some (.ref f2)))
    (l2 : K.lookup f2 = some ⟨oc2, od2, .func (PySem.W.fnOf "_law_cell_at" "_law_cell_at" (defArgs sLawCellAt) (defBody sLawCellAt) (defScope sLawCellAt) .none kV2 dc2 pm2 an2 cd2 ct2), sl2⟩)
    (c2 : PySem.W.codeIn K cd2 "_law_cell_at" = true)
    (k2 : PySem.W.keepIn K (.ref f2) = true)
    (a3 : PySem.W.nsIn K mainGlobals "_law_words" = some (some (.ref f3)))
    (l3 : K.lookup f3 = some ⟨oc3, od3, .func (PySem.W.fnOf "_law_words" "_law_words" (defArgs sLawWords) (defBody sLawWords) (defScope sLawWords) .none kV3 dc3 pm3 an3 cd3 ct3), sl3⟩)
    (c3 : PySem.W.codeIn K cd3 "_law_words" = true)
    (k3 : PySem.W.keepIn K (.ref f3) = true)
    (a4 : PySem.W.nsIn K mainGlobals "_law_bases" = some (some (.ref f4)))
    (l4 : K.lookup f4 = some ⟨oc4, od4, .func (PySem.W.fnOf "_law_bases" "_law_bases" (defArgs sLawBases) (defBody sLawBases) (defScope sLawBases) .none kV4 dc4 pm4 an4 cd4 ct4), sl4⟩)
    (c4 : PySem.W.codeIn K cd4 "_law_bases" = true)
    (k4 : PySem.W.keepIn K (.ref f4) = true)
    (a5 : PySem.W.nsIn K mainGlobals "_law_due" = some (some (.ref f5)))
    (l5 : K.lookup f5 = some ⟨oc5, od5, .func (PySem.W.fnOf "_law_due" "_law_due" (defArgs sLawDue) (defBody sLawDue) (defScope sLawDue) .none kV5 dc5 pm5 an5 cd5 ct5), sl5⟩)
    (c5 : PySem.W.codeIn K cd5 "_law_due" = true)
    (k5 : PySem.W.keepIn K (.ref f5) = true)
    (a6 : PySem.W.nsIn K mainGlobals "_law_texts" = some (some (.ref f6)))
    (l6 : K.lookup f6 = some ⟨oc6, od6, .func (PySem.W.fnOf "_law_texts" "_law_texts" (defArgs sLawTexts) (defBody sLawTexts) (defScope sLawTexts) .none kV6 dc6 pm6 an6 cd6 ct6), sl6⟩)
    (c6 : PySem.W.codeIn K cd6 "_law_texts" = true)
    (k6 : PySem.W.keepIn K (.ref f6) = true)
    (a7 : PySem.W.findIn K (.ref C_Rule) "__init__" = some (some (.ref f7)))
    (t7 : PySem.W.typeIn K (.ref f7) = some (.type "function"))
    (l7 : K.lookup f7 = some ⟨oc7, od7, .func (PySem.W.fnOf "__init__" "Rule.__init__" (defArgs sRuleInit) (defBody sRuleInit) (defScope sRuleInit) dV7 kV7 dc7 pm7 an7 cd7 ct7), sl7⟩)
    (c7 : PySem.W.codeIn K cd7 "Rule.__init__" = true)
    (k7 : PySem.W.keepIn K (.ref f7) = true)
    (pk7 : ∀ (u0 u1 u2 u3 u4 u5 u6 u7 u8 : Value) (S : Setting), PySem.W.peek K S (bindArgs (PySem.W.fnOf "__init__" "Rule.__init__" (defArgs sRuleInit) (defBody sRuleInit) (defScope sRuleInit) dV7 kV7 dc7 pm7 an7 cd7 ct7) ⟨[u0, u1, u2, u3, u4, u5, u6, u7, u8], []⟩) = some [(Str.ofString "self", u0), (Str.ofString "name", u1), (Str.ofString "who", u2), (Str.ofString "owes", u3), (Str.ofString "opens", u4), (Str.ofString "base", u5), (Str.ofString "many", u6), (Str.ofString "unit", u7), (Str.ofString "still", u8)])
    (pe_RuleInit_8 : ∀ (u0 u1 u2 u3 u4 u5 u6 u7 : Value) (S : Setting), PySem.W.peek K S (bindArgs (PySem.W.fnOf "__init__" "Rule.__init__" (defArgs sRuleInit) (defBody sRuleInit) (defScope sRuleInit) dV7 kV7 dc7 pm7 an7 cd7 ct7) ⟨[u0, u1, u2, u3, u4, u5, u6, u7], []⟩) = some [(Str.ofString "self", u0), (Str.ofString "name", u1), (Str.ofString "who", u2), (Str.ofString "owes", u3), (Str.ofString "opens", u4), (Str.ofString "base", u5), (Str.ofString "many", u6), (Str.ofString "unit", u7), (Str.ofString "still", Value.none)])
    (a8 : PySem.W.nsIn K mainGlobals "_law_rule" = some (some (.ref f8)))
    (l8 : K.lookup f8 = some ⟨oc8, od8, .func (PySem.W.fnOf "_law_rule" "_law_rule" (defArgs sLawRule) (defBody sLawRule) (defScope sLawRule) .none kV8 dc8 pm8 an8 cd8 ct8), sl8⟩)
    (c8 : PySem.W.codeIn K cd8 "_law_rule" = true)
    (k8 : PySem.W.keepIn K (.ref f8) = true)
    (a9 : PySem.W.findIn K (.ref C_Book) "__init__" = some (some (.ref f9)))
    (t9 : PySem.W.typeIn K (.ref f9) = some (.type "function"))
    (l9 : K.lookup f9 = some ⟨oc9, od9, .func (PySem.W.fnOf "__init__" "Book.__init__" (defArgs sBookInit) (defBody sBookInit) (defScope sBookInit) .none kV9 dc9 pm9 an9 cd9 ct9), sl9⟩)
    (c9 : PySem.W.codeIn K cd9 "Book.__init__" = true)
    (k9 : PySem.W.keepIn K (.ref f9) = true)
    (a10 : PySem.W.findIn K (.ref C_Book) "hanging" = some (some (.ref f10)))
    (t10 : PySem.W.typeIn K (.ref f10) = some (.type "function"))
    (l10 : K.lookup f10 = some ⟨oc10, od10, .func (PySem.W.fnOf "hanging" "Book.hanging" (defArgs sBookHanging) (defBody sBookHanging) (defScope sBookHanging) .none kV10 dc10 pm10 an10 cd10 ct10), sl10⟩)
    (c10 : PySem.W.codeIn K cd10 "Book.hanging" = true)
    (k10 : PySem.W.keepIn K (.ref f10) = true)
    (a11 : PySem.W.findIn K (.ref C_Book) "term_names" = some (some (.ref f11)))
    (t11 : PySem.W.typeIn K (.ref f11) = some (.type "function"))
    (l11 : K.lookup f11 = some ⟨oc11, od11, .func (PySem.W.fnOf "term_names" "Book.term_names" (defArgs sBookTermNames) (defBody sBookTermNames) (defScope sBookTermNames) .none kV11 dc11 pm11 an11 cd11 ct11), sl11⟩)
    (c11 : PySem.W.codeIn K cd11 "Book.term_names" = true)
    (k11 : PySem.W.keepIn K (.ref f11) = true)
    (a12 : PySem.W.findIn K (.ref C_Book) "rule_of" = some (some (.ref f12)))
    (t12 : PySem.W.typeIn K (.ref f12) = some (.type "function"))
    (l12 : K.lookup f12 = some ⟨oc12, od12, .func (PySem.W.fnOf "rule_of" "Book.rule_of" (defArgs sBookRuleOf) (defBody sBookRuleOf) (defScope sBookRuleOf) .none kV12 dc12 pm12 an12 cd12 ct12), sl12⟩)
    (c12 : PySem.W.codeIn K cd12 "Book.rule_of" = true)
    (k12 : PySem.W.keepIn K (.ref f12) = true)
    (a13 : PySem.W.nsIn K mainGlobals "law" = some (some (.ref f13)))
    (l13 : K.lookup f13 = some ⟨oc13, od13, .func (PySem.W.fnOf "law" "law" (defArgs sLaw) (defBody sLaw) (defScope sLaw) .none kV13 dc13 pm13 an13 cd13 ct13), sl13⟩)
    (c13 : PySem.W.codeIn K cd13 "law" = true)
    (k13 : PySem.W.keepIn K (.ref f13) = true)
    (z_all : PySem.W.nsIn K mainGlobals "all" = some none)
    (z_isinstance : PySem.W.nsIn K mainGlobals "isinstance" = some none)
    (z_len : PySem.W.nsIn K mainGlobals "len" = some none)
    (z_list : PySem.W.nsIn K mainGlobals "list" = some none)
    (z_max : PySem.W.nsIn K mainGlobals "max" = some none)
    (z_range : PySem.W.nsIn K mainGlobals "range" = some none)
    (z_reversed : PySem.W.nsIn K mainGlobals "reversed" = some none)
    (z_str : PySem.W.nsIn K mainGlobals "str" = some none)
    (cc_Book : clsB K C_Book = true)
    (cm_Book : mkB K C_Book f9 = true)
    (cn_Book : xNo K C_Book ["name", "who", "owes", "opens", "base", "many", "unit", "still", "ends", "anew", "longer", "yields", "order", "by_name"] = true)
    (ct_dBookHanging : methB K C_Book "hanging" f10 = true)
    (ct_dBookTermNames : methB K C_Book "term_names" f11 = true)
    (ct_dBookRuleOf : methB K C_Book "rule_of" f12 = true)
    (cc_Rule : clsB K C_Rule = true)
    (cm_Rule : mkB K C_Rule f7 = true)
    (cn_Rule : xNo K C_Rule ["name", "who", "owes", "opens", "base", "many", "unit", "still", "ends", "anew", "longer", "yields", "order", "by_name"] = true)
    : ∃ fd : FuncData, (∀ (s : Shared) (v : Value), BindsTo s fd ⟨[v], []⟩ [("_law_script", v)]) ∧ ∀ base : Heap, K.In base → base.Ns mainGlobals mg → FnOk l.prog w K mg base CX0 5 fa fd ["_law_script"] (spLaw K) := by
  have e := hfa.symm.trans (PySem.W.mg_of X G a13)
  cases e
  have F0 := fun_mk (st := sUntaken) l0 c0 k0
  have b0 := F0.binds (ps := ["name", "bases", "taken"]) fun _ _ _ _ _ _ us hl => match us, hl with | [_, _, _], _ => rfl
  have F1 := fun_mk (st := sHangingOrder) l1 c1 k1
  have b1 := F1.binds (ps := ["rules"]) fun _ _ _ _ _ _ us hl => match us, hl with | [_], _ => rfl
  have F2 := fun_mk (st := sLawCellAt) l2 c2 k2
  have b2 := F2.binds (ps := ["_law_script", "_law_k"]) fun _ _ _ _ _ _ us hl => match us, hl with | [_, _], _ => rfl
  have F3 := fun_mk (st := sLawWords) l3 c3 k3
  have b3 := F3.binds (ps := ["_law_cell", "_law_many"]) fun _ _ _ _ _ _ us hl => match us, hl with | [_, _], _ => rfl
  have F4 := fun_mk (st := sLawBases) l4 c4 k4
  have b4 := F4.binds (ps := ["_law_script", "_law_many"]) fun _ _ _ _ _ _ us hl => match us, hl with | [_, _], _ => rfl
  have F5 := fun_mk (st := sLawDue) l5 c5 k5
  have b5 := F5.binds (ps := ["_law_names", "_law_bases_here"]) fun _ _ _ _ _ _ us hl => match us, hl with | [_, _], _ => rfl
  have F6 := fun_mk (st := sLawTexts) l6 c6 k6
  have b6 := F6.binds (ps := ["_law_found", "_law_due_here"]) fun _ _ _ _ _ _ us hl => match us, hl with | [_, _], _ => rfl
  have F7 := fund_mk (st := sRuleInit) l7 c7 k7
  have b7 : Binds K _ ["self", "name", "who", "owes", "opens", "base", "many", "unit", "still"] [] := bindsD (ds := []) fun us hl S => match us, hl with | [u0, u1, u2, u3, u4, u5, u6, u7, u8], _ => pk7 u0 u1 u2 u3 u4 u5 u6 u7 u8 S
  have F8 := fun_mk (st := sLawRule) l8 c8 k8
  have b8 := F8.binds (ps := ["_law_names", "_law_bases_here", "_law_k"]) fun _ _ _ _ _ _ us hl => match us, hl with | [_, _, _], _ => rfl
  have F9 := fun_mk (st := sBookInit) l9 c9 k9
  have b9 := F9.binds (ps := ["self", "rules"]) fun _ _ _ _ _ _ us hl => match us, hl with | [_, _], _ => rfl
  have F10 := fun_mk (st := sBookHanging) l10 c10 k10
  have b10 := F10.binds (ps := ["self"]) fun _ _ _ _ _ _ us hl => match us, hl with | [_], _ => rfl
  have F11 := fun_mk (st := sBookTermNames) l11 c11 k11
  have b11 := F11.binds (ps := ["self"]) fun _ _ _ _ _ _ us hl => match us, hl with | [_], _ => rfl
  have F12 := fun_mk (st := sBookRuleOf) l12 c12 k12
  have b12 := F12.binds (ps := ["self", "name"]) fun _ _ _ _ _ _ us hl => match us, hl with | [_, _], _ => rfl
  have F13 := fun_mk (st := sLaw) l13 c13 k13
  have b13 := F13.binds (ps := ["_law_script"]) fun _ _ _ _ _ _ us hl => match us, hl with | [_], _ => rfl
  have he_RuleInit_8 : Binds K _ ["self", "name", "who", "owes", "opens", "base", "many", "unit", "still"] [.none] := bindsD fun us hl S => match us, (show us.length = 8 by rw [List.length_append] at hl; exact Nat.add_right_cancel hl) with | [u0, u1, u2, u3, u4, u5, u6, u7], _ => pe_RuleInit_8 u0 u1 u2 u3 u4 u5 u6 u7 S
  have T : Txt K mg { fUntaken := f0, gUntaken := _, fHangingOrder := f1, gHangingOrder := _, fLawCellAt := f2, gLawCellAt := _, fLawWords := f3, gLawWords := _, fLawBases := f4, gLawBases := _, fLawDue := f5, gLawDue := _, fLawTexts := f6, gLawTexts := _, fRuleInit := f7, gRuleInit := _, fLawRule := f8, gLawRule := _, fBookInit := f9, gBookInit := _, fBookHanging := f10, gBookHanging := _, fBookTermNames := f11, gBookTermNames := _, fBookRuleOf := f12, gBookRuleOf := _, fLaw := fa, gLaw := _, cBook := C_Book, cRule := C_Rule } := {
    dUntaken := ⟨F0, PySem.W.mg_of X G a0, b0⟩,
    dHangingOrder := ⟨F1, PySem.W.mg_of X G a1, b1⟩,
    dLawCellAt := ⟨F2, PySem.W.mg_of X G a2, b2⟩,
    dLawWords := ⟨F3, PySem.W.mg_of X G a3, b3⟩,
    dLawBases := ⟨F4, PySem.W.mg_of X G a4, b4⟩,
    dLawDue := ⟨F5, PySem.W.mg_of X G a5, b5⟩,
    dLawTexts := ⟨F6, PySem.W.mg_of X G a6, b6⟩,
    dRuleInit := ⟨F7, b7, t7⟩,
    dLawRule := ⟨F8, PySem.W.mg_of X G a8, b8⟩,
    dBookInit := ⟨F9, b9, t9⟩,
    dBookHanging := ⟨F10, b10, t10⟩,
    dBookTermNames := ⟨F11, b11, t11⟩,
    dBookRuleOf := ⟨F12, b12, t12⟩,
    dLaw := ⟨F13, PySem.W.mg_of X G a13, b13⟩,
    m_Book := PySem.W.mg_of X G ca_Book,
    c_Book := cls_of cc_Book,
    k_Book := mk_of cm_Book,
    n_Book := cn_Book,
    t_dBookHanging := meth_of ct_dBookHanging,
    t_dBookTermNames := meth_of ct_dBookTermNames,
    t_dBookRuleOf := meth_of ct_dBookRuleOf,
    m_Rule := PySem.W.mg_of X G ca_Rule,
    c_Rule := cls_of cc_Rule,
    k_Rule := mk_of cm_Rule,
    n_Rule := cn_Rule,
    e_RuleInit_8 := he_RuleInit_8,
    n_all := PySem.W.mg_none_of X G z_all,
    n_isinstance := PySem.W.mg_none_of X G z_isinstance,
    n_len := PySem.W.mg_none_of X G z_len,
    n_list := PySem.W.mg_none_of X G z_list,
    n_max := PySem.W.mg_none_of X G z_max,
    n_range := PySem.W.mg_none_of X G z_range,
    n_reversed := PySem.W.mg_none_of X G z_reversed,
    n_str := PySem.W.mg_none_of X G z_str }
  exact ⟨_, fun s v => .of_eq rfl, fun base _ _ => okLaw T⟩
theorem walk {l : PySem.W.OpenLaw} {q : Program} {loose : List Str} {XP : (Str → Option Value) → Heap → Prop} {YP : World → Heap → Prop} {d : DefRec} {K : Params → PySem.W.Frag} (hn : l.most = some 63) (hdf : d.params.defaults = [])
    (hY : ∀ (w : World) (h : Heap), YP w h → (K w.params).In h)
    (F : ∀ (w : World) (mg : Str → Option Value) (fa : Addr) (h : Heap), (K w.params).In h → h.Ns mainGlobals mg → mg d.name = some (.ref fa) →
      ∃ fd : FuncData, (∀ (s : Shared) (u : Value), BindsTo s fd ⟨[u], []⟩ [("_law_script", u)]) ∧ ∀ base : Heap, (K w.params).In base → base.Ns mainGlobals mg → FnOk l.prog w (K w.params) mg base CX0 5 fa fd ["_law_script"] (spLaw (K w.params))) :
    PySem.W.WalkO q loose XP YP l.row.toRowW d [] (fun f vs => PySem.call f vs) :=
  L2.walk_of (n := 63) (k := 5) (x := "_law_script") (CX := fun _ => CX0) (sp := fun w => spLaw (K w.params)) hn (by decide) hdf ⟨rfl, by decide, by decide⟩ hY F (fun _ _ a ns hl _ hS => ⟨a, ns, rfl, hS, hl, fun _ => rfl⟩) fun _ _ _ _ _ z => z
end K46
open PySem PySem.W PyProof.Rows
set_option maxRecDepth 100000 in
set_option maxHeartbeats 0 in
theorem PySem.Challenge.cw_termcourt_k46_order_of_hanging_holds : PySem.Challenge.rw_termcourt_k46_order_of_hanging.Holds := by
  w_on; o_law; k_head; (case hw => w_witness2)
  k_fill
  refine K46.walk (l := PySem.Challenge.rw_termcourt_k46_order_of_hanging) rfl rfl (fun w h Y => PySem.W.kIn_of Y) ?F
  case F =>
    intro w mg fa h KX G hmg
    refine' K46.all_mk KX G hmg ?ca_Book ?ca_Rule ?a0 ?l0 ?c0 ?k0 ?a1 ?l1 ?c1 ?k1 ?a2 ?l2 ?c2 ?k2 ?a3 ?l3 ?c3 ?k3 ?a4 ?l4 ?c4 ?k4 ?a5 ?l5 ?c5 ?k5 ?a6 ?l6 ?c6 ?k6 ?a7 ?t7 ?l7 ?c7 ?k7 ?pk7 ?pe_RuleInit_8 ?a8 ?l8 ?c8 ?k8 ?a9 ?t9 ?l9 ?c9 ?k9 ?a10 ?t10 ?l10 ?c10 ?k10 ?a11 ?t11 ?l11 ?c11 ?k11 ?a12 ?t12 ?l12 ?c12 ?k12 ?a13 ?l13 ?c13 ?k13 ?z_all ?z_isinstance ?z_len ?z_list ?z_max ?z_range ?z_reversed ?z_str ?cc_Book ?cm_Book ?cn_Book ?ct_dBookHanging ?ct_dBookTermNames ?ct_dBookRuleOf ?cc_Rule ?cm_Rule ?cn_Rule
    (case ca_Book => k_is)
    (case ca_Rule => k_is)
    (case a0 => k_is)
    (case l0 => k_is)
    (case c0 => k_is)
    (case k0 => k_is)
    (case a1 => k_is)
    (case l1 => k_is)
    (case c1 => k_is)
    (case k1 => k_is)
    (case a2 => k_is)
    (case l2 => k_is)
    (case c2 => k_is)
    (case k2 => k_is)
    (case a3 => k_is)
    (case l3 => k_is)
    (case c3 => k_is)
    (case k3 => k_is)
    (case a4 => k_is)
    (case l4 => k_is)
    (case c4 => k_is)
    (case k4 => k_is)
    (case a5 => k_is)
    (case l5 => k_is)
    (case c5 => k_is)
    (case k5 => k_is)
    (case a6 => k_is)
    (case l6 => k_is)
    (case c6 => k_is)
    (case k6 => k_is)
    (case a7 => k_is)
    (case t7 => k_is)
    (case l7 => k_is)
    (case c7 => k_is)
    (case k7 => k_is)
    (case pk7 => intros; kernel_rfl)
    (case pe_RuleInit_8 => intros; kernel_rfl)
    (case a8 => k_is)
    (case l8 => k_is)
    (case c8 => k_is)
    (case k8 => k_is)
    (case a9 => k_is)
    (case t9 => k_is)
    (case l9 => k_is)
    (case c9 => k_is)
    (case k9 => k_is)
    (case a10 => k_is)
    (case t10 => k_is)
    (case l10 => k_is)
    (case c10 => k_is)
    (case k10 => k_is)
    (case a11 => k_is)
    (case t11 => k_is)
    (case l11 => k_is)
    (case c11 => k_is)
    (case k11 => k_is)
    (case a12 => k_is)
    (case t12 => k_is)
    (case l12 => k_is)
    (case c12 => k_is)
    (case k12 => k_is)
    (case a13 => k_is)
    (case l13 => k_is)
    (case c13 => k_is)
    (case k13 => k_is)
    (case z_all => k_is)
    (case z_isinstance => k_is)
    (case z_len => k_is)
    (case z_list => k_is)
    (case z_max => k_is)
    (case z_range => k_is)
    (case z_reversed => k_is)
    (case z_str => k_is)
    (case cc_Book => kernel_rfl)
    (case cm_Book => kernel_rfl)
    (case cn_Book => kernel_rfl)
    (case ct_dBookHanging => kernel_rfl)
    (case ct_dBookTermNames => kernel_rfl)
    (case ct_dBookRuleOf => kernel_rfl)
    (case cc_Rule => kernel_rfl)
    (case cm_Rule => kernel_rfl)
    (case cn_Rule => kernel_rfl)



