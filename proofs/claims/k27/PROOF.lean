import PyProof.Rows.All
import Wide.All
import OpenK.AllK
import Wide.FinOn
import Lean
import PyProof.EqAt
import PyProof.EqKinds
import PyProof.TupleCall
import PySem.Challenge.RW_termcourt_k27_tables_refused
set_option Elab.async false
set_option linter.all false
set_option maxRecDepth 100000
/-! THE HAND LAYER, for ints, bools, texts, own classes, LISTS and tuples (index, slices, in, append, pop ..), calls, loops. Paste it whole ahead of your own text; what your proof does not reach may be deleted. -/
namespace L2
open PySem PySem.Spec PyProof.Rows

/-- a key: an int or a str -/
noncomputable abbrev Key := Sum Int Str
noncomputable def keyIs : Key → Value → Bool
  | .inl k, v => Value.isInt k v
  | .inr x, v => Value.isStrOf x v
noncomputable def keyH (w : World) : Key → Int
  | .inl k => hashInt k
  | .inr x => hashStr w x
theorem keyIs_shape : ∀ {k : Key} {v : Value}, keyIs k v = true → (∃ i t, k = Sum.inl i ∧ v = Value.int i t) ∨ (∃ x t, k = Sum.inr x ∧ v = Value.str x t)
  | .inl i, v, h => by
    obtain ⟨t, e⟩ := Value.isInt_shape (k := i) (v := v) h
    exact .inl ⟨i, t, rfl, e⟩
  | .inr x, v, h => by
    obtain ⟨t, e⟩ := Value.isStrOf_shape (x := x) (v := v) h
    exact .inr ⟨x, t, rfl, e⟩
theorem key_ll (a b : Int) : decide ((Sum.inl a : Key) = Sum.inl b) = (a == b) := by
  by_cases e : a = b
  · subst e; simp
  · have h : ¬ (Sum.inl a : Key) = Sum.inl b := fun q => e (Sum.inl.inj q)
    rw [decide_eq_false h]
    exact (beq_eq_false_iff_ne.mpr e).symm
theorem key_rr (a b : Str) : decide ((Sum.inr a : Key) = Sum.inr b) = decide (a = b) := by
  by_cases e : a = b
  · subst e; simp
  · have h : ¬ (Sum.inr a : Key) = Sum.inr b := fun q => e (Sum.inr.inj q)
    rw [decide_eq_false h, decide_eq_false e]
theorem key_lr (a : Int) (b : Str) : decide ((Sum.inl a : Key) = Sum.inr b) = false := decide_eq_false (fun q => nomatch q)
theorem key_rl (a : Str) (b : Int) : decide ((Sum.inr a : Key) = Sum.inl b) = false := decide_eq_false (fun q => nomatch q)

noncomputable def mixKind (prog : Program) (w : World) : PySem.KeyKind prog w Key where
  is := keyIs
  hash := keyH w
  inj := fun v a b ha hb => by
    rcases keyIs_shape ha with ⟨i, t, rfl, rfl⟩ | ⟨x, t, rfl, rfl⟩
    · rcases keyIs_shape hb with ⟨j, u, rfl, e⟩ | ⟨y, u, rfl, e⟩
      · injection e with e1 _; rw [e1]
      · exact nomatch e
    · rcases keyIs_shape hb with ⟨j, u, rfl, e⟩ | ⟨y, u, rfl, e⟩
      · exact nomatch e
      · injection e with e1 _; rw [e1]
  byValue := fun k v h => by
    rcases keyIs_shape h with ⟨i, t, rfl, rfl⟩ | ⟨x, t, rfl, rfl⟩ <;> rfl
  pyHash := fun hv h => by
    rcases keyIs_shape hv with ⟨i, t, rfl, rfl⟩ | ⟨x, t, rfl, rfl⟩
    · exact wpAny_pyHash_int h
    · exact wpAny_pyHash_str h
  eqBool := fun hu hv h => by
    rcases keyIs_shape hu with ⟨i, t, rfl, rfl⟩ | ⟨x, t, rfl, rfl⟩
    · rcases keyIs_shape hv with ⟨j, u, rfl, rfl⟩ | ⟨y, u, rfl, rfl⟩
      · rw [key_ll] at h; exact wpAny_eqBool_int h
      · rw [key_lr] at h; exact SeqAt.EqAt.int_str i t y u _ _ _ _ h
    · rcases keyIs_shape hv with ⟨j, u, rfl, rfl⟩ | ⟨y, u, rfl, rfl⟩
      · rw [key_rl] at h; exact SeqAt.EqAt.str_int x t j u _ _ _ _ h
      · rw [key_rr] at h; exact wpAny_eqBool_str h
  «strs» := fun k x t v h => by
    rcases keyIs_shape h with ⟨i, u, rfl, e⟩ | ⟨y, u, rfl, e⟩
    · exact nomatch e
    · injection e with e1 _
      subst e1
      cases v <;> rfl

end L2

namespace L2
open PySem PySem.Spec PyProof.Rows

/-- a value, without the heap -/
inductive V where
  | non | bl (b : Bool) | int (i : Int) | str (x : Str) | byt (b : Array UInt8) | flt (b : UInt64) | ref (a : Addr) | ty (n : String)
  deriving DecidableEq

noncomputable def RelV : V → Value → Prop
  | .non, u => u = Value.none
  | .bl b, u => u = Value.bool b
  | .int i, u => ∃ t, u = Value.int i t
  | .str x, u => ∃ t, u = Value.str x t
  | .byt b, u => ∃ t, u = Value.bytes b t
  | .flt b, u => ∃ t, u = Value.float b t
  | .ref a, u => u = Value.ref a
  | .ty n, u => u = Value.type n

noncomputable abbrev Vals : List V → List Value → Prop := Paired RelV
theorem Vals.length {xs : List V} {us : List Value} (r : Vals xs us) : xs.length = us.length := Paired.length r
theorem Vals.get : ∀ {xs : List V} {us : List Value} {i : Nat} {x : V}, Vals xs us → xs[i]? = some x → ∃ u, us[i]? = some u ∧ RelV x u
  | _, _, _, _, .nil, e => by simp at e
  | _, _, 0, _, .cons r _, e => by simp at e; subst e; exact ⟨_, rfl, r⟩
  | _, _, i + 1, x, .cons _ t, e => by
    obtain ⟨u, h1, h2⟩ := Vals.get (i := i) (x := x) t (by simpa using e)
    exact ⟨u, by simpa using h1, h2⟩
theorem Vals.set {x : V} {u : Value} (r : RelV x u) : ∀ {xs : List V} {us : List Value} (i : Nat), Vals xs us → Vals (xs.set i x) (us.set i u)
  | _, _, _, .nil => .nil
  | _, _, 0, .cons _ t => .cons r t
  | _, _, i + 1, .cons q t => .cons q (Vals.set r i t)
theorem Vals.append : ∀ {xs ys : List V} {us ws : List Value}, Vals xs us → Vals ys ws → Vals (xs ++ ys) (us ++ ws)
  | _, _, _, _, .nil, s => s
  | _, _, _, _, .cons r t, s => .cons r (Vals.append t s)
theorem Vals.take : ∀ {xs : List V} {us : List Value} (n : Nat), Vals xs us → Vals (xs.take n) (us.take n)
  | _, _, 0, _ => .nil
  | _, _, _ + 1, .nil => .nil
  | _, _, n + 1, .cons r t => .cons r (Vals.take n t)
theorem Vals.drop : ∀ {xs : List V} {us : List Value} (n : Nat), Vals xs us → Vals (xs.drop n) (us.drop n)
  | _, _, 0, r => r
  | _, _, _ + 1, .nil => .nil
  | _, _, n + 1, .cons _ t => Vals.drop n t
noncomputable def RelO : Option V → Option Value → Prop
  | some v, some u => RelV v u
  | none, none => True
  | _, _ => False
noncomputable def KV {κ : Type} : List (κ × V) → List (κ × Value) → Prop := Paired fun (p : κ × V) (q : κ × Value) => p.1 = q.1 ∧ RelV p.2 q.2

/-- a key of a dict (00_mix): an int or a text -/
noncomputable def kV : Key → V
  | .inl i => .int i
  | .inr x => .str x

/-- what stands at a tracked address -/
inductive HO where
  /-- a list -/
  | lst (xs : List V)
  /-- a tuple (never changes) -/
  | tup (xs : List V)
  /-- a dict whose keys are ints and texts; one whose keys are tuples of ints and texts (the empty one is both) -/
  | dK (kvs : List (Key × V)) | dT (kvs : List (List Key × V))
  /-- a set of ints: its members, its size -/
  | set (S : Int → Bool) (n : Nat)
  /-- an instance of the class at C, its dict at dx, its attributes -/
  | ins (C dx : Addr) (fs : List (Str × V))
  /-- the dict of the instance at x -/
  | own (x : Addr)
  /-- the dict of an exception -/
  | xd (fs : List (Str × V))
  /-- a bound method, f of x -/
  | met (f x : Addr)
  /-- a range object lo, lo + 1, .. below hi -/
  | rng (lo hi : Int)
  /-- a thing that is known to the object (the script; a dict while a loop walks it): read, never written while it is so -/
  | frz (o : Obj) (u : HO)
  /-- a code object's table -/
  | tbl (ps : Array Value)
  /-- any other thing, by what is true of its one object (a def of one's own: SetO a S n := HO.ext fun h => ..) -/
  | ext (φ : Heap → Prop)

noncomputable abbrev Hp := Addr → Option HO
noncomputable def upd (H : Hp) (a : Addr) (o : HO) : Hp := fun b => if b = a then some o else H b
theorem upd_same {H : Hp} {a : Addr} {o : HO} : upd H a o a = some o := by unfold upd; rw [if_pos rfl]
theorem upd_ne {H : Hp} {a b : Addr} {o : HO} (h : b ≠ a) : upd H a o b = H b := by unfold upd; rw [if_neg h]
theorem upd_upd {H : Hp} {a : Addr} {o u : HO} : upd (upd H a o) a u = upd H a u := by
  funext b; unfold upd; split <;> rfl
theorem ne_of_none {H : Hp} {a b : Addr} {o : HO} (h : H a = some o) (h' : H b = none) : a ≠ b := by
  intro e; subst e; rw [h] at h'; cases h'

section
variable (P : Program) (w : World)
noncomputable def ObjOk (H : Hp) (h : Heap) (a : Addr) : HO → Prop
  | .lst xs => xs.length ≤ sizeLine ∧ ∃ (its : List Value) (n : Nat), Vals xs its ∧ h.get? a = some { cls := .type "list", data := .seq its.toArray n }
  | .tup xs => xs.length ≤ sizeLine ∧ ∃ its : List Value, Vals xs its ∧ IsTup h a its.toArray
  | .dK kvs => kvs.length ≤ sizeLine ∧ (a == sysModules) = false ∧ ∃ vs, KV kvs vs ∧ h.DictOf (mixKind P w) a vs
  | .dT kvs => kvs.length ≤ sizeLine ∧ (a == sysModules) = false ∧ ∃ xs : List (List Key × Addr × Value),
      Paired (fun (p : List Key × V) (q : List Key × Addr × Value) => p.1 = q.1 ∧ H q.2.1 = some (.tup (p.1.map kV)) ∧ RelV p.2 q.2.2) kvs xs ∧
      ∃ o es ep, h.get? a = some o ∧ o.ExactDict ∧ o.data = .dict es ep ∧ es.toList = xs.map (entryOfKey (tupleKind (mixKind P w))) ∧ (xs.map (·.1)).Nodup
  | .set S n => h.SetOf (intKind P w) a S n
  | .ins C dx fs => H dx = some (.own a) ∧ fs.length ≤ 1000 ∧ dx ≠ a ∧ h.get? a = some (PySem.W.instObj C dx) ∧
      ∃ mA, h.Ns1 dx mA ∧ (∀ f, RelO (fs.lookup f) (mA f)) ∧ PySem.Within mA (fs.map (·.1))
  | .own _ => ∃ o, h.get? a = some o
  | .xd fs => ∃ mA, h.Ns1 a mA ∧ ∀ f, RelO (fs.lookup f) (mA f)
  | .rng lo hi => ∃ t u v, h.get? a = some { cls := .type "range", data := .fields #[.int lo t, .int hi u, .int 1 v] }
  | .frz o u => h.get? a = some o ∧ ObjOk H h a u
  | .tbl ps => h.get? a = some { cls := .none, data := .fields ps }
  | .met f x => h.get? a = some (PySem.W.methodObj (.ref f) (.ref x))
  | .ext φ => φ h ∧ (∃ o, h.get? a = some o) ∧ ∀ h1 h2 : Heap, φ h1 → (∀ o, h1.get? a = some o → h2.get? a = some o) → φ h2
/-- the abstract heap is held -/
noncomputable def HOk (H : Hp) (h : Heap) : Prop := ∀ a o, H a = some o → ObjOk P w H h a o
end

section
variable {P : Program} {w : World} {H H' : Hp} {h h' : Heap} {a : Addr} {o : HO}
theorem ObjOk.lt (x : ObjOk P w H h a o) : a < h.objs.size := by
  cases o with
  | lst xs => obtain ⟨_, _, _, _, e⟩ := x; exact Heap.lt_size e
  | tup xs => obtain ⟨_, _, _, p⟩ := x; exact p.lt
  | dK kvs => obtain ⟨_, _, _, _, o, _, _, e, _⟩ := x; exact Heap.lt_size e
  | dT kvs => obtain ⟨_, _, _, _, o, _, _, e, _⟩ := x; exact Heap.lt_size e
  | set S n => obtain ⟨o, _, _, _, e, _⟩ := x; exact Heap.lt_size e
  | ins C dx fs => obtain ⟨_, _, _, e, _⟩ := x; exact Heap.lt_size e
  | own y => obtain ⟨_, e⟩ := x; exact Heap.lt_size e
  | xd fs => obtain ⟨_, ⟨_, _, _, e, _⟩, _⟩ := x; exact Heap.lt_size e
  | rng lo hi => obtain ⟨_, _, _, e⟩ := x; exact Heap.lt_size e
  | frz ob u => obtain ⟨e, _⟩ := x; exact Heap.lt_size e
  | tbl ps => exact Heap.lt_size (show h.get? a = some _ from x)
  | met f y => exact Heap.lt_size (show h.get? a = some _ from x)
  | ext φ => obtain ⟨_, ⟨_, e⟩, _⟩ := x; exact Heap.lt_size e
theorem Paired.mapP {α β : Type} {F G : α → β → Prop} : ∀ {l₁ : List α} {l₂ : List β}, Paired F l₁ l₂ → (∀ a b, F a b → G a b) → Paired G l₁ l₂
  | _, _, .nil, _ => .nil
  | _, _, .cons r t, f => .cons (f _ _ r) (Paired.mapP t f)
/-- what an object's description leans on: its own object, its own dict, the tuples -/
theorem ObjOk.stay (x : ObjOk P w H h a o) (k : ∀ b u, (b = a ∨ H b = some (.own a)) → h.get? b = some u → h'.get? b = some u)
    (ho : ∀ b, H b = some (.own a) → H' b = some (.own a)) (ht : ∀ b xs, H b = some (.tup xs) → H' b = some (.tup xs)) : ObjOk P w H' h' a o := by
  induction o with
  | lst xs => obtain ⟨z, its, n, r, e⟩ := x; exact ⟨z, its, n, r, k _ _ (.inl rfl) e⟩
  | tup xs => obtain ⟨z, its, r, ob, e, c⟩ := x; exact ⟨z, its, r, ob, k _ _ (.inl rfl) e, c⟩
  | dK kvs => obtain ⟨z, y, vs, r, ob, es, ep, e, c⟩ := x; exact ⟨z, y, vs, r, ob, es, ep, k _ _ (.inl rfl) e, c⟩
  | dT kvs =>
    obtain ⟨z, y, xs, r, ob, es, ep, e, c⟩ := x
    exact ⟨z, y, xs, Paired.mapP r fun p q z => ⟨z.1, ht _ _ z.2.1, z.2.2⟩, ob, es, ep, k _ _ (.inl rfl) e, c⟩
  | set S n => obtain ⟨ob, es, ep, t, e, c⟩ := x; exact ⟨ob, es, ep, t, k _ _ (.inl rfl) e, c⟩
  | ins C dx fs =>
    obtain ⟨d, z, ne, e, mA, ⟨od, es, ep, e2, c⟩, r⟩ := x
    exact ⟨ho _ d, z, ne, k _ _ (.inl rfl) e, mA, ⟨od, es, ep, k _ _ (.inr d) e2, c⟩, r⟩
  | own y => obtain ⟨ob, e⟩ := x; exact ⟨ob, k _ _ (.inl rfl) e⟩
  | xd fs => obtain ⟨mA, ⟨od, es, ep, e, c⟩, r⟩ := x; exact ⟨mA, ⟨od, es, ep, k _ _ (.inl rfl) e, c⟩, r⟩
  | rng lo hi => obtain ⟨t, u, v, e⟩ := x; exact ⟨t, u, v, k _ _ (.inl rfl) e⟩
  | frz ob u ih => obtain ⟨e, q⟩ := x; exact ⟨k _ _ (.inl rfl) e, ih q⟩
  | tbl ps =>
    have e : h.get? a = some { cls := .none, data := .fields ps } := x
    show h'.get? a = some { cls := .none, data := .fields ps }
    exact k a _ (.inl rfl) e
  | met f y =>
    have e : h.get? a = some (PySem.W.methodObj (.ref f) (.ref y)) := x
    show h'.get? a = some (PySem.W.methodObj (.ref f) (.ref y))
    exact k a _ (.inl rfl) e
  | ext φ => obtain ⟨p, ⟨o, e⟩, st⟩ := x; exact ⟨st _ _ p fun o q => k _ _ (.inl rfl) q, ⟨o, k _ _ (.inl rfl) e⟩, st⟩
theorem HOk.lt (x : HOk P w H h) (e : H a = some o) : a < h.objs.size := (x a o e).lt
theorem HOk.fresh (x : HOk P w H h) (e : h.objs.size ≤ a) : H a = none := by
  cases q : H a with
  | none => rfl
  | some u => exact absurd (Nat.lt_of_lt_of_le (x.lt q) e) (Nat.lt_irrefl _)
/-- every object of the heap is kept -/
theorem HOk.kept (x : HOk P w H h) (k : ∀ b u, h.get? b = some u → h'.get? b = some u) : HOk P w H h' := fun a o e =>
  (x a o e).stay (fun b u _ q => k b u q) (fun _ q => q) fun _ _ q => q
/-- a new object is laid and tracked -/
theorem HOk.laid (x : HOk P w H h) (k : ∀ b u, h.get? b = some u → h'.get? b = some u) (hp : h.objs.size ≤ a) (new : ObjOk P w (upd H a o) h' a o) : HOk P w (upd H a o) h' := fun b u e => by
  have hn := x.fresh hp
  by_cases hb : b = a
  · subst hb; rw [upd_same] at e; cases e; exact new
  · rw [upd_ne hb] at e
    exact (x b u e).stay (fun c v _ q => k c v q) (fun c q => by rw [upd_ne (ne_of_none q hn)]; exact q) fun c xs q => by rw [upd_ne (ne_of_none q hn)]; exact q
end

/-- what may be read as u: it is u, or a known u -/
noncomputable def Rd (H : Hp) (a : Addr) (u : HO) : Prop := H a = some u ∨ ∃ o, H a = some (.frz o u)
theorem Rd.ok {P : Program} {w : World} {H : Hp} {h : Heap} {a : Addr} {u : HO} (r : Rd H a u) (x : HOk P w H h) : ObjOk P w H h a u := by
  rcases r with r | ⟨o, r⟩
  · exact x a u r
  · obtain ⟨_, q⟩ := x a _ r
    exact q
/-- what may be written -/
noncomputable def Mut : Option HO → Prop
  | some (.lst _) => True
  | some (.dK _) => True
  | some (.dT _) => True
  | some (.set _ _) => True
  | some (.ins _ _ _) => True
  | some (.ext _) => True
  | _ => False
section
variable {P : Program} {w : World} {H : Hp} {h h' : Heap} {x e : Addr} {o' : HO}
/-- the object at e is changed: x itself, or the dict of the instance x -/
theorem HOk.write (ok : HOk P w H h) (mu : Mut (H x)) (he : e = x ∨ H e = some (.own x)) (k : ∀ b u, b ≠ e → h.get? b = some u → h'.get? b = some u) (heo : ∃ u, h'.get? e = some u)
    (new : ObjOk P w (upd H x o') h' x o') : HOk P w (upd H x o') h' := fun b u q => by
  have nown : ∀ c y, H c = some (.own y) → c ≠ x := fun c y r z => by subst z; rw [r] at mu; exact mu
  have ntup : ∀ c xs, H c = some (.tup xs) → c ≠ x := fun c xs r z => by subst z; rw [r] at mu; exact mu
  by_cases hb : b = x
  · subst hb; rw [upd_same] at q; cases q; exact new
  · rw [upd_ne hb] at q
    by_cases hbe : b = e
    · have q' : H b = some (.own x) := by
        rcases he with z | z
        · exact absurd (hbe.trans z) hb
        · rw [hbe]; exact z
      rw [q] at q'; cases q'
      obtain ⟨v, hv⟩ := heo
      exact ⟨v, by rw [hbe]; exact hv⟩
    · refine (ok b u q).stay (fun c v hc r => k c v ?_ r) (fun c r => by rw [upd_ne (nown c b r)]; exact r) fun c xs r => by rw [upd_ne (ntup c xs r)]; exact r
      rcases hc with rfl | hc
      · exact hbe
      · rintro rfl
        rcases he with z | z
        · exact nown c b hc z
        · rw [hc] at z; cases z; exact hb rfl
end

/-! ### kept unless tracked; of the frames at fs (the callers') the slots may change (an exception that passes writes there); of the records at ex (iterators) nothing is said -/
structure Un (fs ex : List Addr) (H H' : Hp) (h h' : Heap) : Prop where
  keep : ∀ b o, h.get? b = some o → H b = none → b ∉ fs → b ∉ ex → h'.get? b = some o
  slot : ∀ b o, h.get? b = some o → H b = none → b ∈ fs → b ∉ ex → ∃ sl, h'.get? b = some { o with slots := sl }
  free : ∀ b o, h.get? b = some o → H b = none → b ∉ ex → H' b = none
  there : ∀ b o, h.get? b = some o → b ∉ ex → ∃ o', h'.get? b = some o'
  tups : ∀ b xs, H b = some (.tup xs) → H' b = some (.tup xs)
  frzs : ∀ b o u, H b = some (.frz o u) → H' b = some (.frz o u)
  tbls : ∀ b ps, H b = some (.tbl ps) → ∃ more, H' b = some (.tbl (ps ++ more))
section
variable {fs fs' ex ex' : List Addr} {H H1 H2 : Hp} {h h1 h2 h' : Heap} {a x e : Addr} {o : HO}
theorem Un.any (u : Un fs ex H H1 h h1) {b : Addr} {ob : Obj} (q : h.get? b = some ob) (n : H b = none) (hx : b ∉ ex) : ∃ sl, h1.get? b = some { ob with slots := sl } := by
  by_cases hb : b ∈ fs
  · exact u.slot b ob q n hb hx
  · exact ⟨ob.slots, u.keep b ob q n hb hx⟩
theorem Un.kept (k : ∀ b u, h.get? b = some u → h'.get? b = some u) : Un fs ex H H h h' :=
  ⟨fun b ob q _ _ _ => k b ob q, fun b ob q _ _ _ => ⟨ob.slots, k b ob q⟩, fun _ _ _ n _ => n, fun b ob q _ => ⟨ob, k b ob q⟩, fun _ _ q => q, fun _ _ _ q => q, fun _ ps q => ⟨#[], by rw [q]; simp⟩⟩
theorem Un.refl : Un fs ex H H h h := Un.kept fun _ _ q => q
theorem Un.laid (k : ∀ b u, h.get? b = some u → h'.get? b = some u) (hp : h.objs.size ≤ a) (hn : H a = none) : Un fs ex H (upd H a o) h h' where
  keep := fun b u q _ _ _ => k b u q
  slot := fun b u q _ _ _ => ⟨u.slots, k b u q⟩
  free := fun b u q n _ => by rw [upd_ne (Nat.ne_of_lt (Nat.lt_of_lt_of_le (Heap.lt_size q) hp))]; exact n
  there := fun b u q _ => ⟨u, k b u q⟩
  tups := fun b xs q => by rw [upd_ne (ne_of_none q hn)]; exact q
  frzs := fun b u xs q => by rw [upd_ne (ne_of_none q hn)]; exact q
  tbls := fun b ps q => ⟨#[], by rw [upd_ne (ne_of_none q hn), q]; simp⟩
theorem Un.write (mu : Mut (H x)) (he : e = x ∨ H e = some (.own x)) (k : ∀ b u, b ≠ e → h.get? b = some u → h'.get? b = some u) (heo : ∃ u, h'.get? e = some u) : Un fs ex H (upd H x o) h h' := by
  have hx : ∀ b, H b = none → b ≠ x := fun b n z => by subst z; rw [n] at mu; exact mu
  have hb : ∀ b, H b = none → b ≠ e := fun b n z => by
    subst z
    rcases he with r | r
    · exact hx b n r
    · rw [n] at r; cases r
  have hm : ∀ b u, H b = some u → ¬ Mut (some u) → b ≠ x := fun b u q nm z => by subst z; rw [q] at mu; exact nm mu
  refine ⟨fun b u q n _ _ => k b u (hb b n) q, fun b u q n _ _ => ⟨u.slots, k b u (hb b n) q⟩, fun b u q n _ => by rw [upd_ne (hx b n)]; exact n, fun b u q _ => ?_,
    fun b xs q => by rw [upd_ne (hm b _ q fun z => z)]; exact q, fun b u xs q => by rw [upd_ne (hm b _ q fun z => z)]; exact q, fun b ps q => ⟨#[], by rw [upd_ne (hm b _ q fun z => z), q]; simp⟩⟩
  by_cases hbe : b = e
  · subst hbe; exact heo
  · exact ⟨u, k b u hbe q⟩
end

/-! ### the heap without what is tracked -/
noncomputable def trk (h : Heap) (H : Hp) : List Addr := (List.range h.objs.size).filter fun a => (H a).isSome
noncomputable def hidT (h : Heap) (H : Hp) : Heap := PySem.W.hideAll h (trk h H)
theorem hidT_size (h : Heap) (H : Hp) : (hidT h H).objs.size = h.objs.size := PySem.W.hideAll_size _ _
theorem hidT_get {h : Heap} {H : Hp} {b : Addr} {o : Obj} (e : h.get? b = some o) (n : H b = none) : (hidT h H).get? b = some o :=
  PySem.W.hideAll_get _ e fun hm => by
    have q : (H b).isSome = true := (List.mem_filter.mp hm).2
    rw [n] at q; simp at q
theorem of_hidT {h : Heap} {H : Hp} {b : Addr} {o : Obj} (e : (hidT h H).get? b = some o) : h.get? b = some o ∧ H b = none := by
  have e' : h.get? b = some o := PySem.W.of_hideAll (trk h H) e
  refine ⟨e', ?_⟩
  cases q : H b with
  | none => rfl
  | some x =>
    have hm : b ∈ trk h H := List.mem_filter.mpr ⟨List.mem_range.mpr (Heap.lt_size e'), by simp [q]⟩
    have z : (hidT h H).get? b = none := PySem.W.hideAll_none (trk h H) hm
    rw [z] at e; cases e

/-! ### OpenK's ledger, filled with every new object but one -/
noncomputable def allNews (g h : Heap) (L : Addr) : List (Addr × Obj) := (List.range h.objs.size).filterMap fun a => if a = L ∨ (g.get? a).isSome = true then none else (h.get? a).map fun o => (a, o)
noncomputable def rest (g h : Heap) (L d : Addr) : List (Addr × Obj) := (allNews g h L).filter fun p => decide (p.1 ≠ d)
end L2

namespace L2
open PySem PySem.Spec PyProof.Rows

/-- the module's facts, over the base: the heap at the law's entry without what is tracked there -/
structure Mod (K : PySem.W.Frag) (mg : Str → Option Value) (base : Heap) : Prop where
  kin : K.In base
  glob : base.Ns mainGlobals mg
  blt : ∃ mb, base.Ns builtinsNs mb ∧ ∀ x : Str, x ≠ "__name__" → mb x = bootBuiltins x
  nolimit : base.NoLimit

/-- the context: a def's body (or a comprehension's block) running. base: fixed through the whole law; s₀, H₀: the entry; outer: the frames whose slots others may change (a def's callers); stack: all frames that run;
   ex: iterators that were made ahead of the entry and are walked here (a comprehension's); fn: the names whose cells were made at the entry (a def: all; a comprehension's block: its own); calm: not within an except suite; pn: pins that every state bears; xe: what is wanted of an exception that leaves the code -/
structure Cx where
  prog : Program
  w : World
  K : PySem.W.Frag
  mg : Str → Option Value
  base : Heap
  A : Around
  N : List Str
  s₀ : Shared
  H₀ : Hp
  env : Env
  outer : List Env
  stack : List Env
  ex : List Addr
  fn : Str → Bool
  calm : Bool
  pn : List (Addr × Obj)
  xe : Value → Shared → Prop
/-- the callers' frames -/
noncomputable def frs (l : List Env) : List Addr := l.filterMap (·.frame)
noncomputable abbrev Cx.fs (X : Cx) : List Addr := frs X.outer

noncomputable def Vis (sc : Scope) (x : Str) : Prop := sc.names.lookup x = some .local ∨ sc.names.lookup x = some .cell ∨ sc.names.lookup x = some .free
noncomputable def Loc (sc : Scope) (x : Str) : Prop := sc.names.lookup x = some .local ∨ sc.names.lookup x = some .cell
noncomputable def Look (env : Env) (h : Heap) (m : Str → Option Value) (x : Str) (u : Value) : Prop :=
  (env.kindOf x = some .local ∧ m x = some u) ∨ ((env.kindOf x = some .cell ∨ env.kindOf x = some .free) ∧ ∃ c, env.cells.lookup x = some c ∧ h.IsCell c (some u))

structure Cx.Ok (X : Cx) : Prop where
  mod : Mod X.K X.mg X.base
  kind : X.env.scope.kind = .function
  glob : X.env.globals = mainGlobals
  blt : X.env.builtins = builtinsNs
  above : X.s₀.heap.objs.size ≤ X.env.locals
  inj : ∀ x y c, X.env.cells.lookup x = some c → X.env.cells.lookup y = some c → x = y
  has : ∀ x, (X.env.kindOf x = some .cell ∨ X.env.kindOf x = some .free) → ∃ c, X.env.cells.lookup x = some c
  cab : ∀ x c, X.fn x = true → X.env.cells.lookup x = some c → X.s₀.heap.objs.size ≤ c
  hd : X.calm = true → X.A.handled = none
  frames : X.A.frames = some X.stack
  stk : X.stack = X.outer ∨ (X.stack = X.env :: X.outer ∧ X.env.frame = some X.env.locals)
  exf : ∀ b ∈ X.ex, b ≠ X.env.locals ∧ ∀ x c, X.env.cells.lookup x = some c → c ≠ b
  bs : ∀ b o, X.base.get? b = some o → X.s₀.heap.get? b = some o ∧ X.H₀ b = none
  bsz : X.base.objs.size ≤ X.s₀.heap.objs.size
  noex : ∀ b o, X.base.get? b = some o → b ∉ X.ex
  exfs : ∀ b ∈ X.ex, b ∉ X.fs
  funs : X.s₀.heap.FunFrames X.base X.outer
  frf : ∀ b ∈ X.fs, X.H₀ b = none

structure Inv (X : Cx) (pins : List (Addr × Obj)) (σ : List (Option V)) (H : Hp) (s : Shared) : Prop where
  ok : X.Ok
  os : s.os = X.s₀.os
  bare : AllBare s.gens
  base : Un X.fs X.ex X.H₀ H X.s₀.heap s.heap
  loc : ∃ m, s.heap.Ns X.env.locals m ∧ ∀ (i : Nat) (x : Str) (v : V), X.N[i]? = some x → σ[i]? = some (some v) → Vis X.env.scope x → ∃ u, RelV v u ∧ Look X.env s.heap m x u
  cell : ∀ x c, X.env.cells.lookup x = some c → ∃ v, s.heap.IsCell c v
  free : H X.env.locals = none
  freeC : ∀ x c, X.env.cells.lookup x = some c → H c = none
  pin : ∀ p ∈ X.pn ++ pins, s.heap.get? p.1 = some p.2 ∧ H p.1 = none ∧ p.1 ≠ X.env.locals ∧ p.1 ∉ X.fs ∧ ∀ v, p.2.data ≠ .cell v
  hok : HOk X.prog X.w H s.heap
  len : σ.length = X.N.length

section
variable {X : Cx} {pins : List (Addr × Obj)} {σ : List (Option V)} {H H' : Hp} {s : Shared} {h' : Heap}

theorem Cx.Ok.nofr (ok : X.Ok) {b : Addr} {o : Obj} (e : X.base.get? b = some o) : b ∉ X.fs := fun hb => by
  have := (ok.funs.mem hb).1
  rw [e] at this; cases this
theorem Inv.bs (I : Inv X pins σ H s) : ∀ b o, X.base.get? b = some o → s.heap.get? b = some o ∧ H b = none := fun b o e =>
  ⟨I.base.keep b o (I.ok.bs b o e).1 (I.ok.bs b o e).2 (I.ok.nofr e) (I.ok.noex b o e), I.base.free b o (I.ok.bs b o e).1 (I.ok.bs b o e).2 (I.ok.noex b o e)⟩
theorem Inv.bk (I : Inv X pins σ H s) : ∀ b o, X.base.get? b = some o → s.heap.get? b = some o := fun b o e => (I.bs b o e).1
theorem Inv.mod (I : Inv X pins σ H s) : Mod X.K X.mg X.base := I.ok.mod
theorem Inv.kIn (I : Inv X pins σ H s) : X.K.In s.heap := I.ok.mod.kin.keeps I.bk
theorem Inv.lt (I : Inv X pins σ H s) : X.env.locals < s.heap.objs.size := let ⟨_, hn, _⟩ := I.loc; hn.lt
theorem Inv.sz (I : Inv X pins σ H s) : X.s₀.heap.objs.size ≤ s.heap.objs.size := Nat.le_trans I.ok.above (Nat.le_of_lt I.lt)
theorem Inv.nofs (I : Inv X pins σ H s) {a : Addr} (h : s.heap.objs.size ≤ a) : a ∉ X.fs := fun hb => by
  obtain ⟨_, o, ho, _⟩ := I.ok.funs.mem hb
  exact absurd (Nat.lt_of_lt_of_le (Heap.lt_size ho) (Nat.le_trans I.sz h)) (Nat.lt_irrefl _)
theorem Inv.cne (I : Inv X pins σ H s) : ∀ x c, X.env.cells.lookup x = some c → c ≠ X.env.locals := fun x c e z => by
  obtain ⟨v, o, ho, hd⟩ := I.cell x c e
  obtain ⟨m, ⟨o', es, ep, ho', hd', _⟩, _⟩ := I.loc
  rw [z, ho'] at ho; cases ho; rw [hd'] at hd; cases hd
theorem Inv.funs (I : Inv X pins σ H s) : s.heap.FunFrames X.base X.outer := by
  have all : ∀ (l : List Env), (∀ b ∈ frs l, b ∈ X.fs) → X.s₀.heap.FunFrames X.base l → s.heap.FunFrames X.base l := by
    intro l
    induction l with
    | nil => intro _ _; trivial
    | cons env r ih =>
      intro hs hl
      obtain ⟨hk, ⟨L, o, hf, hn, ho, hd⟩, hr⟩ := hl
      have hL : L ∈ X.fs := hs L (by unfold frs; rw [List.filterMap_cons, hf]; exact List.mem_cons_self)
      obtain ⟨sl, e⟩ := I.base.slot L o ho (I.ok.frf L hL) hL fun z => I.ok.exfs L z hL
      exact ⟨hk, ⟨L, _, hf, hn, e, hd⟩, ih (fun b hb => hs b (by unfold frs; rw [List.filterMap_cons, hf]; exact List.mem_cons_of_mem _ hb)) hr⟩
  exact all X.outer (fun _ hb => hb) I.ok.funs

/-- the frames that run, for a call -/
theorem Inv.stack (I : Inv X pins σ H s) : s.heap.FunFrames X.base X.stack := by
  rcases I.ok.stk with e | ⟨e, hf⟩
  · rw [e]; exact I.funs
  · rw [e]
    obtain ⟨m, hn, _⟩ := I.loc
    refine .cons (by rw [I.ok.kind]; decide) hf hn ?_ I.funs
    exact Heap.get?_none_of_le (Nat.le_trans I.ok.bsz I.ok.above)
theorem Inv.stkSub (I : Inv X pins σ H s) : ∀ b ∈ frs X.stack, b ∈ X.env.locals :: X.fs := fun b hb => by
  rcases I.ok.stk with e | ⟨e, hf⟩
  · rw [e] at hb; exact List.mem_cons_of_mem _ hb
  · rw [e] at hb
    unfold frs at hb
    rw [List.filterMap_cons, hf] at hb
    exact hb
theorem Inv.stkFree (I : Inv X pins σ H s) : ∀ b ∈ frs X.stack, H b = none := fun b hb => by
  rcases List.mem_cons.mp (I.stkSub b hb) with e | hb
  · rw [e]; exact I.free
  · obtain ⟨_, o, ho, _⟩ := I.ok.funs.mem hb
    exact I.base.free b o ho (I.ok.frf b hb) fun z => I.ok.exfs b z hb

/-- THE STEP: the untracked objects but the frame and the records at ch are kept (the callers' frames up to slots), the frame's map is kept, the new abstract heap is held -/
theorem Inv.step {g' : Array GenState} {t' : Nat} {d' : Drawn} {ch : List Addr} (I : Inv X pins σ H s)
    (hch : ∀ b ∈ ch, (b ∈ X.ex ∨ X.s₀.heap.objs.size ≤ b) ∧ b ≠ X.env.locals ∧ (∀ x c, X.env.cells.lookup x = some c → c ≠ b) ∧ ∀ p ∈ X.pn ++ pins, p.1 ≠ b)
    (keep : ∀ b o, b ≠ X.env.locals → b ∉ X.fs → b ∉ ch → s.heap.get? b = some o → H b = none → h'.get? b = some o)
    (slot : ∀ b o, b ≠ X.env.locals → b ∈ X.fs → b ∉ ch → s.heap.get? b = some o → H b = none → ∃ sl, h'.get? b = some { o with slots := sl }) (free : ∀ b o, b ∉ ch → s.heap.get? b = some o → H b = none → H' b = none)
    (there : ∀ b o, b ∉ ch → s.heap.get? b = some o → ∃ o', h'.get? b = some o')
    (tups : ∀ b xs, H b = some (.tup xs) → H' b = some (.tup xs)) (frzs : ∀ b o u, H b = some (.frz o u) → H' b = some (.frz o u)) (tbls : ∀ b ps, H b = some (.tbl ps) → ∃ more, H' b = some (.tbl (ps ++ more)))
    (ns : ∀ m, s.heap.Ns X.env.locals m → h'.Ns X.env.locals m) (hok : HOk X.prog X.w H' h') (hg : AllBare g') :
    Inv X pins σ H' { s with heap := h', gens := g', drawn := d', toks := t' } := by
  have neL : ∀ b o, X.s₀.heap.get? b = some o → b ≠ X.env.locals := fun b o e => Nat.ne_of_lt (Nat.lt_of_lt_of_le (Heap.lt_size e) I.ok.above)
  have neC : ∀ b o, X.s₀.heap.get? b = some o → b ∉ X.ex → b ∉ ch := fun b o e hx hb => by
    rcases (hch b hb).1 with z | z
    · exact hx z
    · exact absurd (Nat.lt_of_lt_of_le (Heap.lt_size e) z) (Nat.lt_irrefl _)
  have cellK : ∀ x c, X.env.cells.lookup x = some c → ∀ v, s.heap.IsCell c v → h'.IsCell c v := fun x c e v ⟨o, ho, hd⟩ => by
    have nch : c ∉ ch := fun z => (hch c z).2.2.1 x c e rfl
    by_cases hc : c ∈ X.fs
    · obtain ⟨sl, q⟩ := slot c o (I.cne x c e) hc nch ho (I.freeC x c e)
      exact ⟨_, q, hd⟩
    · exact ⟨o, keep c o (I.cne x c e) hc nch ho (I.freeC x c e), hd⟩
  refine ⟨I.ok, I.os, hg, ⟨fun b o e n hb hx => ?_, fun b o e n hb hx => ?_, fun b o e n hx => ?_, fun b o e hx => ?_, fun b xs e => tups b xs (I.base.tups b xs e), fun b o xs e => frzs b o xs (I.base.frzs b o xs e), fun b ps e => ?_⟩, ?_, fun x c e => ?_, ?_, fun x c e => ?_, fun p hp => ?_, hok, I.len⟩
  · exact keep b o (neL b o e) hb (neC b o e hx) (I.base.keep b o e n hb hx) (I.base.free b o e n hx)
  · obtain ⟨sl, e1⟩ := I.base.slot b o e n hb hx
    obtain ⟨sl', e2⟩ := slot b _ (neL b o e) hb (neC b o e hx) e1 (I.base.free b o e n hx)
    exact ⟨sl', e2⟩
  · obtain ⟨o', e1⟩ := I.base.there b o e hx
    exact free b o' (neC b o e hx) e1 (I.base.free b o e n hx)
  · obtain ⟨o', e1⟩ := I.base.there b o e hx
    exact there b o' (neC b o e hx) e1
  · obtain ⟨m1, e1⟩ := I.base.tbls b ps e
    obtain ⟨m2, e2⟩ := tbls b _ e1
    exact ⟨m1 ++ m2, by rw [e2, Array.append_assoc]⟩
  · obtain ⟨m, hn, hl⟩ := I.loc
    refine ⟨m, ns m hn, fun i x v e1 e2 e3 => ?_⟩
    obtain ⟨u, r, l⟩ := hl i x v e1 e2 e3
    refine ⟨u, r, ?_⟩
    rcases l with l | ⟨k, c, e, z⟩
    · exact .inl l
    · exact .inr ⟨k, c, e, cellK x c e _ z⟩
  · obtain ⟨v, z⟩ := I.cell x c e
    exact ⟨v, cellK x c e v z⟩
  · obtain ⟨m, ⟨o, _, _, ho, _⟩, _⟩ := I.loc
    exact free _ o (fun z => (hch _ z).2.1 rfl) ho I.free
  · obtain ⟨v, o, ho, hd⟩ := I.cell x c e
    exact free c o (fun z => (hch c z).2.2.1 x c e rfl) ho (I.freeC x c e)
  · obtain ⟨e, n, ne, nf, d⟩ := I.pin p hp
    have nch : p.1 ∉ ch := fun z => (hch p.1 z).2.2.2 p hp rfl
    exact ⟨keep p.1 p.2 ne nf nch e n, free p.1 p.2 nch e n, ne, nf, d⟩
/-- .. where the frame's own object is kept too -/
theorem Inv.un {t' : Nat} (I : Inv X pins σ H s) (u : Un X.fs [] H H' s.heap h') (hok : HOk X.prog X.w H' h') : Inv X pins σ H' { s with heap := h', toks := t' } := by
  obtain ⟨m, ⟨o, es, ep, ho, r⟩, _⟩ := id I.loc
  obtain ⟨sl, hL⟩ := u.any ho I.free (by simp)
  exact I.step (g' := s.gens) (d' := s.drawn) (ch := []) (fun _ z => nomatch z) (fun b o _ hb _ e n => u.keep b o e n hb (by simp)) (fun b o _ hb _ e n => u.slot b o e n hb (by simp)) (fun b o _ e n => u.free b o e n (by simp)) (fun b o _ e => u.there b o e (by simp)) u.tups u.frzs u.tbls (fun m' hm => by
    obtain ⟨o', es', ep', ho', r'⟩ := hm
    rw [ho] at ho'; cases ho'
    exact ⟨_, es', ep', hL, r'⟩) hok I.bare
/-- behind a call (or a comprehension's block): the slots of this frame may have changed too, the records at ch may have turned -/
theorem Inv.call {g' : Array GenState} {t' : Nat} {d' : Drawn} {ch : List Addr} (I : Inv X pins σ H s) (u : Un (frs X.stack) ch H H' s.heap h') (hok : HOk X.prog X.w H' h') (hg : AllBare g')
    (hch : ∀ b ∈ ch, (b ∈ X.ex ∨ X.s₀.heap.objs.size ≤ b) ∧ b ≠ X.env.locals ∧ (∀ x c, X.env.cells.lookup x = some c → c ≠ b) ∧ ∀ p ∈ X.pn ++ pins, p.1 ≠ b) :
    Inv X pins σ H' { s with heap := h', gens := g', drawn := d', toks := t' } := by
  obtain ⟨m, ⟨o, es, ep, ho, r⟩, _⟩ := id I.loc
  obtain ⟨sl, hL⟩ := u.any ho I.free fun z => (hch _ z).2.1 rfl
  exact I.step (ch := ch) hch (fun b o hL hb hc e n => u.keep b o e n (fun z => (List.mem_cons.mp (I.stkSub b z)).elim hL hb) hc) (fun b o _ _ hc e n => u.any e n hc) (fun b o hc e n => u.free b o e n hc) (fun b o hc e => u.there b o e hc) u.tups u.frzs u.tbls (fun m' hm => by
    obtain ⟨o', es', ep', ho', r'⟩ := hm
    rw [ho] at ho'; cases ho'
    exact ⟨_, es', ep', hL, r'⟩) hok hg
/-- an untracked record of ours (an iterator) has turned -/
theorem Inv.turned {t' : Nat} {it : Addr} (I : Inv X pins σ H s) (k : ∀ b o, b ≠ it → s.heap.get? b = some o → h'.get? b = some o) (hn : H it = none) (hL : it ≠ X.env.locals)
    (h1 : it ∈ X.ex ∨ X.s₀.heap.objs.size ≤ it) (h2 : ∀ x c, X.env.cells.lookup x = some c → c ≠ it) (h3 : ∀ p ∈ X.pn ++ pins, p.1 ≠ it) : Inv X pins σ H { s with heap := h', toks := t' } := by
  have nit : ∀ b u, H b = some u → b ≠ it := fun b u e z => by rw [z, hn] at e; cases e
  refine I.step (g' := s.gens) (d' := s.drawn) (ch := [it]) (fun b hb => ?_) (fun b o _ _ hc e _ => k b o (fun z => hc (by simp [z])) e) (fun b o _ _ hc e _ => ⟨o.slots, k b o (fun z => hc (by simp [z])) e⟩) (fun _ _ _ _ n => n)
    (fun b o hc e => ⟨o, k b o (fun z => hc (by simp [z])) e⟩) (fun _ _ e => e) (fun _ _ _ e => e) (fun b ps e => ⟨#[], by rw [e]; simp⟩) (fun m hm => ?_) (fun b u e => ?_) I.bare
  · have e : b = it := by simpa using hb
    subst e
    exact ⟨h1, hL, h2, h3⟩
  · obtain ⟨o, es, ep, ho, r⟩ := hm
    exact ⟨o, es, ep, k _ o (Ne.symm hL) ho, r⟩
  · refine (I.hok b u e).stay (fun c v hc q => k c v ?_ q) (fun _ q => q) fun _ _ q => q
    rcases hc with z | z
    · rw [z]; exact nit b u e
    · exact nit c _ z
theorem Inv.tok (I : Inv X pins σ H s) (t : Nat) : Inv X pins σ H { s with toks := t } := I.un (h' := s.heap) (t' := t) Un.refl I.hok
/-- all objects kept -/
theorem Inv.kept {t' : Nat} (I : Inv X pins σ H s) (k : ∀ b u, s.heap.get? b = some u → h'.get? b = some u) : Inv X pins σ H { s with heap := h', toks := t' } := I.un (Un.kept k) (I.hok.kept k)
/-- a new object laid and tracked -/
theorem Inv.laid {a : Addr} {o : HO} {t' : Nat} (I : Inv X pins σ H s) (k : ∀ b u, s.heap.get? b = some u → h'.get? b = some u) (hp : s.heap.objs.size ≤ a) (new : ObjOk X.prog X.w (upd H a o) h' a o) :
    Inv X pins σ (upd H a o) { s with heap := h', toks := t' } := I.un (Un.laid k hp (I.hok.fresh hp)) (I.hok.laid k hp new)
/-- an object written -/
theorem Inv.write {x e : Addr} {o : HO} {t' : Nat} (I : Inv X pins σ H s) (mu : Mut (H x)) (he : e = x ∨ H e = some (.own x)) (k : ∀ b u, b ≠ e → s.heap.get? b = some u → h'.get? b = some u) (heo : ∃ u, h'.get? e = some u)
    (new : ObjOk X.prog X.w (upd H x o) h' x o) : Inv X pins σ (upd H x o) { s with heap := h', toks := t' } := I.un (Un.write mu he k heo) (I.hok.write mu he k heo new)
theorem Inv.pins_of {pins' : List (Addr × Obj)} (I : Inv X pins σ H s) (h : ∀ p ∈ pins', s.heap.get? p.1 = some p.2 ∧ H p.1 = none ∧ p.1 ≠ X.env.locals ∧ p.1 ∉ X.fs ∧ ∀ v, p.2.data ≠ .cell v) : Inv X pins' σ H s :=
  ⟨I.ok, I.os, I.bare, I.base, I.loc, I.cell, I.free, I.freeC, fun p hp => (List.mem_append.mp hp).elim (fun z => I.pin p (List.mem_append_left _ z)) (h p), I.hok, I.len⟩

theorem nodup_ix {N : List Str} (hN : N.Nodup) {i j : Nat} {x : Str} (a : N[i]? = some x) (b : N[j]? = some x) : i = j := by
  obtain ⟨h1, e1⟩ := List.getElem?_eq_some_iff.mp a
  obtain ⟨h2, e2⟩ := List.getElem?_eq_some_iff.mp b
  exact (List.getElem_inj hN).mp (e1.trans e2.symm)

/-- a name is stored; what changed -/
theorem store_ok2 {M : Model} {A : Around} {E : Value → Shared → Prop} {i : Nat} {x : Str} {v : V} {u : Value} {Q : Unit → Shared → Prop} (I : Inv X pins σ H s) (hN : X.N.Nodup) (hi : X.N[i]? = some x) (hx : Loc X.env.scope x) (r : RelV v u)
    (h : ∀ s', Inv X pins (σ.set i (some v)) H s' → (∃ a, Heap.SameBut a s.heap s'.heap ∧ (a = X.env.locals ∨ X.env.cells.lookup x = some a)) → Q () s') (hf : X.fn x = true ∨ X.env.scope.names.lookup x = some .local := by first | exact .inl rfl | exact .inr rfl | assumption) : wpAny M A (storeName X.env x u) Q E s := by
  obtain ⟨m, hn, hl⟩ := id I.loc
  have hcls : (X.env.scope.kind == .class || (X.env.scope.kind == .module && X.env.locals != X.env.globals)) = false := by rw [I.ok.kind]; rfl
  have hiσ : i < σ.length := by rw [I.len]; exact (List.getElem?_eq_some_iff.mp hi).1
  have cne := I.cne
  have tracked : ∀ {a : Addr} {h' : Heap}, (∃ o, s.heap.get? a = some o ∧ H a = none) → Heap.SameBut a s.heap h' → HOk X.prog X.w H h' := fun {a h'} ha hs b ob e => by
    obtain ⟨_, _, hfree⟩ := ha
    refine (I.hok b ob e).stay (fun c w' hc q => (hs.2 c ?_).trans q) (fun _ q => q) fun _ _ q => q
    rintro rfl
    rcases hc with rfl | hc
    · rw [hfree] at e; cases e
    · rw [hfree] at hc; cases hc
  rcases hx with hk | hk
  · refine wpAny_storeName_local hk hn (fun h' hn' hs => ?_) hcls
    obtain ⟨oL, _, _, hoL, _⟩ := id hn
    refine h _ ⟨I.ok, I.os, I.bare, ⟨fun b o e n hb hx => ?_, fun b o e n hb hx => ?_, I.base.free, fun b o e hx => ?_, I.base.tups, I.base.frzs, I.base.tbls⟩, ⟨_, hn', fun j y v' e1 e2 e3 => ?_⟩, fun y c e => ?_, I.free, I.freeC, fun p hp => ?_, tracked ⟨oL, hoL, I.free⟩ hs, by simpa using I.len⟩ ⟨_, hs, .inl rfl⟩
    · exact (hs.2 b (Nat.ne_of_lt (Nat.lt_of_lt_of_le (Heap.lt_size e) I.ok.above))).trans (I.base.keep b o e n hb hx)
    · obtain ⟨sl, e1⟩ := I.base.slot b o e n hb hx
      exact ⟨sl, (hs.2 b (Nat.ne_of_lt (Nat.lt_of_lt_of_le (Heap.lt_size e) I.ok.above))).trans e1⟩
    · obtain ⟨o', e1⟩ := I.base.there b o e hx
      exact ⟨o', (hs.2 b (Nat.ne_of_lt (Nat.lt_of_lt_of_le (Heap.lt_size e) I.ok.above))).trans e1⟩
    · by_cases hj : j = i
      · subst hj
        rw [hi] at e1; cases e1
        rw [List.getElem?_set_self hiσ] at e2
        cases e2
        exact ⟨u, r, .inl ⟨hk, by simp⟩⟩
      · rw [List.getElem?_set_ne (Ne.symm hj)] at e2
        obtain ⟨u', r', q⟩ := hl j y v' e1 e2 e3
        refine ⟨u', r', ?_⟩
        rcases q with ⟨k, e⟩ | ⟨k, c, e, z⟩
        · refine .inl ⟨k, ?_⟩
          have : y ≠ x := fun e => hj (nodup_ix hN e1 (e ▸ hi))
          simp [this, e]
        · exact .inr ⟨k, c, e, z.sameBut hs (cne y c e)⟩
    · obtain ⟨w', z⟩ := I.cell y c e
      exact ⟨w', z.sameBut hs (cne y c e)⟩
    · obtain ⟨e, n, ne, nf, d⟩ := I.pin p hp
      exact ⟨(hs.2 p.1 ne).trans e, n, ne, nf, d⟩
  · have hfn : X.fn x = true := by
      rcases hf with z | z
      · exact z
      · rw [z] at hk; cases hk
    obtain ⟨c, hc⟩ := I.ok.has x (.inl hk)
    obtain ⟨w', z⟩ := I.cell x c hc
    refine wpAny_storeName_cell I.ok.kind hk hc z (fun h' hc' hs => ?_)
    obtain ⟨oc, hoc, hocd⟩ := id z
    refine h { s with heap := h' } ⟨I.ok, I.os, I.bare, ⟨fun b o e n hb hx => ?_, fun b o e n hb hx => ?_, I.base.free, fun b o e hx => ?_, I.base.tups, I.base.frzs, I.base.tbls⟩, ⟨m, hn.sameBut hs (Ne.symm (cne x c hc)), fun j y v' e1 e2 e3 => ?_⟩, fun y c' e => ?_, I.free, I.freeC, fun p hp => ?_, tracked ⟨oc, hoc, I.freeC x c hc⟩ hs, by simpa using I.len⟩ ⟨c, hs, .inr hc⟩
    · exact (hs.2 b (Nat.ne_of_lt (Nat.lt_of_lt_of_le (Heap.lt_size e) (I.ok.cab x c hfn hc)))).trans (I.base.keep b o e n hb hx)
    · obtain ⟨sl, e1⟩ := I.base.slot b o e n hb hx
      exact ⟨sl, (hs.2 b (Nat.ne_of_lt (Nat.lt_of_lt_of_le (Heap.lt_size e) (I.ok.cab x c hfn hc)))).trans e1⟩
    · obtain ⟨o', e1⟩ := I.base.there b o e hx
      exact ⟨o', (hs.2 b (Nat.ne_of_lt (Nat.lt_of_lt_of_le (Heap.lt_size e) (I.ok.cab x c hfn hc)))).trans e1⟩
    · by_cases hj : j = i
      · subst hj
        rw [hi] at e1; cases e1
        rw [List.getElem?_set_self hiσ] at e2
        cases e2
        exact ⟨u, r, .inr ⟨.inl hk, c, hc, hc'⟩⟩
      · rw [List.getElem?_set_ne (Ne.symm hj)] at e2
        obtain ⟨u', r', q⟩ := hl j y v' e1 e2 e3
        refine ⟨u', r', ?_⟩
        rcases q with q | ⟨k, c', e, z'⟩
        · exact .inl q
        · refine .inr ⟨k, c', e, z'.sameBut hs ?_⟩
          rintro rfl
          exact hj (nodup_ix hN e1 (I.ok.inj _ _ _ e hc ▸ hi))
    · by_cases hcc : c' = c
      · subst hcc; exact ⟨_, hc'⟩
      · obtain ⟨w2, z2⟩ := I.cell y c' e
        exact ⟨w2, z2.sameBut hs hcc⟩
    · obtain ⟨e, n, ne, nf, d⟩ := I.pin p hp
      refine ⟨(hs.2 p.1 ?_).trans e, n, ne, nf, d⟩
      intro q
      rw [q, hoc] at e
      have q' : oc = p.2 := Option.some.inj e
      exact d w' (by rw [← q']; exact hocd)
theorem store_ok {M : Model} {A : Around} {E : Value → Shared → Prop} {i : Nat} {x : Str} {v : V} {u : Value} {Q : Unit → Shared → Prop} (I : Inv X pins σ H s) (hN : X.N.Nodup) (hi : X.N[i]? = some x) (hx : Loc X.env.scope x) (r : RelV v u)
    (h : ∀ s', Inv X pins (σ.set i (some v)) H s' → Q () s') (hf : X.fn x = true ∨ X.env.scope.names.lookup x = some .local := by first | exact .inl rfl | exact .inr rfl | assumption) : wpAny M A (storeName X.env x u) Q E s :=
  store_ok2 I hN hi hx r (fun s' I' _ => h s' I') hf
/-- behind a call or a block, the state as it is -/
theorem Inv.call' {s' : Shared} {ch : List Addr} (I : Inv X pins σ H s) (ho : s'.os = s.os) (u : Un (frs X.stack) ch H H' s.heap s'.heap) (hok : HOk X.prog X.w H' s'.heap) (hg : AllBare s'.gens)
    (hch : ∀ b ∈ ch, (b ∈ X.ex ∨ X.s₀.heap.objs.size ≤ b) ∧ b ≠ X.env.locals ∧ (∀ x c, X.env.cells.lookup x = some c → c ≠ b) ∧ ∀ p ∈ X.pn ++ pins, p.1 ≠ b) : Inv X pins σ H' s' := by
  obtain ⟨h', g', d', t', o'⟩ := s'
  have e : o' = s.os := ho
  subst e
  exact I.call (g' := g') (t' := t') (d' := d') u hok hg hch
end

/-! ### the judgements -/
/-- an exception: its class, its own dict's address (where it has one), the abstract heap behind it -/
noncomputable abbrev XK := Value → Option Addr → Hp → Prop
noncomputable abbrev St := List (Option V)
noncomputable abbrev VK := V → Hp → Prop
/-- an expression's reading; a test's; an argument list's -/
noncomputable abbrev TE := St → Hp → VK → Prop
noncomputable abbrev TT := St → Hp → (Bool → Hp → Prop) → Prop
noncomputable abbrev TA := St → Hp → (List V → Hp → Prop) → Prop
/-- what is wanted behind a statement -/
structure Ends where
  nx : St → Hp → Prop
  rt : VK
  bk : St → Hp → Prop := fun _ _ => False
  ct : St → Hp → Prop := fun _ _ => False
noncomputable abbrev TS := Ends → St → Hp → Prop

noncomputable def EP (X : Cx) (pins : List (Addr × Obj)) (σ : St) (Q : VK) (u : Value) (s' : Shared) : Prop := ∃ v H', Inv X pins σ H' s' ∧ RelV v u ∧ Q v H'
noncomputable def TP (X : Cx) (pins : List (Addr × Obj)) (σ : St) (Q : Bool → Hp → Prop) (b : Bool) (s' : Shared) : Prop := ∃ H', Inv X pins σ H' s' ∧ Q b H'
noncomputable def AP (X : Cx) (pins : List (Addr × Obj)) (σ : St) (Q : List V → Hp → Prop) (us : List Value) (s' : Shared) : Prop := ∃ vs H', Inv X pins σ H' s' ∧ Vals vs us ∧ Q vs H'
noncomputable def SP (X : Cx) (pins : List (Addr × Obj)) (D : Ends) (f : Flow) (s' : Shared) : Prop :=
  match f with
  | .next => ∃ σ' H', Inv X pins σ' H' s' ∧ D.nx σ' H'
  | .brk => ∃ σ' H', Inv X pins σ' H' s' ∧ D.bk σ' H'
  | .cont => ∃ σ' H', Inv X pins σ' H' s' ∧ D.ct σ' H'
  | .ret u => ∃ v σ' H', Inv X pins σ' H' s' ∧ RelV v u ∧ D.rt v H'

noncomputable def PE (X : Cx) (e : Expr) (t : TE) : Prop :=
  ∀ (pins : List (Addr × Obj)) (s : Shared) (σ : St) (H : Hp) (Q : VK), Inv X pins σ H s → t σ H Q → wpAny (model X.prog X.w) X.A (eval e X.env) (EP X pins σ Q) X.xe s
noncomputable def PT (X : Cx) (e : Expr) (t : TT) : Prop :=
  ∀ (pins : List (Addr × Obj)) (s : Shared) (σ : St) (H : Hp) (Q : Bool → Hp → Prop), Inv X pins σ H s → t σ H Q → wpAny (model X.prog X.w) X.A (isTrue e X.env (eval e X.env)) (TP X pins σ Q) X.xe s
/-- a test whatever its 'whole' is (and, or) -/
noncomputable def PW (X : Cx) (e : Expr) (t : TT) : Prop :=
  ∀ (whole : Sem Value) (pins : List (Addr × Obj)) (s : Shared) (σ : St) (H : Hp) (Q : Bool → Hp → Prop), Inv X pins σ H s → t σ H Q → wpAny (model X.prog X.w) X.A (isTrue e X.env whole) (TP X pins σ Q) X.xe s
theorem PW.pt {X : Cx} {e : Expr} {t : TT} (h : PW X e t) : PT X e t := h _
/-- an argument list (no star), from the left -/
noncomputable def PA (X : Cx) (es : List Expr) (t : TA) : Prop :=
  ∀ (pos : Pos) (pins : List (Addr × Obj)) (s : Shared) (σ : St) (H : Hp) (Q : List V → Hp → Prop), Inv X pins σ H s → t σ H Q → wpAny (model X.prog X.w) X.A (spliced (backTo pos (starEach es X.env))) (AP X pins σ Q) X.xe s
noncomputable def PS (X : Cx) (st : Stmt) (t : TS) : Prop :=
  ∀ (pins : List (Addr × Obj)) (s : Shared) (σ : St) (H : Hp) (D : Ends), Inv X pins σ H s → t D σ H → wpAny (model X.prog X.w) X.A (exec st X.env) (SP X pins D) X.xe s
noncomputable def PSs (X : Cx) (st : List Stmt) (t : TS) : Prop :=
  ∀ (pins : List (Addr × Obj)) (s : Shared) (σ : St) (H : Hp) (D : Ends), Inv X pins σ H s → t D σ H → wpAny (model X.prog X.w) X.A (execs st X.env) (SP X pins D) X.xe s
/-- weaken the end -/
theorem thn {α : Type} {t : Sem α} {Q Q' : α → Shared → Prop} {M : Model} {A : Around} {E : Value → Shared → Prop} {s : Shared} (h : wpAny M A t Q E s) (hQ : ∀ a s, Q a s → Q' a s) : wpAny M A t Q' E s := wpAny_mono h hQ fun _ _ x => x
end L2

namespace L2
open PySem PySem.Spec PyProof.Rows
section
variable {X : Cx}

/-! ### names and constants -/
noncomputable def tVar (i : Nat) : TE := fun σ H Q => ∃ v, σ[i]? = some (some v) ∧ Q v H
noncomputable def tC (v : V) : TE := fun _ H Q => Q v H
theorem pe_var {i : Nat} {x : Str} {pos : Pos} (hN : X.N[i]? = some x) (hv : Vis X.env.scope x) (hd : (x == ("__debug__" : Str)) = false := by decide) (hcd : (x == ("__classdict__" : Str)) = false := by decide) : PE X (.Name x pos) (tVar i) := by
  intro pins s σ H Q I h
  obtain ⟨v, e, h⟩ := h
  obtain ⟨m, hn, hl⟩ := I.loc
  obtain ⟨u, r, l⟩ := hl i x v hN e hv
  have fin : EP X pins σ Q u s := ⟨v, H, I, r, h⟩
  rcases l with ⟨hk, hm⟩ | ⟨hk, c, hc, hcell⟩
  · exact wpAny_Name (wpAny_loadName_local I.ok.kind hk hn hm fin) hd
  · rcases hk with hk | hk
    · exact wpAny_Name (wpAny_loadName_cell I.ok.kind hk hc hcell fin) hd
    · exact wpAny_Name (wpAny_loadName_free I.ok.kind hk hc hcell fin hcd) hd
theorem pe_int {i j pos} : PE X (.Constant (.int i) j pos) (tC (.int i)) := fun _ _ _ H _ I h => wpAny_Constant_int ⟨.int i, H, I.tok _, ⟨_, rfl⟩, h⟩
theorem pe_bl {b j pos} : PE X (.Constant (.bool b) j pos) (tC (.bl b)) := fun _ _ _ H _ I h => Constant_bool ⟨.bl b, H, I, rfl, h⟩
theorem pe_non {j pos} : PE X (.Constant .none j pos) (tC .non) := fun _ _ _ H _ I h => Constant_none ⟨.non, H, I, rfl, h⟩
theorem pe_str {x j pos} : PE X (.Constant (.str x) j pos) (tC (.str x)) := fun _ _ _ H _ I h => Calls.Constant_str ⟨.str x, H, I.tok _, ⟨_, rfl⟩, h⟩

/-- a global name of the def -/
noncomputable def Gl (X : Cx) (x : Str) : Prop := X.env.kindOf x = some .globalImplicit
theorem ld_glob {E : Value → Shared → Prop} {pins : List (Addr × Obj)} {s : Shared} {σ : St} {H : Hp} {x : Str} {u : Value} {pos : Pos} {Q : Value → Shared → Prop} (I : Inv X pins σ H s) (hg : Gl X x) (hm : X.mg x = some u) (h : Q u s)
    (hd : (x == ("__debug__" : Str)) = false := by decide) : wpAny (model X.prog X.w) X.A (eval (.Name x pos) X.env) Q E s :=
  Calls.Name_function_global I.ok.kind hg (Calls.loadGlobal_global (by rw [I.ok.glob]; exact I.mod.glob.keeps I.bk) hm h) hd
theorem ld_blt {E : Value → Shared → Prop} {pins : List (Addr × Obj)} {s : Shared} {σ : St} {H : Hp} {x : Str} {u : Value} {pos : Pos} {Q : Value → Shared → Prop} (I : Inv X pins σ H s) (hg : Gl X x) (hm : X.mg x = none) (hv : bootBuiltins x = some u) (h : Q u s)
    (hn : x ≠ "__name__" := by decide) (hd : (x == ("__debug__" : Str)) = false := by decide) : wpAny (model X.prog X.w) X.A (eval (.Name x pos) X.env) Q E s := by
  obtain ⟨mb, h1, h2⟩ := I.mod.blt
  exact Calls.Name_function_global I.ok.kind hg (Calls.loadGlobal_builtin (by rw [I.ok.glob]; exact I.mod.glob.keeps I.bk) hm (by rw [I.ok.blt]; exact h1.keeps I.bk) ((h2 x hn).trans hv) h) hd
/-- a module's constant, a class, a function, as a value -/
theorem pe_glob {x : Str} {v : V} {u : Value} {pos : Pos} (hg : Gl X x) (hm : X.mg x = some u) (r : RelV v u) (hd : (x == ("__debug__" : Str)) = false := by decide) : PE X (.Name x pos) (tC v) :=
  fun _ _ _ H _ I h => ld_glob I hg hm ⟨v, H, I, r, h⟩ hd
theorem pe_bltn {x : Str} {v : V} {u : Value} {pos : Pos} (hg : Gl X x) (hm : X.mg x = none) (hv : bootBuiltins x = some u) (r : RelV v u) (hn : x ≠ "__name__" := by decide) (hd : (x == ("__debug__" : Str)) = false := by decide) : PE X (.Name x pos) (tC v) :=
  fun _ _ _ H _ I h => ld_blt I hg hm hv ⟨v, H, I, r, h⟩ hn hd

/-! ### arithmetic -/
variable {a b : Expr} {ta tb : TE} {pos : Pos}
/-! ### comparisons -/
noncomputable def PC (X : Cx) (op : CmpOp) (a b : Expr) (t : TE) : Prop :=
  ∀ (pins : List (Addr × Obj)) (s : Shared) (σ : St) (H : Hp) (Q : VK), Inv X pins σ H s → t σ H Q →
    wpAny (model X.prog X.w) X.A (eval a X.env) (fun v s₁ => wpAny (model X.prog X.w) X.A (eval b X.env) (fun u s₂ => wpAny (model X.prog X.w) X.A (compareOp op v u) (EP X pins σ Q) X.xe s₂) X.xe s₁) X.xe s
/-- a comparison as a value, as a test -/
noncomputable def tB (t : TE) : TT := fun σ H Q => t σ H fun x H1 => ∃ c, x = .bl c ∧ Q c H1
/-- an expression whose value is a bool, as a test -/
theorem pt_val {e : Expr} {t : TE} (h : PE X e t) (he : ∀ whole, isTrue e X.env whole = (do let v ← whole; standAt e.pos; holding [v] (truthy v)) := by intro _; rfl) : PT X e (tB t) := by
  intro pins s σ H Q I hw
  refine isTrue_plain (thn (h pins s σ H _ I hw) fun v s1 hh9 => ?_) (he _)
  obtain ⟨x, H1, I1, r1, q1⟩ := hh9
  obtain ⟨d, rfl, q⟩ := q1
  cases r1
  exact wpAny_truthy_bool ⟨H1, I1, q⟩

/-! ### and, or, not -/
variable {tA tB' : TT} {rest : List Expr}
noncomputable def tAnd (t u : TT) : TT := fun σ H Q => t σ H fun c H1 => if c = true then u σ H1 Q else Q false H1
noncomputable def tOr (t u : TT) : TT := fun σ H Q => t σ H fun c H1 => if c = true then Q true H1 else u σ H1 Q
noncomputable def tNot (t : TT) : TT := fun σ H Q => t σ H fun c H1 => Q (!c) H1
theorem pw_and1 (ha : PT X a tA) : PW X (.BoolOp .And [a] pos) tA := by
  intro wh pins s σ H Q I h
  refine isTrue_and (thn (ha pins s σ H Q I h) fun c s1 e => ?_)
  cases c with
  | true => exact isTrue_and_nil e
  | false => exact e
theorem pw_or1 (ha : PT X a tA) : PW X (.BoolOp .Or [a] pos) tA := by
  intro wh pins s σ H Q I h
  refine isTrue_or (thn (ha pins s σ H Q I h) fun c s1 e => ?_)
  cases c with
  | false => exact isTrue_or_nil e
  | true => exact e
theorem pw_and (ha : PT X a tA) (hb : PW X (.BoolOp .And (b :: rest) pos) tB') : PW X (.BoolOp .And (a :: b :: rest) pos) (tAnd tA tB') := by
  intro wh pins s σ H Q I h
  refine isTrue_and (thn (ha pins s σ H _ I h) fun c s1 hh9 => ?_)
  obtain ⟨H1, I1, q1⟩ := hh9
  cases c with
  | true => exact hb wh pins s1 σ H1 Q I1 q1
  | false => exact ⟨H1, I1, q1⟩
theorem pw_or (ha : PT X a tA) (hb : PW X (.BoolOp .Or (b :: rest) pos) tB') : PW X (.BoolOp .Or (a :: b :: rest) pos) (tOr tA tB') := by
  intro wh pins s σ H Q I h
  refine isTrue_or (thn (ha pins s σ H _ I h) fun c s1 hh9 => ?_)
  obtain ⟨H1, I1, q1⟩ := hh9
  cases c with
  | true => exact ⟨H1, I1, q1⟩
  | false => exact hb wh pins s1 σ H1 Q I1 q1
theorem pt_not (ha : PT X a tA) : PT X (.UnaryOp .Not a pos) (tNot tA) := by
  intro pins s σ H Q I h
  exact isTrue_not (ha pins s σ H (fun c H1 => Q (!c) H1) I h)
/-- .. as values (bools) -/
noncomputable def tAndV (ta tb : TE) : TE := fun σ H Q => ta σ H fun x H1 => ∃ c, x = .bl c ∧ if c = true then tb σ H1 Q else Q (.bl false) H1
noncomputable def tOrV (ta tb : TE) : TE := fun σ H Q => ta σ H fun x H1 => ∃ c, x = .bl c ∧ if c = true then Q (.bl true) H1 else tb σ H1 Q
noncomputable def tNotV (ta : TE) : TE := fun σ H Q => ta σ H fun x H1 => ∃ c, x = .bl c ∧ Q (.bl (!c)) H1
theorem pe_one {op} {t : TE} (h : PE X a t) : PE X (.BoolOp op [a] pos) t := fun pins s σ H Q I hw => BoolOp_one (h pins s σ H Q I hw)
theorem pe_and (ha : PE X a ta) (hb : PE X (.BoolOp .And (b :: rest) pos) tb) : PE X (.BoolOp .And (a :: b :: rest) pos) (tAndV ta tb) := by
  intro pins s σ H Q I h
  refine BoolOp_and (thn (ha pins s σ H _ I h) fun v s1 hh9 => ?_)
  obtain ⟨x, H1, I1, r1, q1⟩ := hh9
  obtain ⟨c, rfl, q1⟩ := q1
  cases r1
  refine wpAny_truthy_bool ?_
  cases c with
  | true => exact hb pins s1 σ H1 Q I1 q1
  | false => exact ⟨.bl false, H1, I1, rfl, q1⟩
theorem pe_or (ha : PE X a ta) (hb : PE X (.BoolOp .Or (b :: rest) pos) tb) : PE X (.BoolOp .Or (a :: b :: rest) pos) (tOrV ta tb) := by
  intro pins s σ H Q I h
  refine BoolOp_or (thn (ha pins s σ H _ I h) fun v s1 hh9 => ?_)
  obtain ⟨x, H1, I1, r1, q1⟩ := hh9
  obtain ⟨c, rfl, q1⟩ := q1
  cases r1
  refine wpAny_truthy_bool ?_
  cases c with
  | false => exact hb pins s1 σ H1 Q I1 q1
  | true => exact ⟨.bl true, H1, I1, rfl, q1⟩
theorem pe_not (ha : PE X a ta) : PE X (.UnaryOp .Not a pos) (tNotV ta) := by
  intro pins s σ H Q I h
  refine UnaryOp_ (thn (ha pins s σ H _ I h) fun v s1 hh9 => ?_)
  obtain ⟨x, H1, I1, r1, q1⟩ := hh9
  obtain ⟨c, rfl, q1⟩ := q1
  cases r1
  exact not_of (wpAny_truthy_bool ⟨.bl (!c), H1, I1, rfl, q1⟩)
/-- a if t else b -/
noncomputable def tIf (t : TT) (ta tb : TE) : TE := fun σ H Q => t σ H fun c H1 => if c = true then ta σ H1 Q else tb σ H1 Q
theorem pe_ifExp {c : Expr} (hc : PT X c tA) (ha : PE X a ta) (hb : PE X b tb) : PE X (.IfExp c a b pos) (tIf tA ta tb) := by
  intro pins s σ H Q I h
  refine wpAny_IfExp (thn (hc pins s σ H _ I h) fun d s1 hh9 => ?_)
  obtain ⟨H1, I1, q1⟩ := hh9
  cases d with
  | true => exact ha pins s1 σ H1 Q I1 q1
  | false => exact hb pins s1 σ H1 Q I1 q1
end
end L2

namespace L2
open PySem PySem.Spec PyProof.Rows

/-! ### a list, a tuple that is read: tracked, frozen, or an object of the module -/
noncomputable def SqL (K : PySem.W.Frag) (H : Hp) (a : Addr) (xs : List V) : Prop :=
  Rd H a (.lst xs) ∨
    ∃ (o : Obj) (its : Array Value) (n : Nat), K.lookup a = some o ∧ o.cls = .type "list" ∧ o.dict = none ∧ o.data = .seq its n ∧ its.size ≤ sizeLine ∧ Vals xs its.toList
noncomputable def SqT (K : PySem.W.Frag) (H : Hp) (a : Addr) (xs : List V) : Prop :=
  Rd H a (.tup xs) ∨
    ∃ (o : Obj) (its : Array Value) (n : Nat), K.lookup a = some o ∧ o.cls = .type "tuple" ∧ o.data = .seq its n ∧ its.size ≤ sizeLine ∧ Vals xs its.toList
noncomputable def absV : Value → Option V
  | .none => some .non
  | .bool b => some (.bl b)
  | .int i _ => some (.int i)
  | .str x _ => some (.str x)
  | .bytes b _ => some (.byt b)
  | .float b _ => some (.flt b)
  | .ref a => some (.ref a)
  | .type n => some (.ty n)
  | _ => none
theorem RelV.abs {x : V} {u : Value} (r : RelV x u) : absV u = some x := by
  cases x with
  | non => cases r; rfl
  | bl _ => cases r; rfl
  | int _ => obtain ⟨t, rfl⟩ := r; rfl
  | str _ => obtain ⟨t, rfl⟩ := r; rfl
  | byt _ => obtain ⟨t, rfl⟩ := r; rfl
  | flt _ => obtain ⟨t, rfl⟩ := r; rfl
  | ref _ => cases r; rfl
  | ty _ => cases r; rfl
theorem RelV.inj {x y : V} {u : Value} (r : RelV x u) (q : RelV y u) : x = y := Option.some.inj (r.abs.symm.trans q.abs)
theorem Vals.inj : ∀ {xs ys : List V} {us : List Value}, Vals xs us → Vals ys us → xs = ys
  | _, _, _, .nil, .nil => rfl
  | _, _, _, .cons r t, .cons r' t' => by rw [r.inj r', Vals.inj t t']
section
variable {X : Cx} {pins : List (Addr × Obj)} {σ : St} {H : Hp} {s : Shared} {a : Addr} {xs ys : List V}
theorem SqL.of {K : PySem.W.Frag} (h : H a = some (.lst xs)) : SqL K H a xs := .inl (.inl h)
theorem SqT.of {K : PySem.W.Frag} (h : H a = some (.tup xs)) : SqT K H a xs := .inl (.inl h)
theorem Inv.list (I : Inv X pins σ H s) (h : SqL X.K H a xs) : ∃ its : List Value, Vals xs its ∧ PlainL s.heap a its.toArray ∧ xs.length ≤ sizeLine := by
  rcases h with h | ⟨o, its, n, hk, hc, hd, hs, hz, r⟩
  · obtain ⟨z, its, n, r, e⟩ := h.ok I.hok
    exact ⟨its, r, ⟨_, n, e, rfl, rfl, rfl⟩, z⟩
  · refine ⟨its.toList, r, ⟨o, n, I.kIn a o hk, hc, hd, by simpa using hs⟩, ?_⟩
    have e := r.length
    simp only [Array.length_toList] at e
    omega
theorem Inv.tuple (I : Inv X pins σ H s) (h : SqT X.K H a xs) : ∃ its : List Value, Vals xs its ∧ IsTup s.heap a its.toArray ∧ xs.length ≤ sizeLine := by
  rcases h with h | ⟨o, its, n, hk, hc, hs, hz, r⟩
  · obtain ⟨z, its, r, p⟩ := h.ok I.hok
    exact ⟨its, r, p, z⟩
  · refine ⟨its.toList, r, ⟨o, I.kIn a o hk, hc, n, by simpa using hs⟩, ?_⟩
    have e := r.length
    simp only [Array.length_toList] at e
    omega
theorem Inv.list_inj (I : Inv X pins σ H s) (h : SqL X.K H a xs) (h' : SqL X.K H a ys) : xs = ys := by
  obtain ⟨its, r, ⟨o, n, e, _, _, d⟩, _⟩ := I.list h
  obtain ⟨its', r', ⟨o', n', e', _, _, d'⟩, _⟩ := I.list h'
  rw [e] at e'; cases e'
  rw [d] at d'
  injection d' with d1 _
  have : its = its' := by simpa using congrArg Array.toList d1
  subst this
  exact r.inj r'
end

/-! ### another wish about exceptions -/
noncomputable abbrev Cx.wish (X : Cx) (E : Value → Shared → Prop) : Cx := { X with xe := E }
/-- no exception leaves -/
noncomputable abbrev Cx.nox (X : Cx) : Cx := X.wish fun _ _ => False
theorem Cx.Ok.wish {X : Cx} (ok : X.Ok) (E : Value → Shared → Prop) : (X.wish E).Ok :=
  ⟨ok.mod, ok.kind, ok.glob, ok.blt, ok.above, ok.inj, ok.has, ok.cab, ok.hd, ok.frames, ok.stk, ok.exf, ok.bs, ok.bsz, ok.noex, ok.exfs, ok.funs, ok.frf⟩
theorem Cx.Ok.unwish {X : Cx} {E : Value → Shared → Prop} (ok : (X.wish E).Ok) : X.Ok :=
  ⟨ok.mod, ok.kind, ok.glob, ok.blt, ok.above, ok.inj, ok.has, ok.cab, ok.hd, ok.frames, ok.stk, ok.exf, ok.bs, ok.bsz, ok.noex, ok.exfs, ok.funs, ok.frf⟩
section
variable {X : Cx} {pins : List (Addr × Obj)} {σ : St} {H : Hp} {s : Shared} {E : Value → Shared → Prop}
theorem Inv.wish (I : Inv X pins σ H s) (E : Value → Shared → Prop) : Inv (X.wish E) pins σ H s := ⟨I.ok.wish E, I.os, I.bare, I.base, I.loc, I.cell, I.free, I.freeC, I.pin, I.hok, I.len⟩
theorem Inv.unwish (I : Inv (X.wish E) pins σ H s) : Inv X pins σ H s := ⟨I.ok.unwish, I.os, I.bare, I.base, I.loc, I.cell, I.free, I.freeC, I.pin, I.hok, I.len⟩
theorem SP.unwish {D : Ends} {f : Flow} {s' : Shared} (h : SP (X.wish E) pins D f s') : SP X pins D f s' := by
  cases f with
  | next => obtain ⟨σ', H', I, q⟩ := h; exact ⟨σ', H', I.unwish, q⟩
  | brk => obtain ⟨σ', H', I, q⟩ := h; exact ⟨σ', H', I.unwish, q⟩
  | cont => obtain ⟨σ', H', I, q⟩ := h; exact ⟨σ', H', I.unwish, q⟩
  | ret u => obtain ⟨v, σ', H', I, r, q⟩ := h; exact ⟨v, σ', H', I.unwish, r, q⟩
theorem PSs.nox {st : List Stmt} {t : TS} (h : PSs X.nox st t) : PSs X st t := fun pins s σ H D I hw =>
  wpAny_mono (h pins s σ H D (I.wish _) hw) (fun _ _ q => q.unwish) fun _ _ z => False.elim z
end

/-! ### blocks and small statements -/
section
variable {X : Cx} {st : Stmt} {rest : List Stmt} {t u : TS} {e : Expr} {te : TE} {pos : Pos}
noncomputable def tNext : TS := fun D σ H => D.nx σ H
noncomputable def tSeq (t u : TS) : TS := fun D σ H => t { D with nx := u D } σ H
theorem pss_nil : PSs X [] tNext := fun _ _ σ H _ I h => wpAny_execs_nil ⟨σ, H, I, h⟩
theorem pss_cons (h1 : PS X st t) (h2 : PSs X rest u) : PSs X (st :: rest) (tSeq t u) := by
  intro pins s σ H D I h
  refine wpAny_execs_cons (thn (h1 pins s σ H { D with nx := u D } I h) fun f s1 q => ?_)
  cases f with
  | next =>
    obtain ⟨σ', H', I', q⟩ := q
    exact h2 pins s1 σ' H' D I' q
  | ret v => exact q
  | brk => exact q
  | cont => exact q
theorem pss_one (h1 : PS X st t) : PSs X [st] t := by
  intro pins s σ H D I h
  refine wpAny_execs_cons (thn (h1 pins s σ H D I h) fun f s1 q => ?_)
  cases f with
  | next => exact wpAny_execs_nil q
  | ret v => exact q
  | brk => exact q
  | cont => exact q
/-- in a def's body nothing is shown -/
theorem Inv.quiet {pins : List (Addr × Obj)} {σ : St} {H : Hp} {s : Shared} (I : Inv X pins σ H s) : interactive X.env = false := by simp [interactive, I.ok.kind]
/-- an expression whose value is dropped -/
noncomputable def tDrop (te : TE) : TS := fun D σ H => te σ H fun _ H1 => D.nx σ H1
theorem ps_expr (he : PE X e te) (hs : swapsWith e none pos.line X.env = pure false := by rfl) : PS X (.Expr e pos) (tDrop te) := by
  intro pins s σ H D I h
  exact wpAny_Expr_any (thn (he pins s σ H _ I h) fun v s1 ⟨x, H1, I1, r1, q1⟩ => ⟨σ, H1, I1, q1⟩) I.quiet hs
noncomputable def tRet (te : TE) : TS := fun D σ H => te σ H D.rt
theorem ps_ret (he : PE X e te) : PS X (.Return (some e) pos) (tRet te) := by
  intro pins s σ H D I h
  exact wpAny_Return_some (thn (he pins s σ H _ I h) fun v s1 ⟨x, H1, I1, r1, q1⟩ => ⟨x, σ, H1, I1, r1, q1⟩)
noncomputable def tIfS (c : TT) (t u : TS) : TS := fun D σ H => c σ H fun b H1 => if b = true then t D σ H1 else u D σ H1
theorem ps_if {c : Expr} {a b : List Stmt} {tc : TT} (hc : PT X c tc) (ha : PSs X a t) (hb : PSs X b u) : PS X (.If c a b pos) (tIfS tc t u) := by
  intro pins s σ H D I h
  refine wpAny_If (thn (hc pins s σ H _ I h) fun d s1 hh9 => ?_)
  obtain ⟨H1, I1, q1⟩ := hh9
  cases d with
  | true => exact ha pins s1 σ H1 D I1 q1
  | false => exact hb pins s1 σ H1 D I1 q1
/-- code that the proof never comes to -/
noncomputable def tNever : TS := fun _ _ _ => False
theorem ps_never : PS X st tNever := fun _ _ _ _ _ _ h => h.elim
end

/-! ### targets -/
noncomputable abbrev TG := V → St → Hp → (St → Hp → Prop) → Prop
noncomputable abbrev TGs := List V → St → Hp → (St → Hp → Prop) → Prop
noncomputable def PG (X : Cx) (target : Expr) (t : TG) : Prop :=
  ∀ (pins : List (Addr × Obj)) (s : Shared) (σ : St) (H : Hp) (v : V) (u : Value) (Q : St → Hp → Prop), Inv X pins σ H s → RelV v u → t v σ H Q →
    wpAny (model X.prog X.w) X.A (assign target X.env u) (fun _ s' => ∃ σ' H', Inv X pins σ' H' s' ∧ Q σ' H') X.xe s
/-- several targets, one after another -/
noncomputable def PGs (X : Cx) (ts : List Expr) (t : TGs) : Prop :=
  ∀ (pins : List (Addr × Obj)) (s : Shared) (σ : St) (H : Hp) (vs : List V) (us : List Value) (Q : St → Hp → Prop), Inv X pins σ H s → Vals vs us → t vs σ H Q →
    wpAny (model X.prog X.w) X.A (assignInOrder ((assignEach ts X.env).map (·.2)) us) (fun _ s' => ∃ σ' H', Inv X pins σ' H' s' ∧ Q σ' H') X.xe s
/-- o[i] = v, by values -/
noncomputable abbrev TSet := V → V → V → Hp → (Hp → Prop) → Prop
noncomputable def PSet (X : Cx) (t : TSet) : Prop :=
  ∀ (pins : List (Addr × Obj)) (s : Shared) (σ : St) (H : Hp) (o i v : V) (ov iv u : Value) (Q : Hp → Prop), Inv X pins σ H s → RelV o ov → RelV i iv → RelV v u → t o i v H Q →
    wpAny (model X.prog X.w) X.A (setItem ov iv u) (fun _ s' => ∃ H', Inv X pins σ H' s' ∧ Q H') X.xe s
/-- a op= b, by values -/
noncomputable abbrev TIp := V → V → Hp → VK → Prop
noncomputable def PIp (X : Cx) (op : Operator) (t : TIp) : Prop :=
  ∀ (pins : List (Addr × Obj)) (s : Shared) (σ : St) (H : Hp) (x y : V) (v u : Value) (Q : VK), Inv X pins σ H s → RelV x v → RelV y u → t x y H Q →
    wpAny (model X.prog X.w) X.A (inplaceOp op v u) (EP X pins σ Q) X.xe s
section
variable {X : Cx} {pos : Pos}
noncomputable def gName (i : Nat) : TG := fun v σ H Q => Q (σ.set i (some v)) H
theorem pg_name {i : Nat} {x : Str} (hN : X.N.Nodup) (hi : X.N[i]? = some x) (hx : Loc X.env.scope x) (hf : X.fn x = true ∨ X.env.scope.names.lookup x = some .local := by first | exact .inl rfl | exact .inr rfl | assumption) : PG X (.Name x pos) (gName i) := by
  intro pins s σ H v u Q I r h
  exact wpAny_assign_Name (store_ok I hN hi hx r (fun s' I' => ⟨_, H, I', h⟩) hf)
noncomputable def gNil : TGs := fun vs σ H Q => vs = [] ∧ Q σ H
noncomputable def gCons (t : TG) (u : TGs) : TGs := fun vs σ H Q => ∃ v r, vs = v :: r ∧ t v σ H fun σ' H' => u r σ' H' Q
theorem pgs_nil : PGs X [] gNil := by
  intro pins s σ H vs us Q I r h
  obtain ⟨e, h⟩ := h
  subst e
  cases r
  exact assignInOrder_nil ⟨σ, H, I, h⟩
theorem pgs_cons {e : Expr} {es : List Expr} {t : TG} {u : TGs} (h1 : PG X e t) (h2 : PGs X es u)
    (hs : (assignEach (e :: es) X.env).map (·.2) = assign e X.env :: (assignEach es X.env).map (·.2) := by rfl) : PGs X (e :: es) (gCons t u) := by
  intro pins s σ H vs us Q I r h
  obtain ⟨v, vr, e1, h⟩ := h
  subst e1
  cases r with
  | cons r rr =>
    rw [hs]
    refine assignInOrder_cons (thn (h1 pins s σ H _ _ _ I r h) fun _ s1 hh9 => ?_)
    obtain ⟨σ1, H1, I1, q1⟩ := hh9
    exact h2 pins s1 σ1 H1 _ _ Q I1 rr q1
/-- (a, b, ..) = a tuple of that length -/
noncomputable def gTup (K : PySem.W.Frag) (n : Nat) (t : TGs) : TG := fun v σ H Q => ∃ a xs, v = .ref a ∧ SqT K H a xs ∧ xs.length = n ∧ t xs σ H Q
theorem pg_tup {es : List Expr} {k : Nat} {t : TGs} {n : Nat} (hc : X.calm = true) (h : PGs X es t)
    (hn : (assignEach es X.env).length = n := by rfl) (hst : (assignEach es X.env).findIdx? (·.1) = none := by rfl) : PG X (.Tuple es k pos) (gTup X.K n t) := by
  intro pins s σ H v u Q I r hw
  obtain ⟨a, xs, e1, hq, hl, hw⟩ := hw
  subst e1
  cases r
  obtain ⟨its, rv, ht, hz⟩ := I.tuple hq
  refine assign_Tuple_tuple (I.ok.hd hc) ht (by simp [hn, ← hl, rv.length]) hst fun h' hx => ?_
  have I1 : Inv X pins σ H { s with heap := h' } := I.kept (t' := s.toks) fun b o e => hx b o (Nat.ne_of_lt (Heap.lt_size e)) e
  exact h pins _ σ H xs _ Q I1 (by simpa using rv) hw
/-- o[i] = .. -/
noncomputable def gSub (to ti : TE) (t : TSet) : TG := fun v σ H Q => to σ H fun o H1 => ti σ H1 fun i H2 => t o i v H2 fun H3 => Q σ H3
theorem pg_sub {o i : Expr} {to ti : TE} {t : TSet} (ho : PE X o to) (hi : PE X i ti) (hs : PSet X t)
    (ha : ∀ v, assign (.Subscript o i pos) X.env v = (do
      let ov ← holding [v] (eval o X.env)
      let iv ← holding [v, ov] (eval i X.env)
      standAt pos
      holding [v, ov, iv] (setItem ov iv v)
      release [v, ov, iv] []) := by intro _; rfl) : PG X (.Subscript o i pos) (gSub to ti t) := by
  intro pins s σ H v u Q I r h
  rw [ha]
  refine wpAny_bind (wpAny_holding (thn (ho pins s σ H _ I h) fun ov s1 hh9 => ?_))
  obtain ⟨x, H1, I1, r1, q1⟩ := hh9
  refine wpAny_bind (wpAny_holding (thn (hi pins s1 σ H1 _ I1 q1) fun iv s2 hh9 => ?_))
  obtain ⟨y, H2, I2, r2, q2⟩ := hh9
  refine wpAny_bind (wpAny_standAt (wpAny_bind (wpAny_holding (thn (hs pins s2 σ H2 x y v ov iv u _ I2 r1 r2 r q2) fun _ s3 hh9 => ?_))))
  obtain ⟨H3, I3, q3⟩ := hh9
  exact wpAny_release ⟨σ, H3, I3, q3⟩
/-- target = value -/
noncomputable def tAsg (te : TE) (g : TG) : TS := fun D σ H => te σ H fun x H1 => g x σ H1 D.nx
theorem ps_asg {tg e : Expr} {te : TE} {g : TG} (he : PE X e te) (hg : PG X tg g) (hs : swapsWithSole [tg] e pos.line X.env = pure false := by rfl) (hw : swappedStores [tg] e X.env = pure none := by rfl)
    (h1 : (assignEach [tg] X.env).map (·.2) = [assign tg X.env] := by rfl) : PS X (.Assign [tg] e pos) (tAsg te g) := by
  intro pins s σ H D I h
  refine wpAny_Assign_stores (thn (he pins s σ H _ I h) fun v s1 hh9 => ?_) hs hw
  obtain ⟨x, H1, I1, r1, q1⟩ := hh9
  rw [h1]
  exact thn (hg pins s1 σ H1 x v _ I1 r1 q1) fun _ s2 q => q
/-- name = value -/
theorem ps_set {i : Nat} {x : Str} {e : Expr} {te : TE} {pos' : Pos} (hN : X.N.Nodup) (hi : X.N[i]? = some x) (hx : Loc X.env.scope x) (he : PE X e te) (hs : swapsWith e (some (.Name x pos')) pos.line X.env = pure false := by rfl) (hf : X.fn x = true ∨ X.env.scope.names.lookup x = some .local := by first | exact .inl rfl | exact .inr rfl | assumption) :
    PS X (.Assign [.Name x pos'] e pos) (tAsg te (gName i)) := by
  intro pins s σ H D I h
  refine wpAny_Assign_Name (thn (he pins s σ H _ I h) fun v s1 hh9 => ?_) hs
  obtain ⟨y, H1, I1, r1, q1⟩ := hh9
  exact store_ok I1 hN hi hx r1 (fun s2 I2 => ⟨_, H1, I2, q1⟩) hf
/-- name op= e -/
noncomputable def tAug (i : Nat) (te : TE) (ti : TIp) : TS := fun D σ H => ∃ x, σ[i]? = some (some x) ∧ te σ H fun y H1 => ti x y H1 fun z H2 => D.nx (σ.set i (some z)) H2
theorem ps_aug {i : Nat} {x : Str} {e : Expr} {te : TE} {op : Operator} {ti : TIp} {pos' : Pos} (hN : X.N.Nodup) (hi : X.N[i]? = some x) (hx : Loc X.env.scope x) (he : PE X e te) (ho : PIp X op ti) (hf : X.fn x = true ∨ X.env.scope.names.lookup x = some .local := by first | exact .inl rfl | exact .inr rfl | assumption) :
    PS X (.AugAssign (.Name x pos') op e pos) (tAug i te ti) := by
  intro pins s σ H D I h
  obtain ⟨v, e1, h⟩ := h
  obtain ⟨m, hn, hl⟩ := I.loc
  have vis : Vis X.env.scope x := by rcases hx with k | k; exact .inl k; exact .inr (.inl k)
  obtain ⟨u, r, l⟩ := hl i x v hi e1 vis
  refine wpAny_AugAssign_Name ?_
  have go : wpAny (model X.prog X.w) X.A (eval e X.env) (fun w s₂ => wpAny (model X.prog X.w) X.A (inplaceOp op u w) (fun r s₃ => wpAny (model X.prog X.w) X.A (storeName X.env x r) (fun _ => SP X pins D .next) X.xe s₃) X.xe s₂) X.xe s := by
    refine thn (he pins s σ H _ I h) fun w s1 hh9 => ?_
    obtain ⟨y, H1, I1, r1, q1⟩ := hh9
    refine thn (ho pins s1 σ H1 v y u w _ I1 r r1 q1) fun z s2 hh9 => ?_
    obtain ⟨zv, H2, I2, r2, q2⟩ := hh9
    exact store_ok I2 hN hi hx r2 (fun s3 I3 => ⟨_, H2, I3, q2⟩) hf
  rcases l with ⟨hk, hm⟩ | ⟨hk, c, hc, hcell⟩
  · exact wpAny_loadName_local I.ok.kind hk hn hm go
  · rcases hk with hk | hk
    · exact wpAny_loadName_cell I.ok.kind hk hc hcell go
    · rcases hx with k | k
      · have : X.env.scope.names.lookup x = some .free := hk
        rw [k] at this; cases this
      · have : X.env.scope.names.lookup x = some .free := hk
        rw [k] at this; cases this
/-- ints -/
noncomputable def ipI (f : Int → Int → Int) : TIp := fun x y H Q => ∃ i j, x = .int i ∧ y = .int j ∧ Q (.int (f i j)) H
theorem ip_add : PIp X .Add (ipI fun i j => i + j) := by
  intro pins s σ H x y v u Q I r1 r2 h
  obtain ⟨i, j, e1, e2, q⟩ := h
  subst e1; subst e2
  obtain ⟨t, rfl⟩ := r1
  obtain ⟨t', rfl⟩ := r2
  exact iadd_int ⟨.int _, H, I.tok _, ⟨_, rfl⟩, q⟩
end

/-! ### while -/
section
variable {X : Cx} {pos : Pos}
/-- the invariant W with its measure -/
noncomputable def tWhile (c : TT) (tb : TS) : TS := fun D σ H => ∃ W : Nat → St → Hp → Prop, (∃ m, W m σ H) ∧ ∀ m σ H, W m σ H →
  c σ H fun b H1 => if b = true then ∃ N : St → Hp → Prop, (∀ σ' H', N σ' H' → ∃ m', m' < m ∧ W m' σ' H') ∧ tb { D with nx := N, ct := N, bk := D.nx } σ H1 else D.nx σ H1
theorem ps_while {c : Expr} {body : List Stmt} {tc : TT} {tb : TS} (hp : PassesOwn (model X.prog X.w) X.A X.env X.xe) (hc : PT X c tc) (hb : PSs X body tb) : PS X (.While c body [] pos) (tWhile tc tb) := by
  intro pins s σ H D I h
  obtain ⟨W, ⟨m0, w0⟩, turn⟩ := h
  refine wpAny_While (codeAny_whileLoop (fun n s' => ∃ σ' H', Inv X pins σ' H' s' ∧ W n σ' H') ?_ m0 ⟨σ, H, I, w0⟩)
  rintro n s1 ⟨σ1, H1, I1, w1⟩
  refine wpAny_passesOwn hp (thn (hc pins s1 σ1 H1 _ I1 (turn n σ1 H1 w1)) fun b s2 hh9 => ?_)
  obtain ⟨H2, I2, q2⟩ := hh9
  cases b with
  | true =>
    obtain ⟨N, hN, q2⟩ := q2
    rw [if_pos rfl]
    refine wpAny_passesOwn hp (thn (hb pins s2 σ1 H2 _ I2 q2) fun f s3 q3 => ?_)
    cases f with
    | next =>
      obtain ⟨σ3, H3, I3, n3⟩ := q3
      obtain ⟨m', hm, w3⟩ := hN σ3 H3 n3
      exact ⟨m', hm, σ3, H3, I3, w3⟩
    | cont =>
      obtain ⟨σ3, H3, I3, n3⟩ := q3
      obtain ⟨m', hm, w3⟩ := hN σ3 H3 n3
      exact ⟨m', hm, σ3, H3, I3, w3⟩
    | brk => exact q3
    | ret v => exact q3
  | false =>
    rw [if_neg Bool.false_ne_true]
    exact wpAny_execs_nil ⟨σ1, H2, I2, q2⟩
end

/-! ### what a loop or a comprehension walks -/
/-- at turn i: it yields x (the heap may grow), or it stops -/
structure It where
  go : Nat → Hp → Prop
  yld : Nat → Hp → V → Hp → Prop
  stop : Nat → Hp → Prop
/-- the iterator's own objects may turn: they are not the frame's, not pinned, younger than the entry (or a comprehension's own) -/
noncomputable def FpOk (X : Cx) (pins : List (Addr × Obj)) (H : Hp) (b : Addr) : Prop :=
  H b = none ∧ b ≠ X.env.locals ∧ b ∉ X.fs ∧ (b ∈ X.ex ∨ X.s₀.heap.objs.size ≤ b) ∧ (∀ x c, X.env.cells.lookup x = some c → c ≠ b) ∧ ∀ p ∈ X.pn ++ pins, p.1 ≠ b
theorem Inv.fpOk {X : Cx} {pins : List (Addr × Obj)} {σ : St} {H H' : Hp} {s : Shared} {b : Addr} (I : Inv X pins σ H s) (hb : s.heap.objs.size ≤ b) (hn : H' b = none) : FpOk X pins H' b := by
  refine ⟨hn, Nat.ne_of_gt (Nat.lt_of_lt_of_le I.lt hb), I.nofs hb, .inr (Nat.le_trans I.sz hb), fun x c e z => ?_, fun p hp z => ?_⟩
  · obtain ⟨v, q⟩ := I.cell x c e
    exact absurd (Nat.lt_of_lt_of_le q.lt (by rw [z]; exact hb)) (Nat.lt_irrefl _)
  · exact absurd (Nat.lt_of_lt_of_le (Heap.lt_size (I.pin p hp).1) (by rw [z]; exact hb)) (Nat.lt_irrefl _)
structure Turn (P : Program) (w : World) (K : PySem.W.Frag) (tg : Expr) (J : It) (fp : List Addr) (it : Addr) (tn : Nat → Heap → Prop) : Prop where
  mem : it ∈ fp
  obj : ∀ i h, tn i h → ∀ b ∈ fp, ∃ o, h.get? b = some o ∧ ∀ v, o.data ≠ .cell v
  keep : ∀ i h h', tn i h → (∀ b ∈ fp, ∀ o, h.get? b = some o → h'.get? b = some o) → tn i h'
  item : ∀ (X : Cx), X.prog = P → X.w = w → X.K = K → X.calm = true → ∀ (i : Nat) (pins : List (Addr × Obj)) (s : Shared) (σ : St) (H : Hp) (E : Value → Shared → Prop), Inv X pins σ H s → (∀ b ∈ fp, FpOk X pins H b) → tn i s.heap → J.go i H →
    wpAny (model P w) X.A (pyNext (.ref it)) (fun r s1 => ∃ u, r = some u ∧
      wpAny (model P w) X.A (letOwnedTupleGo tg (.ref it) u) (fun _ s2 => ∃ x H', Inv X pins σ H' s2 ∧ RelV x u ∧ J.yld i H x H' ∧ tn (i + 1) s2.heap ∧ ∀ b ∈ fp, H' b = none) E s1) E s
  done : ∀ (X : Cx), X.prog = P → X.w = w → X.K = K → X.calm = true → ∀ (i : Nat) (pins : List (Addr × Obj)) (s : Shared) (σ : St) (H : Hp) (E : Value → Shared → Prop), Inv X pins σ H s → (∀ b ∈ fp, FpOk X pins H b) → tn i s.heap → J.stop i H →
    wpAny (model P w) X.A (pyNext (.ref it)) (fun r s1 => r = none ∧ Inv X pins σ H s1) E s
  self : ∀ (A : Around) (i : Nat) (s : Shared) (Q : Value → Shared → Prop) (E : Value → Shared → Prop), tn i s.heap → Q (.ref it) s → wpAny (model P w) A (pyIter (.ref it)) Q E s
noncomputable abbrev TI := St → Hp → (It → Hp → Prop) → Prop
/-- an iterator has come -/
noncomputable def PIE (X : Cx) (pins : List (Addr × Obj)) (σ : St) (tg : Expr) (R : It → Hp → Prop) (itv : Value) (s2 : Shared) : Prop :=
  ∃ (it : Addr) (fp : List Addr) (tn : Nat → Heap → Prop) (J : It) (H' : Hp), itv = .ref it ∧ Inv X pins σ H' s2 ∧ Turn X.prog X.w X.K tg J fp it tn ∧ tn 0 s2.heap ∧ (∀ b ∈ fp, FpOk X pins H' b) ∧ R J H'
noncomputable def PI (X : Cx) (tg iter : Expr) (wi : TI) : Prop :=
  ∀ (pins : List (Addr × Obj)) (s : Shared) (σ : St) (H : Hp) (R : It → Hp → Prop), Inv X pins σ H s → wi σ H R →
    wpAny (model X.prog X.w) X.A (eval iter X.env) (fun v s1 => wpAny (model X.prog X.w) X.A (pyIter v) (PIE X pins σ tg R) X.xe s1) X.xe s

/-- the step ahead of the store is nothing for an iterator that keeps no tuple -/
theorem go_of {M : Model} {A : Around} {E : Value → Shared → Prop} {s : Shared} {tg : Expr} {it : Addr} {u : Value} {o : Obj} {n : String} {vs : Array Value} {Q : Unit → Shared → Prop} (ho : s.heap.get? it = some o) (hc : o.cls = .type n) (hd : o.data = .fields vs)
    (hn : ["enumerate", "zip", "dict_itemiterator", "dict_reverseitemiterator", "odict_iterator", "itertools.zip_longest", "itertools.pairwise"].contains n = false) (hQ : Q () s) : wpAny M A (letOwnedTupleGo tg (.ref it) u) Q E s := by
  unfold letOwnedTupleGo
  cases tg <;> first
    | exact wpAny_pure hQ
    | (cases u <;> first
        | exact wpAny_pure hQ
        | (refine wpAny_bind (wpAny_load ho ?_)
           rw [hc, hd]
           show wpAny M A (if (["enumerate", "zip", "dict_itemiterator", "dict_reverseitemiterator", "odict_iterator", "itertools.zip_longest", "itertools.pairwise"].contains n && vs[0]? == some (rawInt _)) = true then _ else _) Q E s
           rw [if_neg (by intro h; rw [hn, Bool.false_and] at h; cases h)]
           exact wpAny_pure hQ))

/-- the list at a, as it stands at each turn (a loop may append to it) -/
noncomputable def Itl (K : PySem.W.Frag) (a : Addr) : It :=
  ⟨fun i H => ∃ xs x, SqL K H a xs ∧ xs[i]? = some x, fun i H x H' => H' = H ∧ ∀ xs, SqL K H a xs → xs[i]? = some x, fun i H => ∃ xs, SqL K H a xs ∧ xs.length ≤ i⟩
/-- lo, lo + 1, .. (n of them) -/
noncomputable def Itr (lo : Int) (n : Nat) : It := ⟨fun i _ => i < n, fun i H x H' => H' = H ∧ x = .int (lo + i), fun i _ => n ≤ i⟩
theorem turn_list {P : Program} {w : World} {K : PySem.W.Frag} {tg : Expr} (a it : Addr) : Turn P w K tg (Itl K a) [it] it (fun i h => h.IsListIter it a i) where
  mem := by simp
  obj := fun i h st b hb => by
    have e : b = it := by simpa using hb
    subst e
    obtain ⟨o, e, c, d⟩ := st
    exact ⟨o, e, fun v z => by rw [d] at z; cases z⟩
  keep := fun i h h' st k => st.at fun o e => k it (by simp) o e
  item := by
    intro X hP hw hK hc i pins s σ H E I hf st hg
    subst hP hw hK
    obtain ⟨xs, x, hq, hx⟩ := hg
    obtain ⟨its, rv, p, hz⟩ := I.list hq
    obtain ⟨u, hu, ru⟩ := rv.get hx
    obtain ⟨f0, f1, f2, f3, f4, f5⟩ := hf it (by simp)
    refine wpAny_pyNext_list_item st p.isList (x := u) (by simpa using hu) fun h' st' sb => ?_
    have I1 : Inv X pins σ H { s with heap := h' } := I.turned (t' := s.toks) (fun b o hb e => (sb.2 b hb).trans e) f0 f1 f3 f4 f5
    obtain ⟨o, e, c, d⟩ := id st'
    exact ⟨u, rfl, go_of (s := { s with heap := h' }) e c d (by decide) ⟨x, H, I1, ru, ⟨rfl, fun ys hy => by rw [I.list_inj hy hq]; exact hx⟩, st', fun b hb => (hf b hb).1⟩⟩
  done := by
    intro X hP hw hK hc i pins s σ H E I hf st hg
    subst hP hw hK
    obtain ⟨xs, hq, hx⟩ := hg
    obtain ⟨its, rv, p, hz⟩ := I.list hq
    obtain ⟨f0, f1, f2, f3, f4, f5⟩ := hf it (by simp)
    have hl := rv.length
    exact wpAny_pyNext_list_end (I.ok.hd hc) st p.isList (by simp; omega) fun h' eb => ⟨rfl, I.turned (t' := s.toks) (fun b o hb e => eb b o hb e) f0 f1 f3 f4 f5⟩
  self := fun _ _ _ _ _ st h => wpAny_pyIter_listiter st h
theorem turn_range {P : Program} {w : World} {K : PySem.W.Frag} {tg : Expr} (it : Addr) (lo : Int) (n : Nat) : Turn P w K tg (Itr lo n) [it] it (fun i h => IsRangeIter h it (lo + (i : Nat) * 1) ((n : Int) - (i : Nat)) 1) where
  mem := by simp
  obj := fun i h st b hb => by
    have e : b = it := by simpa using hb
    subst e
    exact ⟨_, st, fun v z => by
      have z' : Data.fields _ = Data.cell v := z
      cases z'⟩
  keep := fun i h h' st k => k it (by simp) _ st
  item := by
    intro X hP hw hK hc i pins s σ H E I hf st hg
    subst hP hw hK
    obtain ⟨f0, f1, f2, f3, f4, f5⟩ := hf it (by simp)
    have W := Walks.range (prog := X.prog) (w := X.w) (I.ok.hd hc) it lo 1 n
    refine W.item i s _ _ hg st fun v h' tk hv st' kk => ?_
    obtain ⟨t, rfl⟩ := hv
    have I1 : Inv X pins σ H { s with heap := h', toks := tk } := I.turned (fun b o hb e => kk b o (by simpa using hb) e) f0 f1 f3 f4 f5
    refine ⟨_, rfl, go_of (s := { s with heap := h', toks := tk }) (n := "range_iterator") st' rfl rfl (by decide) ⟨.int (lo + i), H, I1, ⟨t, ?_⟩, ⟨rfl, rfl⟩, st', fun b hb => (hf b hb).1⟩⟩
    rw [Int.mul_one]
  done := by
    intro X hP hw hK hc i pins s σ H E I hf st hg
    subst hP hw hK
    obtain ⟨f0, f1, f2, f3, f4, f5⟩ := hf it (by simp)
    exact wpAny_pyNext_range_end (I.ok.hd hc) st (by have : n ≤ i := hg; omega) fun h' eb => ⟨rfl, I.turned (t' := s.toks) (fun b o hb e => eb b o hb e) f0 f1 f3 f4 f5⟩
  self := fun _ _ _ _ _ st h => wpAny_pyIter_rangeiter st h
end L2

namespace L2
open PySem PySem.Spec PyProof.Rows
section
variable {X : Cx} {tg : Expr}
noncomputable def iList (K : PySem.W.Frag) (tl : TE) : TI := fun σ H R => tl σ H fun x H1 => ∃ a, x = .ref a ∧ (∃ xs, SqL K H1 a xs) ∧ R (Itl K a) H1
theorem pi_list {l : Expr} {tl : TE} (hl : PE X l tl) : PI X tg l (iList X.K tl) := by
  intro pins s σ H R I h
  refine thn (hl pins s σ H _ I h) fun v s1 hh9 => ?_
  obtain ⟨x, H1, I1, r1, q1⟩ := hh9
  obtain ⟨a, e, ⟨xs, hq⟩, q⟩ := q1
  subst e
  cases r1
  obtain ⟨its, rv, p, hz⟩ := I1.list hq
  refine wpAny_pyIter_list p.isList ?_
  refine ⟨s1.heap.objs.size, [s1.heap.objs.size], _, _, H1, rfl, I1.kept (t' := s1.toks) fun b o e => Heap.get?_push_of_some _ e, turn_list a _, ⟨_, Heap.get?_push_size _ rfl, rfl, rfl⟩, fun b hb => ?_, q⟩
  have e : b = s1.heap.objs.size := by simpa using hb
  subst e
  exact I1.fpOk (Nat.le_refl _) (I1.hok.fresh (Nat.le_refl _))
/-- a range object just made, walked -/
theorem range_it {pins : List (Addr × Obj)} {σ : St} {H : Hp} {s : Shared} {R : It → Hp → Prop} {E : Value → Shared → Prop} {lo hi : Int} {t u v : Tok} {tk : Nat} (I : Inv X pins σ H s) (h1 : -(2 ^ 62) ≤ lo) (h2 : lo < 2 ^ 62) (h3 : -(2 ^ 62) ≤ hi) (h4 : hi < 2 ^ 62)
    (q : R (Itr lo (hi - lo).toNat) H) : wpAny (model X.prog X.w) X.A (pyIter (.ref s.heap.objs.size)) (PIE X pins σ tg R) E { s with heap := s.heap.push { cls := .type "range", data := .fields #[.int lo t, .int hi u, .int 1 v] }, toks := tk } := by
  refine wpAny_pyIter_range (IsRange.new ..) (small_one h1 h2 h3 h4) ?_
  have I1 : Inv X pins σ H { s with heap := s.heap.push { cls := .type "range", data := .fields #[.int lo t, .int hi u, .int 1 v] }, toks := tk } := I.kept fun b o e => Heap.get?_push_of_some _ e
  refine ⟨(s.heap.push { cls := .type "range", data := .fields #[.int lo t, .int hi u, .int 1 v] }).objs.size, [(s.heap.push { cls := .type "range", data := .fields #[.int lo t, .int hi u, .int 1 v] }).objs.size], _, _, H, rfl,
    I1.kept (t' := tk) fun b o e => Heap.get?_push_of_some _ e, turn_range _ lo (hi - lo).toNat, ?_, fun b hb => ?_, q⟩
  · have e1 : lo + ((0 : Nat) : Int) * 1 = lo := by simp
    have e2 : (((hi - lo).toNat : Nat) : Int) - ((0 : Nat) : Int) = Builtin.Range.rangeSize lo hi 1 := by rw [rangeSize_one]; split <;> omega
    show IsRangeIter _ _ (lo + ((0 : Nat) : Int) * 1) ((((hi - lo).toNat : Nat) : Int) - ((0 : Nat) : Int)) 1
    rw [e1, e2]
    exact Heap.get?_push_size _ rfl
  · have e : b = (s.heap.push { cls := .type "range", data := .fields #[.int lo t, .int hi u, .int 1 v] }).objs.size := by simpa using hb
    subst e
    exact I1.fpOk (Nat.le_refl _) (I1.hok.fresh (Nat.le_refl _))
noncomputable def iRng1 (ta : TA) : TI := fun σ H R => ta σ H fun vs H1 => ∃ j : Int, vs = [.int j] ∧ -(2 ^ 62) ≤ j ∧ j < 2 ^ 62 ∧ R (Itr 0 j.toNat) H1
theorem pi_range1 {a : Expr} {ta : TA} {p pos : Pos} (hg : Gl X "range") (hm : X.mg "range" = none) (ha : PA X [a] ta) (hs : starEach [a] X.env = [(false, eval a X.env)] := by rfl) : PI X tg (.Call (.Name "range" p) [a] [] pos) (iRng1 ta) := by
  intro pins s σ H R I h
  refine Call_ (ld_blt I hg hm boot_range (PyProof.Rows.callWith_type1 (thn (ha pos pins s σ H _ I h) fun us s1 hh9 => ?_) hs rfl))
  obtain ⟨vs, H1, I1, r1, q1⟩ := hh9
  obtain ⟨j, e, q1, q2, q⟩ := q1
  subst e
  cases r1 with
  | cons r rr =>
    cases rr
    obtain ⟨t, rfl⟩ := r
    exact call_range_1 (range_it I1 (by omega) (by omega) q1 q2 (by simpa using q))
/-! ### for -/
/-- W: the invariant by the turn and a measure; N: what the body is to reach -/
noncomputable def tFor (wi : TI) (g : TG) (tb : TS) : TS := fun D σ H => wi σ H fun J H1 => ∃ W : Nat → Nat → St → Hp → Prop, (∃ m, W 0 m σ H1) ∧ ∀ i m σ H, W i m σ H →
  (J.stop i H ∧ D.nx σ H) ∨ (J.go i H ∧ ∃ N : St → Hp → Prop, (∀ σ' H', N σ' H' → ∃ m', m' < m ∧ W (i + 1) m' σ' H') ∧ ∀ x H', J.yld i H x H' → g x σ H' fun σ2 H2 => tb { D with nx := N, ct := N, bk := D.nx } σ2 H2)
/-- the records at fp as they stand -/
noncomputable def pinsAt (fp : List Addr) (h : Heap) : List (Addr × Obj) := fp.filterMap fun b => (h.get? b).map fun o => (b, o)
theorem mem_pinsAt {fp : List Addr} {h : Heap} {b : Addr} {o : Obj} (hb : b ∈ fp) (e : h.get? b = some o) : (b, o) ∈ pinsAt fp h := List.mem_filterMap.mpr ⟨b, hb, by rw [e]; rfl⟩
theorem of_pinsAt {fp : List Addr} {h : Heap} {p : Addr × Obj} (hp : p ∈ pinsAt fp h) : p.1 ∈ fp ∧ h.get? p.1 = some p.2 := by
  obtain ⟨b, hb, e⟩ := List.mem_filterMap.mp hp
  cases q : h.get? b with
  | none => rw [q] at e; cases e
  | some o =>
    rw [q] at e
    have e' : (b, o) = p := Option.some.inj e
    subst e'
    exact ⟨hb, q⟩
theorem Inv.pinned {pins : List (Addr × Obj)} {σ : St} {H : Hp} {s : Shared} {fp : List Addr} (I : Inv X pins σ H s) (hf : ∀ b ∈ fp, FpOk X pins H b) (ho : ∀ b ∈ fp, ∃ o, s.heap.get? b = some o ∧ ∀ v, o.data ≠ .cell v) : Inv X (pins ++ pinsAt fp s.heap) σ H s :=
  I.pins_of fun p hp => (List.mem_append.mp hp).elim (fun z => I.pin p (List.mem_append_right _ z)) fun z => by
    obtain ⟨hb, e⟩ := of_pinsAt z
    obtain ⟨f0, f1, f2, _⟩ := hf p.1 hb
    obtain ⟨o, e', d⟩ := ho p.1 hb
    rw [e] at e'; cases e'
    exact ⟨e, f0, f1, f2, d⟩
theorem Inv.unpinned {pins pl : List (Addr × Obj)} {σ : St} {H : Hp} {s : Shared} (I : Inv X (pins ++ pl) σ H s) : Inv X pins σ H s := I.pins_of fun p hp => I.pin p (List.mem_append_right _ (List.mem_append_left _ hp))
theorem ps_for {iter : Expr} {body : List Stmt} {wi : TI} {g : TG} {tb : TS} {pos : Pos} (hp : PassesOwn (model X.prog X.w) X.A X.env X.xe) (hc : X.calm = true) (hi : PI X tg iter wi) (hg : PG X tg g) (hb : PSs X body tb)
    (hs : ∀ x, foldedSetIterable iter X.env x = pure x := by intro _; rfl) : PS X (.For tg iter body [] pos) (tFor wi g tb) := by
  intro pins s σ H D I h
  refine wpAny_For (thn (hi pins s σ H _ I h) fun v s1 h1 => thn h1 fun itv s2 h2 => ?_) hs
  obtain ⟨it, fp, tn, J, H2, e, I2, T, st2, f2, W, ⟨m0, w0⟩, turn⟩ := h2
  subst e
  -- what stays true of the iterator's objects through the loop
  have stat : ∀ {H' : Hp}, (∀ b ∈ fp, H' b = none) → ∀ b ∈ fp, FpOk X pins H' b := fun hn b hb => ⟨hn b hb, (f2 b hb).2⟩
  refine codeAny_forLoop_any (fun n s' => ∃ i σ' H', Inv X pins σ' H' s' ∧ tn i s'.heap ∧ (∀ b ∈ fp, H' b = none) ∧ W i n σ' H') ?_ m0 ⟨0, σ, H2, I2, st2, fun b hb => (f2 b hb).1, w0⟩
  rintro n s3 ⟨i, σ3, H3, I3, st3, fr3, w3⟩
  rcases turn i n σ3 H3 w3 with ⟨stop, qn⟩ | ⟨go, N, hN, step⟩
  · refine wpAny_passesOwn hp (thn (T.done X rfl rfl rfl hc i pins s3 σ3 H3 X.xe I3 (stat fr3) st3 stop) fun r s4 hh9 => ?_)
    obtain ⟨hr, I4⟩ := hh9
    subst hr
    exact wpAny_execs_nil ⟨σ3, H3, I4, qn⟩
  · refine wpAny_passesOwn hp (thn (T.item X rfl rfl rfl hc i pins s3 σ3 H3 X.xe I3 (stat fr3) st3 go) fun r s4 hh9 => ?_)
    obtain ⟨u, hr, h4⟩ := hh9
    subst hr
    refine wpAny_passesOwn hp (thn h4 fun _ s5 hh9 => ?_)
    obtain ⟨x, H5, I5, r5, y5, st5, fr5⟩ := hh9
    have I5' := I5.pinned (stat fr5) (T.obj _ _ st5)
    refine wpAny_passesOwn hp (thn (hg _ s5 σ3 H5 x u _ I5' r5 (step x H5 y5)) fun _ s6 hh9 => ?_)
    obtain ⟨σ6, H6, I6, q6⟩ := hh9
    refine wpAny_passesOwn hp (thn (hb _ s6 σ6 H6 _ I6 q6) fun f s7 q7 => ?_)
    have again : ∀ {σ7 : St} {H7 : Hp}, Inv X (pins ++ pinsAt fp s5.heap) σ7 H7 s7 → N σ7 H7 → ∃ m, m < n ∧ ∃ i σ' H', Inv X pins σ' H' s7 ∧ tn i s7.heap ∧ (∀ b ∈ fp, H' b = none) ∧ W i m σ' H' := fun {σ7 H7} I7 n7 => by
      obtain ⟨m', hm, w7⟩ := hN σ7 H7 n7
      refine ⟨m', hm, i + 1, σ7, H7, I7.unpinned, T.keep _ _ _ st5 fun b hb o e => (I7.pin (b, o) (List.mem_append_right _ (List.mem_append_right _ (mem_pinsAt hb e)))).1, fun b hb => ?_, w7⟩
      obtain ⟨o, e, d⟩ := T.obj _ _ st5 b hb
      exact (I7.pin (b, o) (List.mem_append_right _ (List.mem_append_right _ (mem_pinsAt hb e)))).2.1
    cases f with
    | next => obtain ⟨σ7, H7, I7, n7⟩ := q7; exact again I7 n7
    | cont => obtain ⟨σ7, H7, I7, n7⟩ := q7; exact again I7 n7
    | brk => obtain ⟨σ7, H7, I7, q7⟩ := q7; exact ⟨σ7, H7, I7.unpinned, q7⟩
    | ret v => obtain ⟨x7, σ7, H7, I7, r7, q7⟩ := q7; exact ⟨x7, σ7, H7, I7.unpinned, r7, q7⟩
end

/-! ### the forms one uses -/
/-- over a list that the body leaves as it is -/
theorem for_list {K : PySem.W.Frag} {a : Addr} {xs : List V} {g : TG} {tb : TS} {D : Ends} {σ : St} {H : Hp} (Pv : Nat → St → Hp → Prop) (h0 : Pv 0 σ H) (hl : ∀ i σ H, i ≤ xs.length → Pv i σ H → SqL K H a xs)
    (hs : ∀ i x σ H, xs[i]? = some x → Pv i σ H → g x σ H fun σ2 H2 => tb { D with nx := Pv (i + 1), ct := Pv (i + 1), bk := D.nx } σ2 H2) (hd : ∀ σ H, Pv xs.length σ H → D.nx σ H) :
    ∃ W : Nat → Nat → St → Hp → Prop, (∃ m, W 0 m σ H) ∧ ∀ i m σ H, W i m σ H →
      ((Itl K a).stop i H ∧ D.nx σ H) ∨ ((Itl K a).go i H ∧ ∃ N : St → Hp → Prop, (∀ σ' H', N σ' H' → ∃ m', m' < m ∧ W (i + 1) m' σ' H') ∧ ∀ x H', (Itl K a).yld i H x H' → g x σ H' fun σ2 H2 => tb { D with nx := N, ct := N, bk := D.nx } σ2 H2) := by
  refine ⟨fun i m σ H => m = xs.length - i ∧ i ≤ xs.length ∧ Pv i σ H, ⟨xs.length, by simp, Nat.zero_le _, h0⟩, ?_⟩
  rintro i m σ H ⟨rfl, hi, p⟩
  have q := hl i σ H hi p
  by_cases hlt : i < xs.length
  · refine .inr ⟨⟨xs, xs[i], q, by simp [hlt]⟩, Pv (i + 1), fun σ' H' p' => ⟨xs.length - (i + 1), by omega, rfl, hlt, p'⟩, fun x H' y => ?_⟩
    obtain ⟨e, y⟩ := y
    subst e
    exact hs i x σ _ (y xs q) p
  · have e : i = xs.length := by omega
    subst e
    exact .inl ⟨⟨xs, q, Nat.le_refl _⟩, hd σ H p⟩
theorem for_range {lo : Int} {n : Nat} {g : TG} {tb : TS} {D : Ends} {σ : St} {H : Hp} (Pv : Nat → St → Hp → Prop) (h0 : Pv 0 σ H)
    (hs : ∀ i σ H, i < n → Pv i σ H → g (.int (lo + i)) σ H fun σ2 H2 => tb { D with nx := Pv (i + 1), ct := Pv (i + 1), bk := D.nx } σ2 H2) (hd : ∀ σ H, Pv n σ H → D.nx σ H) :
    ∃ W : Nat → Nat → St → Hp → Prop, (∃ m, W 0 m σ H) ∧ ∀ i m σ H, W i m σ H →
      ((Itr lo n).stop i H ∧ D.nx σ H) ∨ ((Itr lo n).go i H ∧ ∃ N : St → Hp → Prop, (∀ σ' H', N σ' H' → ∃ m', m' < m ∧ W (i + 1) m' σ' H') ∧ ∀ x H', (Itr lo n).yld i H x H' → g x σ H' fun σ2 H2 => tb { D with nx := N, ct := N, bk := D.nx } σ2 H2) := by
  refine ⟨fun i m σ H => m = n - i ∧ i ≤ n ∧ Pv i σ H, ⟨n, by simp, Nat.zero_le _, h0⟩, ?_⟩
  rintro i m σ H ⟨rfl, hi, p⟩
  by_cases hlt : i < n
  · refine .inr ⟨hlt, Pv (i + 1), fun σ' H' p' => ⟨n - (i + 1), by omega, rfl, hlt, p'⟩, fun x H' y => ?_⟩
    obtain ⟨e, y⟩ := y
    subst e y
    exact hs i σ _ hlt p
  · have e : i = n := by omega
    subst e
    exact .inl ⟨Nat.le_refl _, hd σ H p⟩
end L2

namespace L2
open PySem PySem.Spec PyProof.Rows

noncomputable abbrev R2 := V → V → Hp → VK → Prop
/-- a two-place operation on values: f is binaryOp op, inplaceOp op or compareOp op -/
noncomputable def OpR (X : Cx) (f : Value → Value → Sem Value) (r : R2) : Prop :=
  ∀ (pins : List (Addr × Obj)) (s : Shared) (σ : St) (H : Hp) (x y : V) (v u : Value) (Q : VK), Inv X pins σ H s → RelV x v → RelV y u → r x y H Q →
    wpAny (model X.prog X.w) X.A (f v u) (EP X pins σ Q) X.xe s
/-- a one-place operation -/
noncomputable def UnR (X : Cx) (f : Value → Sem Value) (r : V → Hp → VK → Prop) : Prop :=
  ∀ (pins : List (Addr × Obj)) (s : Shared) (σ : St) (H : Hp) (x : V) (v : Value) (Q : VK), Inv X pins σ H s → RelV x v → r x H Q →
    wpAny (model X.prog X.w) X.A (f v) (EP X pins σ Q) X.xe s
/-- a call of a value that is known (a builtin, a type) with values -/
noncomputable def CallR (X : Cx) (f : Value) (r : List V → Hp → VK → Prop) : Prop :=
  ∀ (pins : List (Addr × Obj)) (s : Shared) (σ : St) (H : Hp) (xs : List V) (us : List Value) (Q : VK), Inv X pins σ H s → Vals xs us → r xs H Q →
    wpAny (model X.prog X.w) X.A (call f us) (EP X pins σ Q) X.xe s
/-- a value's truth -/
noncomputable def TruR (X : Cx) (r : V → Hp → (Bool → Hp → Prop) → Prop) : Prop :=
  ∀ (pins : List (Addr × Obj)) (s : Shared) (σ : St) (H : Hp) (x : V) (v : Value) (Q : Bool → Hp → Prop), Inv X pins σ H s → RelV x v → r x H Q →
    wpAny (model X.prog X.w) X.A (truthy v) (TP X pins σ Q) X.xe s

noncomputable def tOp (r : R2) (ta tb : TE) : TE := fun σ H Q => ta σ H fun x H1 => tb σ H1 fun y H2 => r x y H2 Q
noncomputable def tUn (r : V → Hp → VK → Prop) (ta : TE) : TE := fun σ H Q => ta σ H fun x H1 => r x H1 Q
/-- ints in, under C, and a value out -/
noncomputable def rI (C : Int → Int → Prop) (g : Int → Int → V) : R2 := fun x y H Q => ∃ i j, x = .int i ∧ y = .int j ∧ C i j ∧ Q (g i j) H
noncomputable def rI0 (g : Int → Int → V) : R2 := fun x y H Q => ∃ i j, x = .int i ∧ y = .int j ∧ Q (g i j) H
noncomputable def rU (g : Int → V) : V → Hp → VK → Prop := fun x H Q => ∃ i, x = .int i ∧ Q (g i) H

section
variable {X : Cx} {a b c : Expr} {ta tb tc : TE} {pos : Pos}

theorem binT (ha : PE X a ta) (hb : PE X b tb) {pins : List (Addr × Obj)} {s : Shared} {σ : St} {H : Hp} {R : V → V → Hp → Prop} (I : Inv X pins σ H s)
    (h : ta σ H fun x H1 => tb σ H1 fun y H2 => R x y H2) {Q : Value → Shared → Prop} {f : Value → Value → Sem Value}
    (hf : ∀ v u s2 x y H2, Inv X pins σ H2 s2 → RelV x v → RelV y u → R x y H2 → wpAny (model X.prog X.w) X.A (f v u) Q X.xe s2) :
    wpAny (model X.prog X.w) X.A (eval a X.env) (fun v s₁ => wpAny (model X.prog X.w) X.A (eval b X.env) (fun u s₂ => wpAny (model X.prog X.w) X.A (f v u) Q X.xe s₂) X.xe s₁) X.xe s := by
  refine thn (ha pins s σ H _ I h) fun v s1 hh9 => ?_
  obtain ⟨x, H1, I1, r1, q1⟩ := hh9
  refine thn (hb pins s1 σ H1 _ I1 q1) fun u s2 hh9 => ?_
  obtain ⟨y, H2, I2, r2, q2⟩ := hh9
  exact hf v u s2 x y H2 I2 r1 r2 q2

theorem pe_op {op : Operator} {r : R2} (ho : OpR X (binaryOp op) r) (ha : PE X a ta) (hb : PE X b tb) : PE X (.BinOp a op b pos) (tOp r ta tb) := by
  intro pins s σ H Q I h
  exact wpAny_BinOp (binT ha hb I h fun v u s2 x y H2 I2 rx ry q => ho pins s2 σ H2 x y v u Q I2 rx ry q)
theorem pe_un {op : UnaryOp} {r : V → Hp → VK → Prop} (ho : UnR X (unaryOp op) r) (ha : PE X a ta) : PE X (.UnaryOp op a pos) (tUn r ta) := by
  intro pins s σ H Q I h
  exact UnaryOp_ (thn (ha pins s σ H _ I h) fun v s1 ⟨x, H1, I1, r1, q1⟩ => ho pins s1 σ H1 x v Q I1 r1 q1)
/-! ### ints -/
theorem opI {f : Value → Value → Sem Value} {C : Int → Int → Prop} {g : Int → Int → Int}
    (rule : ∀ (i j : Int) (t u : Tok) (s : Shared) (Q : Value → Shared → Prop) (E : Value → Shared → Prop), C i j → Q (.int (g i j) s.toks) { s with toks := s.toks + 1 } → wpAny (model X.prog X.w) X.A (f (.int i t) (.int j u)) Q E s) :
    OpR X f (rI C fun i j => .int (g i j)) := by
  intro pins s σ H x y v u Q I rx ry h
  obtain ⟨i, j, rfl, rfl, hc, q⟩ := h
  obtain ⟨t, rfl⟩ := rx
  obtain ⟨t', rfl⟩ := ry
  exact rule i j t t' s _ _ hc ⟨.int (g i j), H, I.tok _, ⟨_, rfl⟩, q⟩
theorem opI0 {f : Value → Value → Sem Value} {g : Int → Int → Int}
    (rule : ∀ (i j : Int) (t u : Tok) (s : Shared) (Q : Value → Shared → Prop) (E : Value → Shared → Prop), Q (.int (g i j) s.toks) { s with toks := s.toks + 1 } → wpAny (model X.prog X.w) X.A (f (.int i t) (.int j u)) Q E s) :
    OpR X f (rI0 fun i j => .int (g i j)) := by
  intro pins s σ H x y v u Q I rx ry h
  obtain ⟨i, j, rfl, rfl, q⟩ := h
  obtain ⟨t, rfl⟩ := rx
  obtain ⟨t', rfl⟩ := ry
  exact rule i j t t' s _ _ ⟨.int (g i j), H, I.tok _, ⟨_, rfl⟩, q⟩
theorem opB0 {f : Value → Value → Sem Value} {g : Int → Int → Bool}
    (rule : ∀ (i j : Int) (t u : Tok) (s : Shared) (Q : Value → Shared → Prop) (E : Value → Shared → Prop), Q (.bool (g i j)) s → wpAny (model X.prog X.w) X.A (f (.int i t) (.int j u)) Q E s) :
    OpR X f (rI0 fun i j => .bl (g i j)) := by
  intro pins s σ H x y v u Q I rx ry h
  obtain ⟨i, j, rfl, rfl, q⟩ := h
  obtain ⟨t, rfl⟩ := rx
  obtain ⟨t', rfl⟩ := ry
  exact rule i j t t' s _ _ ⟨.bl (g i j), H, I, rfl, q⟩

noncomputable def CDiv (i j : Int) : Prop := 0 < j ∧ j < 1073741824
noncomputable def CPow (i j : Int) : Prop := 0 ≤ j ∧ j ≤ 1000000 ∧ i.natAbs < 2 ^ 64
noncomputable def CMul (i j : Int) : Prop := (-(2 ^ 64) < i ∧ i < 2 ^ 64) ∨ (-(2 ^ 64) < j ∧ j < 2 ^ 64)
theorem CMul.ok {i j : Int} (h : CMul i j) : IntMulOk i j := by
  rcases h with ⟨h1, h2⟩ | ⟨h1, h2⟩
  · exact .of_left (intBits_le_64 h1 h2)
  · exact .of_right (intBits_le_64 h1 h2)
theorem op_add : OpR X (binaryOp .Add) (rI0 fun i j => .int (i + j)) := opI0 fun _ _ _ _ _ _ _ q => add_int q
theorem op_sub : OpR X (binaryOp .Sub) (rI0 fun i j => .int (i - j)) := opI0 fun _ _ _ _ _ _ _ q => sub_int q
theorem op_mul : OpR X (binaryOp .Mult) (rI CMul fun i j => .int (i * j)) := opI fun _ _ _ _ _ _ _ hc q => mul_int q hc.ok
/-- // by a positive divisor -/
theorem op_fdiv : OpR X (binaryOp .FloorDiv) (rI CDiv fun i j => .int (i / j)) := opI fun i j _ _ _ _ _ hc q => by
  have h1 : (0 : Int) < j := hc.1
  have h2 : j < 1073741824 := hc.2
  exact floordiv_int (by omega) (by rw [Int.fdiv_eq_ediv_of_nonneg i (by omega)]; exact q) (.inl (PyProof.noPylong_small (by omega)))
/-- % by a positive divisor of any size -/
theorem op_mod : OpR X (binaryOp .Mod) (rI (fun _ j => 0 < j) fun i j => .int (i % j)) := opI fun i j _ _ _ _ _ hc q => by
  have h1 : (0 : Int) < j := hc
  exact mod_int' (by omega) (by rw [Int.fmod_eq_emod_of_nonneg i (by omega)]; exact q)
theorem op_pow : OpR X (binaryOp .Pow) (rI CPow fun i j => .int (i ^ j.toNat)) := opI fun _ _ _ _ _ _ _ hc q => pow_int_small hc.1 hc.2.1 hc.2.2 q
theorem unI {f : Value → Sem Value} {g : Int → Int}
    (rule : ∀ (i : Int) (t : Tok) (s : Shared) (Q : Value → Shared → Prop) (E : Value → Shared → Prop), Q (.int (g i) s.toks) { s with toks := s.toks + 1 } → wpAny (model X.prog X.w) X.A (f (.int i t)) Q E s) :
    UnR X f (rU fun i => .int (g i)) := by
  intro pins s σ H x v Q I rx h
  obtain ⟨i, rfl, q⟩ := h
  obtain ⟨t, rfl⟩ := rx
  exact rule i t s _ _ ⟨.int (g i), H, I.tok _, ⟨_, rfl⟩, q⟩
theorem un_neg : UnR X (unaryOp .USub) (rU fun i => .int (-i)) := unI fun _ _ _ _ _ q => neg_int q
/-! ### bools among ints: n += (a < b) -/
end

/-! ### comparisons -/
/-- the scalars that == tells apart as data does -/
noncomputable def scal : V → V → Bool
  | .non, .non => true | .non, .int _ => true | .int _, .non => true | .non, .bl _ => true | .bl _, .non => true | .non, .str _ => true | .str _, .non => true
  | .int _, .int _ => true | .bl _, .bl _ => true | .str _, .str _ => true | .byt _, .byt _ => true
  | .int _, .str _ => true | .str _, .int _ => true | .bl _, .str _ => true | .str _, .bl _ => true
  | _, _ => false
noncomputable def rEq : R2 := fun x y H Q => scal x y = true ∧ Q (.bl (decide (x = y))) H
noncomputable def rNe : R2 := fun x y H Q => scal x y = true ∧ Q (.bl (!decide (x = y))) H

theorem dec_int {i j : Int} : decide (V.int i = V.int j) = (i == j) := by
  rw [Bool.eq_iff_iff]
  simp
theorem dec_bl {i j : Bool} : decide (V.bl i = V.bl j) = (i == j) := by
  rw [Bool.eq_iff_iff]
  simp
theorem dec_str {i j : Str} : decide (V.str i = V.str j) = (i == j) := by
  rw [Bool.eq_iff_iff]
  simp
theorem dec_byt {i j : Array UInt8} : decide (V.byt i = V.byt j) = (i.toList == j.toList) := by
  rw [Bool.eq_iff_iff]
  cases i
  cases j
  simp

section
variable {X : Cx} {a b c : Expr} {ta tb tc : TE} {pos : Pos}
theorem fin_bl {pins : List (Addr × Obj)} {σ : St} {H : Hp} {s : Shared} {Q : VK} {k k' : Bool} (I : Inv X pins σ H s) (q : Q (.bl k) H) (e : k = k') : EP X pins σ Q (.bool k') s := by
  subst e
  exact ⟨.bl k, H, I, rfl, q⟩
theorem op_eq : OpR X (compareOp .Eq) rEq := by
  intro pins s σ H x y v u Q I rx ry h
  obtain ⟨hs, q⟩ := h
  cases x with
  | non =>
    cases rx
    cases y with
    | non => cases ry; exact PySem.EqNone.eq_none_none (fin_bl I q (by simp))
    | bl j => cases ry; exact PySem.EqNone.eq_none_bool (fin_bl I q (by simp))
    | int j => obtain ⟨t', rfl⟩ := ry; exact PySem.EqNone.eq_none_int (fin_bl I q (by simp))
    | str j => obtain ⟨t', rfl⟩ := ry; exact PySem.EqNone.eq_none_str (fin_bl I q (by simp))
    | _ => exact absurd (show false = true from hs) Bool.false_ne_true
  | bl i =>
    cases rx
    cases y with
    | non => cases ry; exact PySem.EqNone.eq_bool_none (fin_bl I q (by simp))
    | bl j => cases ry; exact eq_bool (fin_bl I q dec_bl)
    | str j => obtain ⟨t', rfl⟩ := ry; exact PySem.EqMixed.eq_bool_str (fin_bl I q (by simp))
    | _ => exact absurd (show false = true from hs) Bool.false_ne_true
  | int i =>
    obtain ⟨t, rfl⟩ := rx
    cases y with
    | non => cases ry; exact PySem.EqNone.eq_int_none (fin_bl I q (by simp))
    | int j => obtain ⟨t', rfl⟩ := ry; exact eq_int (fin_bl I q dec_int)
    | str j => obtain ⟨t', rfl⟩ := ry; exact PySem.EqMixed.eq_int_str (fin_bl I q (by simp))
    | _ => exact absurd (show false = true from hs) Bool.false_ne_true
  | str i =>
    obtain ⟨t, rfl⟩ := rx
    cases y with
    | non => cases ry; exact PySem.EqNone.eq_str_none (fin_bl I q (by simp))
    | bl j => cases ry; exact PySem.EqMixed.eq_str_bool (fin_bl I q (by simp))
    | int j => obtain ⟨t', rfl⟩ := ry; exact PySem.EqMixed.eq_str_int (fin_bl I q (by simp))
    | str j => obtain ⟨t', rfl⟩ := ry; exact eq_str (fin_bl I q dec_str)
    | _ => exact absurd (show false = true from hs) Bool.false_ne_true
  | byt i =>
    obtain ⟨t, rfl⟩ := rx
    cases y with
    | byt j => obtain ⟨t', rfl⟩ := ry; exact PySem.W.eq_bytes (fin_bl I q dec_byt)
    | _ => exact absurd (show false = true from hs) Bool.false_ne_true
  | _ => cases y <;> exact absurd (show false = true from hs) Bool.false_ne_true
theorem op_ne : OpR X (compareOp .NotEq) rNe := by
  intro pins s σ H x y v u Q I rx ry h
  obtain ⟨hs, q⟩ := h
  cases x with
  | non =>
    cases rx
    cases y with
    | non => cases ry; exact PySem.EqNone.ne_none_none (fin_bl I q (by simp))
    | bl j => cases ry; exact PySem.EqNone.ne_none_bool (fin_bl I q (by simp))
    | int j => obtain ⟨t', rfl⟩ := ry; exact PySem.EqNone.ne_none_int (fin_bl I q (by simp))
    | str j => obtain ⟨t', rfl⟩ := ry; exact PySem.EqNone.ne_none_str (fin_bl I q (by simp))
    | _ => exact absurd (show false = true from hs) Bool.false_ne_true
  | bl i =>
    cases rx
    cases y with
    | non => cases ry; exact PySem.EqNone.ne_bool_none (fin_bl I q (by simp))
    | bl j => cases ry; exact ne_bool (fin_bl I q (congrArg not dec_bl))
    | str j => obtain ⟨t', rfl⟩ := ry; exact PySem.EqMixed.ne_bool_str (fin_bl I q (by simp))
    | _ => exact absurd (show false = true from hs) Bool.false_ne_true
  | int i =>
    obtain ⟨t, rfl⟩ := rx
    cases y with
    | non => cases ry; exact PySem.EqNone.ne_int_none (fin_bl I q (by simp))
    | int j => obtain ⟨t', rfl⟩ := ry; exact ne_int (fin_bl I q (congrArg not dec_int))
    | str j => obtain ⟨t', rfl⟩ := ry; exact PySem.EqMixed.ne_int_str (fin_bl I q (by simp))
    | _ => exact absurd (show false = true from hs) Bool.false_ne_true
  | str i =>
    obtain ⟨t, rfl⟩ := rx
    cases y with
    | non => cases ry; exact PySem.EqNone.ne_str_none (fin_bl I q (by simp))
    | bl j => cases ry; exact PySem.EqMixed.ne_str_bool (fin_bl I q (by simp))
    | int j => obtain ⟨t', rfl⟩ := ry; exact PySem.EqMixed.ne_str_int (fin_bl I q (by simp))
    | str j => obtain ⟨t', rfl⟩ := ry; exact ne_str (fin_bl I q (congrArg not dec_str))
    | _ => exact absurd (show false = true from hs) Bool.false_ne_true
  | byt i =>
    obtain ⟨t, rfl⟩ := rx
    cases y with
    | byt j => obtain ⟨t', rfl⟩ := ry; exact PySem.W.ne_bytes (fin_bl I q (congrArg not dec_byt))
    | _ => exact absurd (show false = true from hs) Bool.false_ne_true
  | _ => cases y <;> exact absurd (show false = true from hs) Bool.false_ne_true

theorem op_lt : OpR X (compareOp .Lt) (rI0 fun i j => .bl (decide (i < j))) := opB0 fun _ _ _ _ _ _ _ q => lt_int q
theorem op_le : OpR X (compareOp .LtE) (rI0 fun i j => .bl (decide (i ≤ j))) := opB0 fun _ _ _ _ _ _ _ q => le_int q
theorem op_gt : OpR X (compareOp .Gt) (rI0 fun i j => .bl (decide (j < i))) := opB0 fun _ _ _ _ _ _ _ q => gt_int q
theorem op_ge : OpR X (compareOp .GtE) (rI0 fun i j => .bl (decide (j ≤ i))) := opB0 fun _ _ _ _ _ _ _ q => ge_int q
/-- is None, is not None: the right side a value none -/
theorem op_isN : OpR X (compareOp .Is) (fun x y H Q => y = .non ∧ Q (.bl (decide (x = .non))) H) := by
  intro pins s σ H x y v u Q I rx ry h
  obtain ⟨rfl, q⟩ := h
  cases ry
  refine is_none_gen (fin_bl I q ?_)
  cases x <;> first
    | (cases rx; rfl)
    | (obtain ⟨t, rfl⟩ := rx; rfl)
theorem op_notN : OpR X (compareOp .IsNot) (fun x y H Q => y = .non ∧ Q (.bl (!decide (x = .non))) H) := by
  intro pins s σ H x y v u Q I rx ry h
  obtain ⟨rfl, q⟩ := h
  cases ry
  refine isnot_none_gen (fin_bl I q ?_)
  cases x <;> first
    | (cases rx; rfl)
    | (obtain ⟨t, rfl⟩ := rx; rfl)

theorem nomark (b : Expr) {op : CmpOp} (h : op ≠ .In := by decide) (h2 : op ≠ .NotIn := by decide) : behindInMarks op b = false := by
  have e1 : (op == CmpOp.In) = false := by cases op <;> first | rfl | exact absurd rfl h
  have e2 : (op == CmpOp.NotIn) = false := by cases op <;> first | rfl | exact absurd rfl h2
  cases b <;> simp [behindInMarks, e1, e2]
/-- a comparison as a value; hm: nomark b, or (for in, not in) by with_unfolding_all rfl -/
theorem pe_cmpR {op : CmpOp} {r : R2} (ho : OpR X (compareOp op) r) (ha : PE X a ta) (hb : PE X b tb) (hm : behindInMarks op b = false) : PE X (.Compare a [op] [b] pos) (tOp r ta tb) := by
  intro pins s σ H Q I h
  exact wpAny_Compare1 (binT ha hb I h fun v u s2 x y H2 I2 rx ry q => ho pins s2 σ H2 x y v u Q I2 rx ry q) hm
/-- a reading of a value as a test -/
noncomputable def tTest (t : TE) : TT := fun σ H Q => t σ H fun x H' => ∃ k, x = .bl k ∧ Q k H'
theorem pt_cmpR {op : CmpOp} {r : R2} (ho : OpR X (compareOp op) r) (ha : PE X a ta) (hb : PE X b tb) (hm : behindInMarks op b = false) : PT X (.Compare a [op] [b] pos) (tTest (tOp r ta tb)) := by
  intro pins s σ H Q I h
  refine wpAny_isTrue_Compare1 (thn (ha pins s σ H _ I h) fun v s1 ⟨x, H1, I1, r1, q1⟩ => thn (hb pins s1 σ H1 _ I1 q1) fun u s2 ⟨y, H2, I2, r2, q2⟩ =>
    thn (ho pins s2 σ H2 x y v u _ I2 r1 r2 q2) fun c s3 ⟨z, H3, I3, r3, k, e, q3⟩ => ?_) hm
  subst e
  cases r3
  exact wpAny_truthy_bool ⟨H3, I3, q3⟩
/-- a op1 b op2 c -/
noncomputable def tChain (r r' : R2) (ta tb tc : TE) : TE := fun σ H Q => ta σ H fun x H1 => tb σ H1 fun y H2 => r x y H2 fun z H3 => ∃ k, z = .bl k ∧
  (if k = true then tc σ H3 fun w' H4 => r' y w' H4 Q else Q (.bl false) H3)
theorem pe_chain {op op' : CmpOp} {r r' : R2} (ho : OpR X (compareOp op) r) (ho' : OpR X (compareOp op') r') (ha : PE X a ta) (hb : PE X b tb) (hc : PE X c tc)
    (hm : lastMarks [op, op'] [b, c] = false := by with_unfolding_all rfl) : PE X (.Compare a [op, op'] [b, c] pos) (tChain r r' ta tb tc) := by
  intro pins s σ H Q I h
  refine Compare_chain (thn (ha pins s σ H _ I h) fun v s1 ⟨x, H1, I1, r1, q1⟩ => chain_link (thn (hb pins s1 σ H1 _ I1 q1) fun u s2 ⟨y, H2, I2, r2, q2⟩ =>
    thn (ho pins s2 σ H2 x y v u _ I2 r1 r2 q2) fun d s3 ⟨z, H3, I3, r3, k, e, q3⟩ => ?_)) hm
  subst e
  cases r3
  refine wpAny_truthy_bool ?_
  cases k with
  | false => exact ite_ff ⟨.bl false, H3, I3, rfl, q3⟩
  | true => exact ite_tt (chain_last (thn (hc pins s3 σ H3 _ I3 q3) fun w' s4 ⟨z', H4, I4, r4, q4⟩ => ho' pins s4 σ H4 y z' u w' Q I4 r2 r4 q4))
/-! ### truth -/
/-- a value's truth by the abstract heap -/
noncomputable def TruV (K : PySem.W.Frag) (x : V) (H : Hp) (k : Bool) : Prop :=
  match x with
  | .non => k = false
  | .bl b => k = b
  | .int i => k = (i != 0)
  | .str y => y.length ≤ sizeLine ∧ k = ((y.length : Int) != 0)
  | .byt y => y.size ≤ sizeLine ∧ k = ((y.size : Int) != 0)
  | .ref p => (∃ xs, SqL K H p xs ∧ k = !xs.isEmpty) ∨ (∃ xs, SqT K H p xs ∧ k = !xs.isEmpty) ∨ ∃ kvs, H p = some (.dK kvs) ∧ k = !kvs.isEmpty
  | _ => False
theorem isEmpty_kv {κ : Type} {kvs : List (κ × V)} {vs : List (κ × Value)} (r : KV kvs vs) : (!vs.isEmpty) = !kvs.isEmpty := by
  cases r <;> rfl
theorem isEmpty_of {xs : List V} {its : List Value} (r : Vals xs its) : (!its.toArray.isEmpty) = !xs.isEmpty := by
  cases r <;> simp
theorem line63 : (sizeLine : Nat) < 2 ^ 63 := by rw [sizeLine_eq]; decide
theorem tru_ok : TruR X (fun x H Q => ∃ k, TruV X.K x H k ∧ Q k H) := by
  intro pins s σ H x v Q I rx h
  obtain ⟨k, e, q⟩ := h
  have hl := line63
  have hs : sizeLine = 16777216 := sizeLine_eq
  cases x with
  | non =>
    cases rx
    have e' : k = false := e
    subst e'
    exact truthy_none ⟨H, I, q⟩
  | bl b =>
    cases rx
    have e' : k = b := e
    subst e'
    exact wpAny_truthy_bool ⟨H, I, q⟩
  | int i =>
    obtain ⟨t, rfl⟩ := rx
    have e' : k = (i != 0) := e
    subst e'
    exact PySem.P.truthy_int ⟨H, I, q⟩
  | str y =>
    obtain ⟨t, rfl⟩ := rx
    obtain ⟨hy, e'⟩ : y.length ≤ sizeLine ∧ k = ((y.length : Int) != 0) := e
    subst e'
    exact PySem.P.truthy_str (by omega) ⟨H, I.tok _, q⟩
  | byt y =>
    obtain ⟨t, rfl⟩ := rx
    obtain ⟨hy, e'⟩ : y.size ≤ sizeLine ∧ k = ((y.size : Int) != 0) := e
    subst e'
    exact PySem.W.truthy_bytes (by omega) ⟨H, I.tok _, q⟩
  | ref p =>
    cases rx
    have e' : (∃ xs, SqL X.K H p xs ∧ k = !xs.isEmpty) ∨ (∃ xs, SqT X.K H p xs ∧ k = !xs.isEmpty) ∨ ∃ kvs, H p = some (.dK kvs) ∧ k = !kvs.isEmpty := e
    rcases e' with ⟨xs, hx, e'⟩ | ⟨xs, hx, e'⟩ | ⟨kvs, hx, e'⟩
    · subst e'
      obtain ⟨its, r, pl, hz⟩ := I.list hx
      have hlen := r.length
      exact wpAny_truthy_list pl.isList (by simp only [List.size_toArray]; omega) ⟨H, I.tok _, by rw [isEmpty_of r]; exact q⟩
    · subst e'
      obtain ⟨its, r, pl, hz⟩ := I.tuple hx
      have hlen := r.length
      exact truthy_tuple pl (by simp only [List.size_toArray]; omega) ⟨H, I.tok _, by rw [isEmpty_of r]; exact q⟩
    · subst e'
      obtain ⟨hz, hS, vs, r, m⟩ : kvs.length ≤ sizeLine ∧ (p == sysModules) = false ∧ ∃ vs, KV kvs vs ∧ s.heap.DictOf (mixKind X.prog X.w) p vs := I.hok p _ hx
      have hlen : kvs.length = vs.length := Paired.length r
      exact wpAny_truthy_dict hS m (by omega) ⟨H, I.tok _, by rw [isEmpty_kv r]; exact q⟩
  | _ => exact (show False from e).elim
/-- any expression whose test is its value's truth (a name, a call, a subscript, a field ..: he by fun _ => rfl) -/
theorem pt_truth (ha : PE X a ta) (he : ∀ whole, isTrue a X.env whole = (do let v ← whole; standAt a.pos; holding [v] (truthy v))) :
    PT X a (fun σ H Q => ta σ H fun x H' => ∃ k, TruV X.K x H' k ∧ Q k H') := by
  intro pins s σ H Q I h
  exact isTrue_plain (thn (ha pins s σ H _ I h) fun v s1 ⟨x, H1, I1, r1, q1⟩ => tru_ok pins s1 σ H1 x v Q I1 r1 q1) (he _)

/-! ### strs and bytes -/
/-! ### scalar builtins, by CallR -/
theorem vals1 {x : V} {us : List Value} (r : Vals [x] us) : ∃ u, us = [u] ∧ RelV x u := by
  cases r with
  | cons r1 r2 => cases r2; exact ⟨_, rfl, r1⟩
theorem vals2 {x y : V} {us : List Value} (r : Vals [x, y] us) : ∃ u w', us = [u, w'] ∧ RelV x u ∧ RelV y w' := by
  cases r with
  | cons r1 r2 =>
    cases r2 with
    | cons r3 r4 => cases r4; exact ⟨_, _, rfl, r1, r3⟩
theorem call_min2 (hc : X.calm = true) : CallR X (.builtin "min") (fun xs H Q => ∃ i j, xs = [.int i, .int j] ∧ Q (.int (if j < i then j else i)) H) := by
  intro pins s σ H xs us Q I r h
  obtain ⟨i, j, rfl, q⟩ := h
  obtain ⟨u, w', rfl, ⟨t, rfl⟩, ⟨t', rfl⟩⟩ := vals2 r
  refine min_two_ints (I.ok.hd hc) fun h' tk k => ⟨_, H, I.kept k, ?_, q⟩
  by_cases hj : j < i
  · rw [if_pos hj, if_pos hj]; exact ⟨_, rfl⟩
  · rw [if_neg hj, if_neg hj]; exact ⟨_, rfl⟩
/-- len of a str, a bytes, a list, a tuple -/
noncomputable def LenV (K : PySem.W.Frag) (x : V) (H : Hp) (n : Nat) : Prop :=
  match x with
  | .str y => y.length ≤ sizeLine ∧ n = y.length
  | .byt y => y.size ≤ sizeLine ∧ n = y.size
  | .ref p => (∃ xs, SqL K H p xs ∧ n = xs.length) ∨ ∃ xs, SqT K H p xs ∧ n = xs.length
  | _ => False
theorem call_len : CallR X (.builtin "len") (fun xs H Q => ∃ x n, xs = [x] ∧ LenV X.K x H n ∧ Q (.int n) H) := by
  intro pins s σ H xs us Q I r h
  obtain ⟨x, n, rfl, e, q⟩ := h
  obtain ⟨u, rfl, rx⟩ := vals1 r
  have hl := line63
  have hs : sizeLine = 16777216 := sizeLine_eq
  cases x with
  | str y =>
    obtain ⟨t, rfl⟩ := rx
    obtain ⟨hy, e'⟩ : y.length ≤ sizeLine ∧ n = y.length := e
    subst e'
    exact len_str (by omega) ⟨.int _, H, I.tok _, ⟨_, rfl⟩, q⟩
  | byt y =>
    obtain ⟨t, rfl⟩ := rx
    obtain ⟨hy, e'⟩ : y.size ≤ sizeLine ∧ n = y.size := e
    subst e'
    exact PySem.W.len_bytes (by omega) ⟨.int _, H, I.tok _, ⟨_, rfl⟩, q⟩
  | ref p =>
    cases rx
    have e' : (∃ xs, SqL X.K H p xs ∧ n = xs.length) ∨ ∃ xs, SqT X.K H p xs ∧ n = xs.length := e
    rcases e' with ⟨xs, hx, e'⟩ | ⟨xs, hx, e'⟩
    · subst e'
      obtain ⟨its, r', pl, hz⟩ := I.list hx
      have hlen := r'.length
      exact Calls.call_len_list pl.isList (by simp only [List.size_toArray]; omega) ⟨.int xs.length, H, I.tok _, ⟨_, by simp only [List.size_toArray]; rw [hlen]⟩, q⟩
    · subst e'
      obtain ⟨its, r', pl, hz⟩ := I.tuple hx
      have hlen := r'.length
      exact len_tuple pl (by simp only [List.size_toArray]; omega) ⟨.int xs.length, H, I.tok _, ⟨_, by simp only [List.size_toArray]; rw [hlen]⟩, q⟩
  | _ => exact (show False from e).elim
end
end L2

namespace L2
open PySem PySem.Spec PyProof.Rows

/-! ### an instance, its attributes a map -/
structure ObjM (h : Heap) (x dx C : Addr) (mA : Str → Option Value) : Prop where
  obj : h.get? x = some (PySem.W.instObj C dx)
  ns : h.Ns1 dx mA
  ne : dx ≠ x

theorem lookIn_ns {h : Heap} {dx : Addr} {mA : Str → Option Value} (n : h.Ns1 dx mA) : ∃ od, h.get? dx = some od ∧ ∀ name, PySem.W.lookIn name od = some (mA name) := by
  obtain ⟨o, es, ep, ho, hd, hk, _, hm⟩ := n
  refine ⟨o, ho, fun name => ?_⟩
  have e := hm name
  unfold nsFind findBy at e
  rw [← Array.find?_toList] at e
  unfold PySem.W.lookIn
  rw [hd]
  dsimp only
  split
  · rename_i y q
    rw [q] at e
    exact congrArg some e
  · rename_i q
    rw [q] at e
    have a : es.toList.any (·.refKey) = false := by
      rw [List.any_eq_false]
      intro y hy
      obtain ⟨z, t, hkey⟩ := hk y (Array.mem_toList_iff.mp hy)
      simp [DictEntry.refKey, hkey]
    have a' : ¬ es.toList.any (·.refKey) = true := by rw [a]; exact Bool.false_ne_true
    rw [if_neg a']
    exact congrArg some e

theorem ObjM.look {h : Heap} {x dx C : Addr} {mA : Str → Option Value} (I : ObjM h x dx C mA) : ∃ od, PySem.W.InstAt h x (PySem.W.instObj C dx) C (some od) ∧ ∀ name, PySem.W.lookIn name od = some (mA name) :=
  let ⟨od, ho, hl⟩ := lookIn_ns I.ns
  ⟨od, ⟨I.obj, rfl, rfl, ho⟩, hl⟩

section
variable {prog : Program} {w : World} {A : Around} {E : Value → Shared → Prop} {s : Shared} {K : PySem.W.Frag} {x dx C f : Addr} {mA : Str → Option Value} {name : Str} {v : Value}

theorem get_map {expr : Bool} {Q : Value → Shared → Prop} (X : K.In s.heap) (I : ObjM s.heap x dx C mA) (hg : PySem.W.plainGet K C name = true) (hh : PySem.W.hasDictIn K C = true)
    (ha : PySem.W.findIn K (.ref C) name = some none) (hv : mA name = some v) (hv' : PySem.W.handedIn v = true) (h : Q v { s with toks := s.toks + 1 }) :
    wpAny (model prog w) A (getAttr (.ref x) name expr) Q E s := by
  obtain ⟨od, J, hl⟩ := I.look
  exact PySem.W.get_value X J (PySem.W.plainGet_of hg).1 (PySem.W.findObj_own hh ha rfl (by rw [hl, hv])) hv' h

theorem get_meth {pl : Sem Bool} {Q : Value × List Value → Shared → Prop} (X : K.In s.heap) (I : ObjM s.heap x dx C mA) (hg : PySem.W.plainGet K C name = true)
    (hf : PySem.W.findIn K (.ref C) name = some (some (.ref f))) (ht : PySem.W.isFn K (.ref f) = true) (hv : mA name = none) (h : Q (.ref f, [.ref x]) s) :
    wpAny (model prog w) A (getMethod (.ref x) name pl) Q E s := by
  obtain ⟨od, J, hl⟩ := I.look
  exact PySem.W.method_fn X J (PySem.W.plainGet_of hg).1 (PySem.W.plainGet_of hg).2 hf (beq_iff_eq.mp ht) (by show (PySem.W.lookIn name od).map (·.isSome) = some false; rw [hl, hv]; rfl) h

theorem set_map {ns : List Str} {Q : Unit → Shared → Prop} (X : K.In s.heap) (I : ObjM s.heap x dx C mA)
    (hs : PySem.W.findIn K (.ref C) "__setattr__" = some (some (.builtin "object.__setattr__"))) (hp : PySem.W.plainOver K C = true) (ht : PySem.W.takerIn K C name = some none) (hh : PySem.W.hasDictIn K C = true)
    (hw : PySem.Within mA ns) (hsz : ns.length ≤ sizeLine)
    (h : ∀ h', ObjM h' x dx C (fun y => if y = name then some v else mA y) → Heap.SameBut dx s.heap h' → Q () { s with heap := h', toks := s.toks + 2 }) :
    wpAny (model prog w) A (setAttr (.ref x) name v) Q E s := by
  obtain ⟨od, J, hl⟩ := I.look
  refine PySem.W.set_plain X J hs (PySem.W.osa_open (s := { s with toks := s.toks + 1 }) (r := none) X J hp ht fun b => ?_)
  obtain ⟨cd, hc, hd'⟩ := PySem.W.any_some hh
  have hx : s.heap.get? x = some ⟨.ref C, some dx, .plain, #[]⟩ := I.obj
  refine wpAny_bind (wpAny_pure (wpAny_bind (wpAny_bind (wpAny_loadPart hx (wpAny_bind (PySem.W.Looks.here (s := { s with toks := s.toks + 1 }) (PySem.W.looks_clsIn X hc) ?_))))))
  rw [hd']
  refine wpAny_pure (a := some dx) (wpAny_bind (wpAny_pure (wpAny_bind ?_)))
  refine wpAny_nsSet1 (s := { s with toks := s.toks + 1 }) I.ns fun h' hn2 hs2 => ?_
  obtain ⟨oD, esD, epD, hoD, hdD, hcD⟩ := hn2.count (PySem.Within.cons name v hw)
  refine wpAny_bind (wpAny_lookBehind hoD (by rw [hdD]; exact pastItsLine_dict (Nat.le_trans hcD (by rw [List.length_cons]; omega))) ?_)
  exact wpAny_pure (h _ ⟨(hs2.2 _ (Ne.symm I.ne)).trans I.obj, hn2, I.ne⟩ hs2)

/-- C(..): the dict at the heap's end, the instance behind it; then its __init__ -/
theorem make_map {R : Result → Shared → Prop} {vs : List Value} {kw : List (Str × Value)} (X : K.In s.heap) (hm : PySem.W.makesIn K C = true)
    (hi : PySem.W.findIn K (.ref C) "__init__" = some (some (.ref f))) (hf : PySem.W.typeIn K (.ref f) = some (.type "function"))
    (h : codeAny (model prog w) (A.under (.builtin "type.__call__" ⟨.ref C :: vs, kw⟩)) (.call (.ref f) ⟨.ref (s.heap.objs.size + 1) :: vs, kw⟩) (PySem.W.InitBack (s.heap.objs.size + 1) R)
      { s with heap := (s.heap.push PySem.W.emptyDict).push (PySem.W.instObj C s.heap.objs.size) }) :
    codeAny (model prog w) A (.call (.ref C) ⟨vs, kw⟩) R s := by
  obtain ⟨hh, g, d, t, os⟩ := s
  exact PySem.W.make_core (PySem.W.makes_of X hm) (PySem.W.looks_findIn X hi) (fun self => PySem.W.bind_fn X self hf) (.inl rfl) h
end

/-! ### the attributes as a list of pairs -/
noncomputable def putF (f : Str) (v : V) : List (Str × V) → List (Str × V)
  | [] => [(f, v)]
  | (g, x) :: r => if g = f then (g, v) :: r else (g, x) :: putF f v r
theorem lookup_putF (f g : Str) (v : V) : ∀ fs : List (Str × V), (putF f v fs).lookup g = if g = f then some v else fs.lookup g
  | [] => by
    show List.lookup g [(f, v)] = _
    by_cases h : g = f
    · have hb : (g == f) = true := beq_iff_eq.mpr h
      simp only [List.lookup, hb, if_pos h]
    · have hb : (g == f) = false := beq_eq_false_iff_ne.mpr h
      simp only [List.lookup, hb, if_neg h]
  | (k, x) :: r => by
    have ih := lookup_putF f g v r
    rw [show putF f v ((k, x) :: r) = (if k = f then (k, v) :: r else (k, x) :: putF f v r) from rfl]
    by_cases hk : k = f
    · rw [if_pos hk]
      by_cases h : g = k
      · have hb : (g == k) = true := beq_iff_eq.mpr h
        simp only [List.lookup, hb, if_pos (h.trans hk)]
      · have hb : (g == k) = false := beq_eq_false_iff_ne.mpr h
        simp only [List.lookup, hb, if_neg (fun e : g = f => h (e.trans hk.symm))]
    · rw [if_neg hk]
      by_cases h : g = k
      · have hb : (g == k) = true := beq_iff_eq.mpr h
        simp only [List.lookup, hb, if_neg (fun e : g = f => hk (h.symm.trans e))]
      · have hb : (g == k) = false := beq_eq_false_iff_ne.mpr h
        simp only [List.lookup, hb]
        exact ih
theorem keys_putF (f : Str) (v : V) : ∀ fs : List (Str × V), f ∈ (putF f v fs).map (·.1) ∧ ∀ g, g ∈ fs.map (·.1) → g ∈ (putF f v fs).map (·.1)
  | [] => ⟨by simp [putF], fun g h => by simp at h⟩
  | (k, x) :: r => by
    obtain ⟨i1, i2⟩ := keys_putF f v r
    rw [show putF f v ((k, x) :: r) = (if k = f then (k, v) :: r else (k, x) :: putF f v r) from rfl]
    by_cases hk : k = f
    · rw [if_pos hk]
      subst hk
      exact ⟨by simp, fun g h => by simpa using h⟩
    · rw [if_neg hk]
      refine ⟨?_, fun g h => ?_⟩
      · rw [List.map_cons]
        exact List.mem_cons_of_mem _ i1
      · rw [List.map_cons] at h ⊢
        rcases List.mem_cons.mp h with e | e
        · exact List.mem_cons.mpr (.inl e)
        · exact List.mem_cons_of_mem _ (i2 g e)
theorem length_putF (f : Str) (v : V) : ∀ fs : List (Str × V), (putF f v fs).length ≤ fs.length + 1
  | [] => by simp [putF]
  | (k, x) :: r => by
    have ih := length_putF f v r
    rw [show putF f v ((k, x) :: r) = (if k = f then (k, v) :: r else (k, x) :: putF f v r) from rfl]
    by_cases hk : k = f
    · rw [if_pos hk, List.length_cons, List.length_cons]; omega
    · rw [if_neg hk, List.length_cons, List.length_cons]; omega

theorem RelO.some_of {v : V} {o : Option Value} (r : RelO (some v) o) : ∃ u, o = some u ∧ RelV v u := by
  cases o with
  | none => exact (show False from r).elim
  | some u => exact ⟨u, rfl, r⟩
theorem RelO.none_of {o : Option Value} (r : RelO none o) : o = none := by
  cases o with
  | none => rfl
  | some u => exact (show False from r).elim
theorem handed_of {v : V} {u : Value} (r : RelV v u) : PySem.W.handedIn u = true := by
  cases v with
  | non => cases (show u = Value.none from r); rfl
  | bl b => cases (show u = Value.bool b from r); rfl
  | int i => obtain ⟨t, e⟩ := (show ∃ t, u = Value.int i t from r); cases e; rfl
  | str x => obtain ⟨t, e⟩ := (show ∃ t, u = Value.str x t from r); cases e; rfl
  | byt b => obtain ⟨t, e⟩ := (show ∃ t, u = Value.bytes b t from r); cases e; rfl
  | flt b => obtain ⟨t, e⟩ := (show ∃ t, u = Value.float b t from r); cases e; rfl
  | ref a => cases (show u = Value.ref a from r); rfl
  | ty n => cases (show u = Value.type n from r); rfl

section
variable {P : Program} {w : World} {H H' : Hp} {h h' : Heap} {a C dx : Addr} {fs fs' : List (Str × V)}
theorem ins_get (hok : HOk P w H h) (e : H a = some (.ins C dx fs)) : ∃ mA, ObjM h a dx C mA ∧ (∀ f, RelO (fs.lookup f) (mA f)) ∧ PySem.Within mA (fs.map (·.1)) ∧ fs.length ≤ 1000 ∧ H dx = some (.own a) := by
  obtain ⟨d, z, ne, ob, mA, n, r, q⟩ := (show ObjOk P w H h a (.ins C dx fs) from hok a _ e)
  exact ⟨mA, ⟨ob, n, ne⟩, r, q, z, d⟩
end

/-! ### what of the text a class must have -/
structure Cls (K : PySem.W.Frag) (C : Addr) : Prop where
  pg : PySem.W.plainGet K C Str.empty = true
  hd : PySem.W.hasDictIn K C = true
  po : PySem.W.plainOver K C = true
  sa : PySem.W.findIn K (.ref C) "__setattr__" = some (some (.builtin "object.__setattr__"))
theorem Cls.get {K : PySem.W.Frag} {C : Addr} (c : Cls K C) (f : Str) : PySem.W.plainGet K C f = true := c.pg
/-- no class of it has the name -/
noncomputable def NoAttr (K : PySem.W.Frag) (C : Addr) (f : Str) : Prop := PySem.W.findIn K (.ref C) f = some none
theorem NoAttr.taker {K : PySem.W.Frag} {C : Addr} {f : Str} (n : NoAttr K C f) : PySem.W.takerIn K C f = some none := by
  unfold PySem.W.takerIn
  rw [show PySem.W.findIn K (.ref C) f = some none from n]
  rfl
/-- a method: a plain def of the class or of one above it -/
structure Meth (K : PySem.W.Frag) (C : Addr) (m : Str) (f : Addr) : Prop where
  at_ : PySem.W.findIn K (.ref C) m = some (some (.ref f))
  fn : PySem.W.isFn K (.ref f) = true
  kp : PySem.W.keepIn K (.ref f) = true

section
variable {X : Cx} {pins : List (Addr × Obj)} {σ : St} {H : Hp} {s : Shared} {a C dx : Addr} {fs : List (Str × V)} {f : Str} {v : V} {A : Around} {E : Value → Shared → Prop}

theorem getattr_ok {b : Bool} {Q : Value → Shared → Prop} (I : Inv X pins σ H s) (e : H a = some (.ins C dx fs)) (c : Cls X.K C) (n : NoAttr X.K C f) (l : fs.lookup f = some v)
    (h : ∀ u s', Inv X pins σ H s' → RelV v u → Q u s') : wpAny (model X.prog X.w) A (getAttr (.ref a) f b) Q E s := by
  obtain ⟨mA, O, r, _, _, _⟩ := ins_get I.hok e
  obtain ⟨u, hu, ru⟩ := RelO.some_of (v := v) (o := mA f) (by rw [← l]; exact r f)
  exact get_map I.kIn O (c.get f) c.hd n hu (handed_of ru) (h u _ (I.tok _) ru)

theorem getmeth_ok {m : Str} {g : Addr} {pl : Sem Bool} {Q : Value × List Value → Shared → Prop} (I : Inv X pins σ H s) (e : H a = some (.ins C dx fs)) (c : Cls X.K C) (k : Meth X.K C m g) (l : fs.lookup m = none)
    (h : Q (.ref g, [.ref a]) s) : wpAny (model X.prog X.w) A (getMethod (.ref a) m pl) Q E s := by
  obtain ⟨mA, O, r, _, _, _⟩ := ins_get I.hok e
  have hn : mA m = none := RelO.none_of (by rw [← l]; exact r m)
  exact get_meth I.kIn O (c.get m) k.at_ k.fn hn h

theorem setattr_ok {y : V} {u : Value} {Q : Unit → Shared → Prop} (I : Inv X pins σ H s) (e : H a = some (.ins C dx fs)) (c : Cls X.K C) (n : NoAttr X.K C f) (hl : fs.length < 1000) (ry : RelV y u)
    (h : ∀ s', Inv X pins σ (upd H a (.ins C dx (putF f y fs))) s' → Q () s') : wpAny (model X.prog X.w) A (setAttr (.ref a) f u) Q E s := by
  obtain ⟨mA, O, r, wi, _, ho⟩ := ins_get I.hok e
  have hz : (fs.map (·.1)).length ≤ sizeLine := by rw [List.length_map, sizeLine_eq]; omega
  refine set_map I.kIn O c.sa c.po n.taker c.hd wi hz fun h' O' sb => h _ ?_
  have hd : ∃ o, h'.get? dx = some o := let ⟨o, _, _, e', _⟩ := O'.ns; ⟨o, e'⟩
  refine I.write (x := a) (e := dx) (by rw [e]; exact True.intro) (.inr ho) (fun b q hb z => (sb.2 b hb).trans z) hd ?_
  refine ⟨by rw [upd_ne O.ne]; exact ho, ?_, O.ne, O'.obj, _, O'.ns, fun g => ?_, fun g hg => ?_⟩
  · have := length_putF f y fs; omega
  · show RelO ((putF f y fs).lookup g) (if g = f then some u else mA g)
    rw [lookup_putF]
    by_cases q : g = f
    · rw [if_pos q, if_pos q]; exact ry
    · rw [if_neg q, if_neg q]; exact r g
  · by_cases q : g = f
    · rw [q]; exact (keys_putF f y fs).1
    · refine (keys_putF f y fs).2 g (wi g fun z => hg ?_)
      show (if g = f then some u else mA g) = none
      rw [if_neg q]; exact z

/-- a new instance, tracked, without attributes -/
theorem Inv.made (I : Inv X pins σ H s) : Inv X pins σ (upd (upd H s.heap.objs.size (.own (s.heap.objs.size + 1))) (s.heap.objs.size + 1) (.ins C s.heap.objs.size []))
    { s with heap := (s.heap.push PySem.W.emptyDict).push (PySem.W.instObj C s.heap.objs.size) } := by
  have e1 : (s.heap.push PySem.W.emptyDict).get? s.heap.objs.size = some PySem.W.emptyDict := Heap.get?_push_size s.heap rfl
  have e2 : ((s.heap.push PySem.W.emptyDict).push (PySem.W.instObj C s.heap.objs.size)).get? (s.heap.objs.size + 1) = some (PySem.W.instObj C s.heap.objs.size) := by
    have := Heap.get?_push_size (s.heap.push PySem.W.emptyDict) (o := PySem.W.instObj C s.heap.objs.size) rfl
    rwa [Heap.size_push] at this
  have e3 : (s.heap.push PySem.W.emptyDict).Ns s.heap.objs.size (fun _ => none) := ⟨PySem.W.emptyDict, #[], _, e1, rfl, (fun e he => absurd he (by simp)), fun _ => rfl⟩
  have I1 := I.laid (a := s.heap.objs.size) (o := .own (s.heap.objs.size + 1)) (h' := s.heap.push PySem.W.emptyDict) (t' := s.toks) (fun b u q => Heap.get?_push_of_some _ q) (Nat.le_refl _) ⟨_, e1⟩
  refine I1.laid (a := s.heap.objs.size + 1) (o := .ins C s.heap.objs.size []) (t' := s.toks) (fun b u q => Heap.get?_push_of_some _ q) (Nat.le_of_eq (Heap.size_push _ _)) ?_
  have ne : s.heap.objs.size ≠ s.heap.objs.size + 1 := Nat.ne_of_lt (Nat.lt_succ_self _)
  refine ⟨by rw [upd_ne ne, upd_same], Nat.zero_le _, ne, e2, fun _ => none, (Heap.Ns1.of_empty e3).at fun o q => Heap.get?_push_of_some _ q, fun _ => True.intro, fun y hy => absurd rfl hy⟩

/-- e.f where nothing but the object is asked: through attributeBase (super) and the last hold -/
theorem attr_of {prog : Program} {w : World} {env : Env} {e : Expr} {f : Str} {pos : Pos} {s : Shared} {Q : Value → Shared → Prop} (hb : attributeBase e f env (eval e env) = eval e env)
    (h : wpAny (model prog w) A (eval e env) (fun o s₁ => wpAny (model prog w) A (getAttr o f true) Q E s₁) E s) : wpAny (model prog w) A (eval (.Attribute e f pos) env) Q E s :=
  Attribute_any_ h (by rw [arm_eval_Attribute, hb])
end

/-! ### readings and rules -/
/-- e.f, an attribute of the instance -/
noncomputable def tFld (K : PySem.W.Frag) (ta : TE) (f : Str) : TE := fun σ H Q => ta σ H fun x H1 => ∃ a C dx fs v, x = .ref a ∧ H1 a = some (.ins C dx fs) ∧ Cls K C ∧ NoAttr K C f ∧ fs.lookup f = some v ∧ Q v H1
/-- e.f = value -/
noncomputable def sFld (K : PySem.W.Frag) (ta tv : TE) (f : Str) : TS := fun D σ H => tv σ H fun y H1 => ta σ H1 fun x H2 => ∃ a C dx fs, x = .ref a ∧ H2 a = some (.ins C dx fs) ∧ Cls K C ∧ NoAttr K C f ∧ fs.length < 1000 ∧
  D.nx σ (upd H2 a (.ins C dx (putF f y fs)))
section
variable {X : Cx} {o e value : Expr} {f : Str} {pos pos' tpos : Pos} {ta tv : TE}
theorem pe_fld (he : PE X e ta) (hb : attributeBase e f X.env (eval e X.env) = eval e X.env) : PE X (.Attribute e f pos) (tFld X.K ta f) := by
  intro pins s σ H Q I h
  refine attr_of hb (thn (he pins s σ H _ I h) fun u s1 hh9 => ?_)
  obtain ⟨x, H1, I1, rx, a, C, dx, fs, v, ex, ea, c, n, l, q⟩ := hh9
  subst ex
  obtain rfl : u = Value.ref a := rx
  exact getattr_ok I1 ea c n l fun u' s2 I2 ru => ⟨v, H1, I2, ru, q⟩
theorem ps_fld (ha : PE X o ta) (hv : PE X value tv) (hs : swapsWith value (some (.Attribute o f pos')) pos.line X.env = pure false) : PS X (.Assign [.Attribute o f pos'] value pos) (sFld X.K ta tv f) := by
  intro pins s σ H D I h
  refine plainObj_wpAny_Assign_Attribute (thn (hv pins s σ H _ I h) fun u s1 ⟨y, H1, I1, ry, q⟩ => thn (ha pins s1 σ H1 _ I1 q) fun ov s2 hh9 => ?_) hs
  obtain ⟨x, H2, I2, rx, a, C, dx, fs, ex, ea, c, n, l, q2⟩ := hh9
  subst ex
  obtain rfl : ov = Value.ref a := rx
  exact setattr_ok I2 ea c n l ry fun s3 I3 => ⟨σ, _, I3, q2⟩
end

/-! ### isinstance -/
section
variable {X : Cx} {pins : List (Addr × Obj)} {σ : St} {H : Hp} {s : Shared} {A : Around} {E : Value → Shared → Prop} {Q : Value → Shared → Prop} {c : Value} {b : Bool}
/-- the type of a value, as the fragment's deciders take it; for an instance its class -/
inductive TyOf (K : PySem.W.Frag) (H : Hp) : V → Value → Prop where
  | non : TyOf K H .non (.type "NoneType")
  | bl (x : Bool) : TyOf K H (.bl x) (.type "bool")
  | int (i : Int) : TyOf K H (.int i) (.type "int")
  | str (x : Str) : TyOf K H (.str x) (.type "str")
  | flt (x : UInt64) : TyOf K H (.flt x) (.type "float")
  | lst {a : Addr} {xs : List V} (e : H a = some (.lst xs)) : TyOf K H (.ref a) (.type "list")
  | frz {a : Addr} {o : Obj} {xs : List V} (e : H a = some (.frz o (.lst xs))) : TyOf K H (.ref a) (.type "list")
  | tup {a : Addr} {xs : List V} (e : H a = some (.tup xs)) : TyOf K H (.ref a) (.type "tuple")
  | dK {a : Addr} {kvs : List (Key × V)} (e : H a = some (.dK kvs)) : TyOf K H (.ref a) (.type "dict")
  | dT {a : Addr} {kvs : List (List Key × V)} (e : H a = some (.dT kvs)) : TyOf K H (.ref a) (.type "dict")
  | ins {a C dx : Addr} {fs : List (Str × V)} (e : H a = some (.ins C dx fs)) (cl : Cls K C) (ha : PySem.W.findIn K (.ref C) "__class__" = some (some (.builtin "object.__class__")))
      (hn : PySem.W.specialIn K (.builtin "object.__class__") "__get__" = some (some (.builtin "getset_descriptor.__get__"))) (htk : PySem.W.takesIn K (.builtin "object.__class__") = some true)
      (hm : PySem.W.mroIn K C (.type "object") = some true) : TyOf K H (.ref a) (.ref C)
/-- isinstance(x, c) for one class c, a built-in or an own one: kitOne's answer -/
theorem isinst_ok {x : V} {u t : Value} (I : Inv X pins σ H s) (rx : RelV x u) (ty : TyOf X.K H x t) (e : PySem.W.kitOne X.K t c = some b) (h : ∀ tk, Q (.bool b) { s with toks := tk }) :
    wpAny (model X.prog X.w) A (call (.builtin "isinstance") [u, c]) Q E s := by
  cases ty with
  | non => cases (show u = Value.none from rx); exact PySem.W.kia_one PySem.W.kitx_none I.kIn True.intro e (fun z => nomatch z) h
  | bl y => cases (show u = Value.bool y from rx); exact PySem.W.kia_one PySem.W.kitx_bool I.kIn True.intro e (fun z => nomatch z) h
  | int i => obtain ⟨t, q⟩ := (show ∃ t, u = Value.int i t from rx); cases q; exact PySem.W.kia_one PySem.W.kitx_int I.kIn True.intro e (fun z => nomatch z) h
  | str y => obtain ⟨t, q⟩ := (show ∃ t, u = Value.str y t from rx); cases q; exact PySem.W.kia_one PySem.W.kitx_str I.kIn True.intro e (fun z => nomatch z) h
  | flt y => obtain ⟨t, q⟩ := (show ∃ t, u = Value.float y t from rx); cases q; exact PySem.W.kia_one PySem.W.kitx_float I.kIn True.intro e (fun z => nomatch z) h
  | @lst a xs ea =>
    cases (show u = Value.ref a from rx)
    obtain ⟨_, _, n, _, h1⟩ := (show ObjOk X.prog X.w H s.heap a (.lst xs) from I.hok a _ ea)
    exact PySem.W.kia_one PySem.W.kitx_list I.kIn ⟨_, h1, rfl⟩ e (fun z => nomatch z) h
  | @frz a ob xs ea =>
    cases (show u = Value.ref a from rx)
    obtain ⟨_, _, _, n, _, h1⟩ := (show ObjOk X.prog X.w H s.heap a (.frz ob (.lst xs)) from I.hok a _ ea)
    exact PySem.W.kia_one PySem.W.kitx_list I.kIn ⟨_, h1, rfl⟩ e (fun z => nomatch z) h
  | @tup a xs ea =>
    cases (show u = Value.ref a from rx)
    obtain ⟨_, _, _, p⟩ := (show ObjOk X.prog X.w H s.heap a (.tup xs) from I.hok a _ ea)
    obtain ⟨o, h1, h2, _⟩ := p
    exact PySem.W.kia_one PySem.W.kitx_tuple I.kIn ⟨o, h1, h2⟩ e (fun z => nomatch z) h
  | @dK a kvs ea =>
    cases (show u = Value.ref a from rx)
    obtain ⟨_, _, vs, _, p⟩ := (show ObjOk X.prog X.w H s.heap a (.dK kvs) from I.hok a _ ea)
    obtain ⟨o, es, ep, h1, h2, _⟩ := p
    exact PySem.W.kia_one PySem.W.kitx_dict I.kIn ⟨o, h1, h2.1⟩ e (fun z => nomatch z) h
  | @dT a kvs ea =>
    cases (show u = Value.ref a from rx)
    obtain ⟨_, _, xs, _, o, es, ep, h1, h2, _⟩ := (show ObjOk X.prog X.w H s.heap a (.dT kvs) from I.hok a _ ea)
    exact PySem.W.kia_one PySem.W.kitx_dict I.kIn ⟨o, h1, h2.1⟩ e (fun z => nomatch z) h
  | @ins a C dx fs ea cl ha hn htk hm =>
    cases (show u = Value.ref a from rx)
    obtain ⟨mA, O, _⟩ := ins_get I.hok ea
    obtain ⟨od, J, _⟩ := O.look
    exact PySem.W.kia_one (PySem.W.kitx_own (cl.get _) cl.hd ha hn htk hm) I.kIn J e (fun z => nomatch z) h
end
end L2

namespace L2
open PySem PySem.Spec PyProof.Rows

/-! ### room -/
structure Room (k : Nat) (A : Around) : Prop where
  hd : A.handled = none
  dp : A.depth + 3 * k + 5 < recursionLimit
  un : A.units + 16 * k + 200 < cLine
theorem Room.mono {j k : Nat} {A : Around} (r : Room k A) (h : j ≤ k) : Room j A := ⟨r.hd, by have := r.dp; omega, by have := r.un; omega⟩
theorem Room.deeper {k : Nat} {A : Around} (r : Room (k + 1) A) (env : Env) : Room k (A.deeper env) :=
  ⟨r.hd, by have := r.dp; show A.depth + 1 + 3 * k + 5 < _; omega, by have := r.un; show A.units + 3 + 16 * k + 200 < _; omega⟩
theorem make_depth {A : Around} {C : Addr} {us : List Value} {kw : List (Str × Value)} : (A.under (.builtin "type.__call__" ⟨.ref C :: us, kw⟩)).depth = A.depth + 1 := by
  first | rfl | simp [Around.under, Code.weight, Code.isCreation, Code.isGuard, Code.isCaller, Code.frames, Code.isFrame, guardIds]
theorem make_units {A : Around} {C : Addr} {us : List Value} {kw : List (Str × Value)} : (A.under (.builtin "type.__call__" ⟨.ref C :: us, kw⟩)).units = A.units + 1 := by
  first | rfl | simp [Around.under, Code.cUnits, Code.frames, Code.isFrame]
theorem Room.make {k : Nat} {A : Around} (r : Room (k + 1) A) (C : Addr) (us : List Value) (kw : List (Str × Value)) : Room k (A.under (.builtin "type.__call__" ⟨.ref C :: us, kw⟩)) :=
  ⟨r.hd, by have := r.dp; rw [make_depth]; omega, by have := r.un; rw [make_units]; omega⟩
theorem Room.depth {k : Nat} {A : Around} (r : Room k A) : A.depth < recursionLimit := by have := r.dp; omega
theorem Room.units {k : Nat} {A : Around} (r : Room k A) : A.units + 64 < cLine := by have := r.un; omega
theorem Room.units0 {k : Nat} {A : Around} (r : Room k A) : A.units < cLine := by have := r.un; omega

/-! ### argument lists and displays -/
noncomputable def tNil : TA := fun _ H Q => Q [] H
noncomputable def tCons (ta : TE) (tr : TA) : TA := fun σ H Q => ta σ H fun x H1 => tr σ H1 fun xs H2 => Q (x :: xs) H2
section
variable {X : Cx} {e : Expr} {es : List Expr} {te : TE} {t : TA} {pos : Pos}
theorem pa_nil : PA X [] tNil := fun _ _ _ _ H Q I h => Calls.spliced_nil ⟨[], H, I, .nil, h⟩
theorem pa_cons (ha : PE X e te) (hr : PA X es t) (hs : starEach (e :: es) X.env = (false, eval e X.env) :: starEach es X.env := by rfl) : PA X (e :: es) (tCons te t) := by
  intro pos pins s σ H Q I h
  rw [hs]
  show wpAny _ _ (spliced ((false, eval e X.env) :: backTo pos (starEach es X.env))) _ _ s
  refine Calls.spliced_cons (thn (ha pins s σ H _ I h) fun u s1 hh9 => ?_)
  obtain ⟨x, H1, I1, r1, q1⟩ := hh9
  exact thn (hr pos pins s1 σ H1 _ I1 q1) fun us s2 ⟨xs, H2, I2, r2, q2⟩ => ⟨x :: xs, H2, I2, .cons r1 r2, q2⟩

/-- a tuple, a list of written items -/
noncomputable def tTup (t : TA) : TE := fun σ H Q => t σ H fun xs H1 => xs.length ≤ sizeLine ∧ ∀ p, H1 p = none → Q (.ref p) (upd H1 p (.tup xs))
noncomputable def tLst (t : TA) : TE := fun σ H Q => t σ H fun xs H1 => xs.length ≤ sizeLine ∧ ∀ p, H1 p = none → Q (.ref p) (upd H1 p (.lst xs))
theorem pe_tup {x1} (h : PA X es t) : PE X (.Tuple es x1 pos) (tTup t) := by
  intro pins s σ H Q I hq
  refine wpAny_Tuple_spliced (thn (h pos pins s σ H _ I hq) fun us s1 ⟨xs, H1, I1, r, z, q⟩ => ⟨by rw [← r.length]; exact z, ?_⟩)
  have hf : H1 s1.heap.objs.size = none := I1.hok.fresh (Nat.le_refl _)
  refine ⟨.ref s1.heap.objs.size, upd H1 s1.heap.objs.size (.tup xs), I1.laid (t' := s1.toks) (fun b u e => Heap.get?_push_of_some _ e) (Nat.le_refl _) ?_, rfl, q _ hf⟩
  exact ⟨z, us, r, ⟨_, Heap.get?_push_size _ rfl, rfl, _, rfl⟩⟩
theorem pe_lst (h : PA X es t) : PE X (.List es pos) (tLst t) := by
  intro pins s σ H Q I hq
  refine wpAny_List_spliced (thn (h pos pins s σ H _ I hq) fun us s1 ⟨xs, H1, I1, r, z, q⟩ => ⟨by rw [← r.length]; exact z, ?_⟩)
  have hf : H1 s1.heap.objs.size = none := I1.hok.fresh (Nat.le_refl _)
  refine ⟨.ref s1.heap.objs.size, upd H1 s1.heap.objs.size (.lst xs), I1.laid (t' := s1.toks) (fun b u e => Heap.get?_push_of_some _ e) (Nat.le_refl _) ?_, rfl, q _ hf⟩
  exact ⟨z, us, 0, r, Heap.get?_push_size _ rfl⟩
end

/-! ### what a def promises -/
/-- a def's promise: the bound arguments in the parameters' order, the heap, the wanted end, the wanted exception -/
noncomputable abbrev Sp := List V → Hp → VK → XK → Prop
/-- how an exception lies behind a call (file 08 gives it): the callers' frames, abstract heap and state ahead of the call, the wish, the exception, the state -/
noncomputable abbrev CXT := List Env → Hp → Shared → XK → Value → Shared → Prop

/-- the state at a call -/
structure Env0 (P : Program) (w : World) (K : PySem.W.Frag) (mg : Str → Option Value) (base : Heap) (A : Around) (outer : List Env) (s : Shared) (H : Hp) : Prop where
  frames : A.frames = some outer
  mod : Mod K mg base
  bs : ∀ b o, base.get? b = some o → s.heap.get? b = some o ∧ H b = none
  bsz : base.objs.size ≤ s.heap.objs.size
  funs : s.heap.FunFrames base outer
  frf : ∀ b ∈ frs outer, H b = none
  hok : HOk P w H s.heap
  bare : AllBare s.gens
/-- a call's end -/
noncomputable def CE (outer : List Env) (P : Program) (w : World) (H : Hp) (s : Shared) (Q : VK) (u : Value) (s' : Shared) : Prop :=
  ∃ v H', s'.os = s.os ∧ AllBare s'.gens ∧ Un (frs outer) [] H H' s.heap s'.heap ∧ HOk P w H' s'.heap ∧ RelV v u ∧ Q v H'
noncomputable def CR (CX : CXT) (outer : List Env) (P : Program) (w : World) (H : Hp) (s : Shared) (Q : VK) (E : XK) (r : Result) (s' : Shared) : Prop :=
  match r with
  | .ok (.ret u) => CE outer P w H s Q u s'
  | .ok _ => False
  | .error e => CX outer H s E e s'
structure FnOk (P : Program) (w : World) (K : PySem.W.Frag) (mg : Str → Option Value) (base : Heap) (CX : CXT) (k : Nat) (f : Addr) (fd : FuncData) (ps : List Str) (sp : Sp) : Prop where
  len : ∀ vs H Q E, sp vs H Q E → vs.length = ps.length
  run : ∀ (A : Around) (outer : List Env) (s : Shared) (H : Hp) (args : Args) (us : List Value) (vs : List V) (Q : VK) (E : XK), Room k A → Env0 P w K mg base A outer s H → BindsTo s fd args (ps.zip us) → Vals vs us → sp vs H Q E →
    codeAny (model P w) A (.call (.ref f) args) (CR CX outer P w H s Q E) s
theorem Env0.make {P : Program} {w : World} {K : PySem.W.Frag} {mg : Str → Option Value} {base : Heap} {A : Around} {outer : List Env} {s : Shared} {H : Hp} (e : Env0 P w K mg base A outer s H) (C : Addr) (us : List Value) (kw : List (Str × Value)) :
    Env0 P w K mg base (A.under (.builtin "type.__call__" ⟨.ref C :: us, kw⟩)) outer s H := ⟨by first | exact e.frames | (simpa [Around.under, Code.envs, Code.isFrame, pushEnvs] using e.frames), e.mod, e.bs, e.bsz, e.funs, e.frf, e.hok, e.bare⟩
section
variable {X : Cx} {pins : List (Addr × Obj)} {σ : St} {H : Hp} {s s' : Shared}
/-- from a body: what a callee wants -/
theorem Inv.env0 (I : Inv X pins σ H s) : Env0 X.prog X.w X.K X.mg X.base X.A X.stack s H :=
  ⟨I.ok.frames, I.ok.mod, I.bs, Nat.le_trans I.ok.bsz I.sz, I.stack, I.stkFree, I.hok, I.bare⟩
/-- behind a call -/
theorem Inv.after {Q : VK} {u : Value} (I : Inv X pins σ H s) (h : CE X.stack X.prog X.w H s Q u s') : EP X pins σ Q u s' := by
  obtain ⟨v, H', os, bare, un, hok, r, q⟩ := h
  obtain ⟨hh, g, d, t, os'⟩ := s'
  obtain rfl : os' = s.os := os
  exact ⟨v, H', I.call (h' := hh) (g' := g) (d' := d) (t' := t) (ch := []) un hok bare (fun b z => absurd z (by simp)), r, q⟩
end

/-! ### calls -/
/-- f(..): the written arguments, then the defaults dvs; E: what is wanted of an exception -/
noncomputable def tCall (sp : Sp) (dvs : List V) (E : XK) (t : TA) : TE := fun σ H Q => t σ H fun vs H1 => sp (vs ++ dvs) H1 Q E
/-- o.m(..) of an instance of the class at C -/
noncomputable def tMeth (C : Addr) (m : Str) (sp : Sp) (dvs : List V) (E : XK) (ta : TE) (t : TA) : TE := fun σ H Q => ta σ H fun x H1 => ∃ a dx fs, x = .ref a ∧ H1 a = some (.ins C dx fs) ∧ fs.lookup m = none ∧
  t σ H1 fun vs H2 => sp (x :: (vs ++ dvs)) H2 Q E
/-- C(..): a new instance and its dict, then __init__ -/
noncomputable def tMake (C : Addr) (sp : Sp) (dvs : List V) (E : XK) (t : TA) : TE := fun σ H Q => t σ H fun vs H1 => ∀ x dx, H1 x = none → H1 dx = none → dx ≠ x →
  sp (.ref x :: (vs ++ dvs)) (upd (upd H1 dx (.own x)) x (.ins C dx [])) (fun v H2 => v = .non ∧ Q (.ref x) H2) E

/-- how the parameters are bound: us the positional arguments, kw the keywords' values by name, ds the defaults that fill up -/
noncomputable def Binds (K : PySem.W.Frag) (fd : FuncData) (ps : List Str) (ds : List Value) : Prop :=
  ∀ (s : Shared) (us : List Value), K.In s.heap → (us ++ ds).length = ps.length → BindsTo s fd ⟨us, []⟩ (ps.zip (us ++ ds))
/-- every parameter is given -/
theorem Binds.all {K : PySem.W.Frag} {fd : FuncData} {ps : List Str} (h : ∀ us : List Value, us.length = ps.length → bindArgs fd ⟨us, []⟩ = pure (ps.zip us)) : Binds K fd ps [] := fun s us _ hl => by
  rw [List.append_nil] at hl ⊢
  exact .of_eq (h us hl)

/-- an exception of a callee reaches what this body wants of exceptions -/
noncomputable def Passes (CX : CXT) (X : Cx) (E : XK) : Prop := ∀ (pins : List (Addr × Obj)) (σ : St) (H : Hp) (s : Shared) (e : Value) (s' : Shared), Inv X pins σ H s → CX X.stack H s E e s' → X.xe e s'

section
variable {X : Cx} {CX : CXT} {k : Nat} {f C : Addr} {fd : FuncData} {ps : List Str} {sp : Sp} {dvs : List V} {ds : List Value} {E : XK} {x m : Str} {p pos apos : Pos} {e o : Expr} {es : List Expr} {ta : TE} {t : TA}

/-- the callee runs -/
theorem run_fn {pins : List (Addr × Obj)} {σ : St} {H : Hp} {s : Shared} {Q : VK} {us : List Value} {vs : List V} (F : FnOk X.prog X.w X.K X.mg X.base CX k f fd ps sp) (hr : Room k X.A) (hb : Binds X.K fd ps ds) (hd : Vals dvs ds) (hx : Passes CX X E)
    (I : Inv X pins σ H s) (r : Vals vs us) (h : sp (vs ++ dvs) H Q E) : wpAny (model X.prog X.w) X.A (call (.ref f) us) (EP X pins σ Q) X.xe s := by
  have r2 : Vals (vs ++ dvs) (us ++ ds) := r.append hd
  have hl : (us ++ ds).length = ps.length := by rw [← r2.length]; exact F.len _ _ _ _ h
  refine wpAny_call (codeAny_mono (F.run X.A X.stack s H ⟨us, []⟩ (us ++ ds) (vs ++ dvs) Q E hr I.env0 (hb s us I.kIn hl) r2 h) fun r s' hq => ?_)
  cases r with
  | error e => exact hx pins σ H s e s' I hq
  | ok fl =>
    cases fl with
    | ret u => exact I.after hq
    | next => exact False.elim hq
    | brk => exact False.elim hq
    | cont => exact False.elim hq

theorem pe_call (F : FnOk X.prog X.w X.K X.mg X.base CX k f fd ps sp) (hr : Room k X.A) (hg : Gl X x) (hm : X.mg x = some (.ref f)) (hk : PySem.W.keepIn X.K (.ref f) = true) (hb : Binds X.K fd ps ds) (hd : Vals dvs ds) (hx : Passes CX X E)
    (ha : PA X (e :: es) t) (hdb : (x == ("__debug__" : Str)) = false := by decide) (he : starEach (e :: es) X.env = (false, eval e X.env) :: starEach es X.env := by rfl) (hpl : (backTo pos (starEach es X.env)).any (·.1) = false := by rfl) :
    PE X (.Call (.Name x p) (e :: es) [] pos) (tCall sp dvs E t) := by
  intro pins s σ H Q I h
  refine wpAny_Call_Name_kw (ld_glob I hg hm ?_ hdb)
  refine PySem.W.callWith_K (h₀ := X.base) I.ok.mod.kin hk (thn (ha pos pins s σ H _ I h) fun us s1 ⟨vs, H1, I1, r, q⟩ => ⟨I1.kIn, ?_⟩) he hpl
  exact run_fn F hr hb hd hx I1 r q
/-- o.m(e, ..) -/
theorem pe_meth {pl : Sem Bool} (he : PE X o ta) (c : Cls X.K C) (hm : Meth X.K C m f) (F : FnOk X.prog X.w X.K X.mg X.base CX k f fd ps sp) (hr : Room k X.A) (hb : Binds X.K fd ps ds) (hd : Vals dvs ds) (hx : Passes CX X E) (ha : PA X (e :: es) t)
    (hst : starEach (e :: es) X.env = (false, eval e X.env) :: starEach es X.env := by rfl) (hpl : (backTo pos (starEach es X.env)).any (·.1) = false := by rfl)
    (ht : eval (.Call (.Attribute o m apos) (e :: es) [] pos) X.env = (do
      let ov ← eval o X.env
      standAt apos.atName
      let (f, first) ← holding [ov] (getMethod ov m pl)
      callWith pos f first (backTo pos (starEach (e :: es) X.env)) (backToKw pos (keywordEach [] X.env))) := by rfl) :
    PE X (.Call (.Attribute o m apos) (e :: es) [] pos) (tMeth C m sp dvs E ta t) := by
  intro pins s σ H Q I h
  refine PySem.W.methodCall_KW (pl := pl) (thn (he pins s σ H _ I h) fun u s1 hh9 => ?_) ht
  obtain ⟨x, H1, I1, rx, a, dx, fs, ex, ea, l, q⟩ := hh9
  subst ex
  obtain rfl : u = Value.ref a := rx
  refine getmeth_ok I1 ea c hm l ?_
  refine PySem.W.callWith_K (first := [.ref a]) (h₀ := X.base) I.ok.mod.kin hm.kp (thn (ha pos pins s1 σ H1 _ I1 q) fun us s2 ⟨vs, H2, I2, r, q2⟩ => ⟨I2.kIn, ?_⟩) hst hpl
  exact run_fn (us := .ref a :: us) (vs := .ref a :: vs) F hr hb hd hx I2 (.cons rfl r) q2
/-- what a class must have to be made -/
structure Mk (K : PySem.W.Frag) (C f : Addr) : Prop where
  makes : PySem.W.makesIn K C = true
  init : PySem.W.findIn K (.ref C) "__init__" = some (some (.ref f))
  fn : PySem.W.isFn K (.ref f) = true
  kp : PySem.W.keepIn K (.ref C) = true

theorem run_make {pins : List (Addr × Obj)} {σ : St} {H : Hp} {s : Shared} {Q : VK} {us : List Value} {vs : List V} (M : Mk X.K C f) (F : FnOk X.prog X.w X.K X.mg X.base CX k f fd ps sp) (hr : Room (k + 1) X.A) (hb : Binds X.K fd ps ds) (hd : Vals dvs ds)
    (hx : Passes CX X E) (I : Inv X pins σ H s) (r : Vals vs us)
    (h : ∀ x dx, H x = none → H dx = none → dx ≠ x → sp (.ref x :: (vs ++ dvs)) (upd (upd H dx (.own x)) x (.ins C dx [])) (fun v H2 => v = .non ∧ Q (.ref x) H2) E) :
    wpAny (model X.prog X.w) X.A (call (.ref C) us) (EP X pins σ Q) X.xe s := by
  have hq := h (s.heap.objs.size + 1) s.heap.objs.size (I.hok.fresh (Nat.le_succ _)) (I.hok.fresh (Nat.le_refl _)) (Nat.ne_of_lt (Nat.lt_succ_self _))
  have I2 := Inv.made (C := C) I
  have r2 : Vals (V.ref (s.heap.objs.size + 1) :: (vs ++ dvs)) (Value.ref (s.heap.objs.size + 1) :: (us ++ ds)) := .cons rfl (r.append hd)
  have hl : (Value.ref (s.heap.objs.size + 1) :: us ++ ds).length = ps.length := by
    have e := r2.length
    rw [F.len _ _ _ _ hq] at e
    exact e.symm
  refine wpAny_call (make_map (f := f) I.kIn M.makes M.init (beq_iff_eq.mp M.fn) (codeAny_mono (F.run _ X.stack _ _ ⟨Value.ref (s.heap.objs.size + 1) :: us, []⟩ (Value.ref (s.heap.objs.size + 1) :: (us ++ ds)) _ _ E (hr.make C us [])
    (I2.env0.make C us []) (hb _ (Value.ref (s.heap.objs.size + 1) :: us) I2.kIn hl) r2 hq) fun r s' hq' => ?_))
  cases r with
  | error e => exact hx pins σ _ _ e s' I2 hq'
  | ok fl =>
    cases fl with
    | ret u =>
      obtain ⟨v, H', I3, rv, ev, q3⟩ := I2.after hq'
      subst ev
      exact ⟨rv, ⟨V.ref (s.heap.objs.size + 1), H', I3, rfl, q3⟩⟩
    | next => exact False.elim hq'
    | brk => exact False.elim hq'
    | cont => exact False.elim hq'
theorem pe_make (M : Mk X.K C f) (F : FnOk X.prog X.w X.K X.mg X.base CX k f fd ps sp) (hr : Room (k + 1) X.A) (hg : Gl X x) (hm : X.mg x = some (.ref C)) (hb : Binds X.K fd ps ds) (hd : Vals dvs ds) (hx : Passes CX X E)
    (ha : PA X (e :: es) t) (hdb : (x == ("__debug__" : Str)) = false := by decide) (he : starEach (e :: es) X.env = (false, eval e X.env) :: starEach es X.env := by rfl) (hpl : (backTo pos (starEach es X.env)).any (·.1) = false := by rfl) :
    PE X (.Call (.Name x p) (e :: es) [] pos) (tMake C sp dvs E t) := by
  intro pins s σ H Q I h
  refine wpAny_Call_Name_kw (ld_glob I hg hm ?_ hdb)
  refine PySem.W.callWith_K (h₀ := X.base) I.ok.mod.kin M.kp (thn (ha pos pins s σ H _ I h) fun us s1 ⟨vs, H1, I1, r, q⟩ => ⟨I1.kIn, ?_⟩) he hpl
  exact run_make M F hr hb hd hx I1 r q
end

/-! ### keywords -/
section
variable {X : Cx} {CX : CXT} {k : Nat} {f C : Addr} {fd : FuncData} {ps ks : List Str} {sp : Sp} {E : XK} {x m : Str} {p pos apos kpos : Pos} {e o : Expr} {es : List Expr} {kws : List Keyword} {te ta : TE} {t tk : TA} {nm : Option Str}
variable {g : List Value → List Value → List Value} {gV : List V → List V → List V}
end

/-! ### a def's body keeps its promise -/
/-- names: the parameters first -/
structure FnScope (N P : List Str) (sc : Scope) : Prop where
  kind : sc.kind = .function
  co : sc.isCoroutine = false
  gen : sc.isGenerator = false
  nd : N.Nodup
  pre : N.take P.length = P
  par : ∀ x ∈ P, sc.names.lookup x = some .local ∨ sc.names.lookup x = some .cell
  nofree : ∀ y ∈ sc.names, y.2 ≠ .free

theorem bindL_out {kindOf : Str → Option NameKind} {x : Str} : ∀ {binds : List (Str × Value)} {m : Str → Option Value}, (∀ v, (x, v) ∉ binds) → bindL kindOf binds m x = m x
  | [], _, _ => rfl
  | (n, v) :: r, m, h => by
    unfold bindL
    rw [bindL_out fun w hw => h w (List.mem_cons_of_mem _ hw)]
    split
    · have : x ≠ n := by rintro rfl; exact h v List.mem_cons_self
      simp [this]
    · rfl
theorem bindC_out {kindOf : Str → Option NameKind} {x : Str} : ∀ {binds : List (Str × Value)} {m : Str → Option Value}, (∀ v, (x, v) ∉ binds) → bindC kindOf binds m x = m x
  | [], _, _ => rfl
  | (n, v) :: r, m, h => by
    unfold bindC
    rw [bindC_out fun w hw => h w (List.mem_cons_of_mem _ hw)]
    split
    · rfl
    · have : x ≠ n := by rintro rfl; exact h v List.mem_cons_self
      simp [this]
theorem bindL_get {kindOf : Str → Option NameKind} {x : Str} {v : Value} : ∀ {P : List Str} {vs : List Value} {i : Nat} {m : Str → Option Value}, P.Nodup → P[i]? = some x → vs[i]? = some v → kindOf x = some .local →
    bindL kindOf (P.zip vs) m x = some v
  | [], _, _, _, _, h, _, _ => by simp at h
  | _ :: _, [], _, _, _, _, h, _ => by simp at h
  | p :: P, w :: vs, 0, m, nd, h1, h2, hk => by
    simp at h1 h2; subst h1; subst h2
    show bindL kindOf ((p, w) :: P.zip vs) m p = _
    unfold bindL
    rw [bindL_out fun v hv => (List.nodup_cons.mp nd).1 (List.of_mem_zip hv).1, if_pos hk]
    simp
  | p :: P, w :: vs, i + 1, m, nd, h1, h2, hk => by
    show bindL kindOf ((p, w) :: P.zip vs) m x = _
    unfold bindL
    exact bindL_get (i := i) (List.nodup_cons.mp nd).2 (by simpa using h1) (by simpa using h2) hk
theorem bindC_get {kindOf : Str → Option NameKind} {x : Str} {v : Value} : ∀ {P : List Str} {vs : List Value} {i : Nat} {m : Str → Option Value}, P.Nodup → P[i]? = some x → vs[i]? = some v → kindOf x ≠ some .local →
    bindC kindOf (P.zip vs) m x = some v
  | [], _, _, _, _, h, _, _ => by simp at h
  | _ :: _, [], _, _, _, _, h, _ => by simp at h
  | p :: P, w :: vs, 0, m, nd, h1, h2, hk => by
    simp at h1 h2; subst h1; subst h2
    show bindC kindOf ((p, w) :: P.zip vs) m p = _
    unfold bindC
    rw [bindC_out fun v hv => (List.nodup_cons.mp nd).1 (List.of_mem_zip hv).1, if_neg hk]
    simp
  | p :: P, w :: vs, i + 1, m, nd, h1, h2, hk => by
    show bindC kindOf ((p, w) :: P.zip vs) m x = _
    unfold bindC
    exact bindC_get (i := i) (List.nodup_cons.mp nd).2 (by simpa using h1) (by simpa using h2) hk

/-- the names' values at the entry -/
noncomputable def start (N : List Str) (vs : List V) : St := vs.map some ++ List.replicate (N.length - vs.length) none

/-- the context of a def's body, at its entry; an exception leaves the frame, then lies as CX says -/
noncomputable def cxOf (CX : CXT) (P : Program) (w : World) (K : PySem.W.Frag) (mg : Str → Option Value) (base : Heap) (N : List Str) (qual : Str) (scope : Scope) (f : Addr) (cd : Value) (A : Around) (outer : List Env) (s : Shared) (H : Hp) (E : XK) : Cx where
  prog := P
  w := w
  K := K
  mg := mg
  base := base
  A := A.deeper (envOfC qual scope s.heap.objs.size f cd)
  N := N
  s₀ := s
  H₀ := H
  env := envOfC qual scope s.heap.objs.size f cd
  outer := outer
  stack := envOfC qual scope s.heap.objs.size f cd :: outer
  ex := []
  calm := true
  fn := fun _ => true
  pn := []
  xe := fun e s' => wpAny (model P w) (A.deeper (envOfC qual scope s.heap.objs.size f cd)) (leaving (envOfC qual scope s.heap.objs.size f cd) e) (fun _ s'' => CX outer H s E e s'') (fun e' s'' => CX outer H s E e' s'') s'

theorem cell_has {sc : Scope} {n : Nat} {x : Str} (h : sc.names.lookup x = some .cell) : ∃ c, (cellsFrom n sc.names []).lookup x = some c := by
  have q := PySem.W.cellsFrom_some sc.names n [] (.inl h)
  exact Option.isSome_iff_exists.mp q

theorem inv_start {CX : CXT} {P : Program} {w : World} {K : PySem.W.Frag} {mg : Str → Option Value} {base : Heap} {N ps : List Str} {qual : Str} {scope : Scope} {f : Addr} {cd : Value} {A : Around} {outer : List Env} {s s1 : Shared} {H : Hp} {E : XK} {us : List Value} {vs : List V}
    (S : FnScope N ps scope) (hd : A.handled = none) (e0 : Env0 P w K mg base A outer s H) (hl : vs.length = ps.length) (r : Vals vs us)
    (x : InCallC s s.heap.objs.size (bindL (envOfC qual scope s.heap.objs.size f cd).kindOf (ps.zip us) fun _ => none) (cellsFrom (s.heap.objs.size + 1) scope.names []) (bindC (envOfC qual scope s.heap.objs.size f cd).kindOf (ps.zip us) fun _ => none) s1) :
    Inv (cxOf CX P w K mg base N qual scope f cd A outer s H E) [] (start N vs) H s1 := by
  have hpl : ps.length ≤ N.length := by have := congrArg List.length S.pre; rw [List.length_take] at this; omega
  obtain ⟨h1, tk, rfl, hk⟩ := x.done
  have noA : ∀ b : Addr, b ∉ (cxOf CX P w K mg base N qual scope f cd A outer s H E).ex := fun b z => absurd (show b ∈ ([] : List Addr) from z) (by simp)
  refine ⟨⟨e0.mod, S.kind, rfl, rfl, Nat.le_refl _, fun y z c h1 h2 => ?_, fun y hy => ?_, fun y c _ h => ?_, fun _ => hd, Around.frames_deeper e0.frames, .inr ⟨rfl, rfl⟩, fun b z => absurd z (noA b), e0.bs, e0.bsz, fun b _ _ => noA b, fun b z => absurd z (noA b), e0.funs, e0.frf⟩,
    rfl, e0.bare, Un.kept hk, ⟨_, x.toInCall.ns, fun i y v h1 h2 h3 => ?_⟩, fun y c h => ⟨_, x.cell y c h⟩, e0.hok.fresh (Nat.le_refl _), fun y c h => ?_, fun p hp => absurd (show p ∈ ([] : List (Addr × Obj)) from hp) (by simp), e0.hok.kept hk, ?_⟩
  · exact name_of_addr x.apart (PySem.mem_of_lookup h1) (PySem.mem_of_lookup h2)
  · have hy : scope.names.lookup y = some .cell ∨ scope.names.lookup y = some .free := hy
    rcases hy with hy | hy
    · exact cell_has hy
    · exact absurd rfl (S.nofree _ (PySem.mem_of_lookup hy))
  · exact Nat.le_of_lt (x.above y c (PySem.mem_of_lookup h))
  · have hi : i < vs.length := by
      unfold start at h2
      by_cases hi : i < vs.length
      · exact hi
      · rw [List.getElem?_append_right (by simpa using hi)] at h2
        rw [List.getElem?_replicate] at h2
        split at h2 <;> cases h2
    have ha : vs[i]? = some v := by
      unfold start at h2
      rw [List.getElem?_append_left (by simpa using hi), List.getElem?_map] at h2
      cases e : vs[i]? with
      | none => rw [e] at h2; cases h2
      | some a => rw [e] at h2; cases h2; rfl
    obtain ⟨u, hu, rv⟩ := r.get ha
    have hp : ps[i]? = some y := by
      rw [← S.pre, List.getElem?_take_of_lt (by omega)]; exact h1
    have ndP : ps.Nodup := by rw [← S.pre]; exact S.nd.sublist (List.take_sublist _ _)
    refine ⟨u, rv, ?_⟩
    rcases S.par y (List.mem_of_getElem? hp) with k | k
    · exact .inl ⟨k, bindL_get ndP hp hu k⟩
    · obtain ⟨c, e⟩ := cell_has (n := s.heap.objs.size + 1) k
      refine .inr ⟨.inl k, c, e, ?_⟩
      have q := x.cell y c e
      rw [bindC_get ndP hp hu (by show scope.names.lookup y ≠ _; rw [k]; decide)] at q
      exact q
  · exact e0.hok.fresh (Nat.le_of_lt (x.above y c (PySem.mem_of_lookup h)))
  · unfold start
    show _ = N.length
    rw [List.length_append, List.length_map, List.length_replicate]
    omega

/-- THE RULE: a def (or a method) of the text, by its body. The body's reading t is chosen for each entry; it is run at the parameters' values -/
theorem fn_of {CX : CXT} {P : Program} {w : World} {K : PySem.W.Frag} {mg : Str → Option Value} {base : Heap} {k : Nat} {f : Addr} {name qual : Str} {params : Arguments} {body : List Stmt} {scope : Scope} {dV kV doc pm cdv ct oc : Value} {an od : Option Addr}
    {osl : Array (Option Value)} {N ps : List Str} {sp : Sp} (lk : K.lookup f = some ⟨oc, od, .func (PySem.W.fnOf name qual params body scope dV kV doc pm an cdv ct), osl⟩) (hcd : PySem.W.codeIn K cdv qual = true) (S : FnScope N ps scope)
    (len : ∀ vs H Q E, sp vs H Q E → vs.length = ps.length)
    (hbody : ∀ (A : Around) (outer : List Env) (s : Shared) (H : Hp) (vs : List V) (Q : VK) (E : XK), Room k (A.deeper (envOfC qual scope s.heap.objs.size f cdv)) → sp vs H Q E →
      ∃ t, PSs (cxOf CX P w K mg base N qual scope f cdv A outer s H E) body t ∧ t { nx := fun _ H' => Q .non H', rt := Q } (start N vs) H) :
    FnOk P w K mg base CX (k + 1) f (PySem.W.fnOf name qual params body scope dV kV doc pm an cdv ct) ps sp := by
  refine ⟨len, fun A outer s H args us vs Q E hr e0 hb r hsp => ?_⟩
  have hl := len _ _ _ _ hsp
  have KX : K.In s.heap := e0.mod.kin.keeps fun b o e => (e0.bs b o e).1
  have lim : s.heap.NoLimit := e0.mod.nolimit.keeps fun b o e => (e0.bs b o e).1
  have hkind : ∀ y ∈ ps.zip us, scope.names.lookup y.1 = some .local ∨ (scope.names.lookup y.1 = some .cell ∧ ((cellsFrom (s.heap.objs.size + 1) scope.names []).lookup y.1).isSome = true) := fun ⟨n, v⟩ hy => by
    rcases S.par n (List.of_mem_zip hy).1 with q | q
    · exact .inl q
    · exact .inr ⟨q, PySem.W.cellsFrom_some _ _ _ (.inl q)⟩
  refine codeAny_call_function hr.depth (KX _ _ lk) rfl S.co S.gen rfl (PySem.W.codeRec_of KX hcd) (hb _ _ _ _ ?_)
  refine wpAny_newFunctionEnv_cells S.kind hkind fun env he s1 x => ?_
  subst he
  refine ⟨lim.keeps x.toInCall.keep, codeAny_func ?_⟩
  obtain ⟨t, ht, hq⟩ := hbody A outer s H vs Q E (hr.deeper _) hsp
  have I : Inv (cxOf CX P w K mg base N qual scope f cdv A outer s H E) [] (start N vs) H s1 := inv_start S hr.hd e0 hl r x
  refine wpAny_mono (ht [] s1 (start N vs) H _ I hq) (fun fl s' hs => ?_) fun e s' hs => hs
  have fin : ∀ {σ' : St} {H' : Hp} {v : V} {u : Value}, Inv (cxOf CX P w K mg base N qual scope f cdv A outer s H E) [] σ' H' s' → RelV v u → Q v H' → CE outer P w H s Q u s' :=
    fun {σ' H' v u} J rv q => ⟨v, H', J.os, J.bare, J.base, J.hok, rv, q⟩
  cases fl with
  | ret u =>
    obtain ⟨v, σ', H', J, rv, q⟩ := hs
    exact fin J rv q
  | next =>
    obtain ⟨σ', H', J, q⟩ := hs
    exact fin (v := V.non) (u := Value.none) J rfl q
  | brk =>
    obtain ⟨_, _, _, q⟩ := hs
    exact False.elim q
  | cont =>
    obtain ⟨_, _, _, q⟩ := hs
    exact False.elim q
end L2

namespace L2
open PySem PySem.Spec PyProof.Rows
section
variable {X : Cx} {x : Str} {p pos : Pos} {e : Expr} {es : List Expr} {t : TA} {id T : String} {r : List V → Hp → VK → Prop}

noncomputable def tCB (r : List V → Hp → VK → Prop) (t : TA) : TE := fun σ H Q => t σ H fun vs H1 => r vs H1 Q
/-- f(e, ..), f a built-in function -/
theorem pe_callB (hc : CallR X (.builtin id) r) (hg : Gl X x) (hm : X.mg x = none) (hv : bootBuiltins x = some (.builtin id)) (ha : PA X (e :: es) t) (hn : x ≠ "__name__" := by decide) (hdb : (x == ("__debug__" : Str)) = false := by decide)
    (he : starEach (e :: es) X.env = (false, eval e X.env) :: starEach es X.env := by rfl) (hpl : (backTo pos (starEach es X.env)).any (·.1) = false := by rfl) : PE X (.Call (.Name x p) (e :: es) [] pos) (tCB r t) := by
  intro pins s σ H Q I h
  refine wpAny_Call_Name_kw (ld_blt I hg hm hv ?_ hn hdb)
  exact PyProof.Rows.callWith_builtin1 (thn (ha pos pins s σ H _ I h) fun us s1 ⟨vs, H1, I1, r1, q1⟩ => hc pins s1 σ H1 vs us Q I1 r1 q1) he hpl
/-- T(e, ..), T a built-in type -/
theorem pe_callTy (hc : CallR X (.type T) r) (hg : Gl X x) (hm : X.mg x = none) (hv : bootBuiltins x = some (.type T)) (ha : PA X (e :: es) t) (hn : x ≠ "__name__" := by decide) (hdb : (x == ("__debug__" : Str)) = false := by decide)
    (he : starEach (e :: es) X.env = (false, eval e X.env) :: starEach es X.env := by rfl) (hpl : (backTo pos (starEach es X.env)).any (·.1) = false := by rfl) : PE X (.Call (.Name x p) (e :: es) [] pos) (tCB r t) := by
  intro pins s σ H Q I h
  refine wpAny_Call_Name_kw (ld_blt I hg hm hv ?_ hn hdb)
  exact PyProof.Rows.callWith_type1 (thn (ha pos pins s σ H _ I h) fun us s1 ⟨vs, H1, I1, r1, q1⟩ => hc pins s1 σ H1 vs us Q I1 r1 q1) he hpl
end
end L2

namespace HT
open PySem PyProof.Rows

section
open PySem.SeqAt
open PySem.AutoSeq1 (wpAny_loadPart')
open PySem.MeetsSeq PySem.MeetsSeq2 PySem.MeetsSeq3

end

section
variable {prog : Program} {w : World} {A : Around} {E : Value → Shared → Prop} {s : Shared}

/-! ### t[a:b], not the whole -/
/-- a slice's bound as a place among n (d where it is left out) -/
noncomputable def sIx (n d : Nat) : Option Int → Nat
  | none => d
  | some v => if v < 0 then (v + (n : Int)).toNat else min v.toNat n
end
end HT

namespace L2
open PySem PySem.Spec PyProof.Rows

/-! ### the parts of a slice -/
noncomputable abbrev TO := St → Hp → (Option Int → Hp → Prop) → Prop
/-- a slice's part (left out, or an int) -/
noncomputable def PO (X : Cx) (e : Option Expr) (t : TO) : Prop :=
  ∀ (pins : List (Addr × Obj)) (s : Shared) (σ : St) (H : Hp) (Q : Option Int → Hp → Prop), Inv X pins σ H s → t σ H Q →
    wpAny (model X.prog X.w) X.A (evalPart e X.env) (fun u s' => ∃ o H', Inv X pins σ H' s' ∧ IsPart u o ∧ Q o H') X.xe s
noncomputable def tNoPart : TO := fun _ H Q => Q none H
noncomputable def tPart (t : TE) : TO := fun σ H Q => t σ H fun x H1 => ∃ i, x = .int i ∧ Q (some i) H1

section
variable {X : Cx} {e : Expr} {te : TE} {lo hi : Option Expr} {tl th : TO} {pos p2 : Pos}

theorem po_none : PO X none tNoPart := by
  intro pins s σ H Q I h
  rw [evalPart_none]
  exact wpAny_pure ⟨none, H, I, .none, h⟩
theorem po_some (h : PE X e te) : PO X (some e) (tPart te) := by
  intro pins s σ H Q I hw
  rw [evalPart_some]
  refine thn (h pins s σ H _ I hw) fun u s1 hh9 => ?_
  obtain ⟨x, H1, I1, r1, q1⟩ := hh9
  obtain ⟨i, rfl, q⟩ := q1
  obtain ⟨t, rfl⟩ := r1
  exact ⟨some i, H1, I1, .int i t, q⟩

/-- what a slice of a value is, by values: the slice object stands at sl -/
noncomputable def SlR (X : Cx) (r : V → Option Int → Option Int → Hp → VK → Prop) : Prop :=
  ∀ (pins : List (Addr × Obj)) (s : Shared) (σ : St) (H : Hp) (x : V) (v vl vu : Value) (lo hi : Option Int) (sl : Addr) (Q : VK), Inv X pins σ H s → RelV x v → s.heap.IsSliceOf sl vl vu .none → IsPart vl lo → IsPart vu hi → r x lo hi H Q →
    ∃ T id, typeLookup (.type T) "__getitem__" = pure (some (.builtin id)) ∧ s.TypeIs v T ∧ wpAny (model X.prog X.w) X.A (getItem v (.ref sl)) (EP X pins σ Q) X.xe s
noncomputable def tSl (r : V → Option Int → Option Int → Hp → VK → Prop) (te : TE) (tl th : TO) : TE := fun σ H Q => te σ H fun x H1 => tl σ H1 fun l H2 => th σ H2 fun u H3 => r x l u H3 Q
/-- a[lo:hi], any a -/
theorem pe_slice {r : V → Option Int → Option Int → Hp → VK → Prop} (hr : SlR X r) (he : PE X e te) (hl : PO X lo tl) (hu : PO X hi th) : PE X (.Subscript e (.Slice lo hi none p2) pos) (tSl r te tl th) := by
  intro pins s σ H Q I h
  refine Subscript_ (thn (he pins s σ H _ I h) fun v s1 hh9 => ?_)
  obtain ⟨x, H1, I1, r1, q1⟩ := hh9
  refine wpAny_Slice (thn (hl pins s1 σ H1 _ I1 q1) fun vl s2 ⟨l, H2, I2, pl, q2⟩ => thn (hu pins s2 σ H2 _ I2 q2) fun vu s3 hh9 => ?_)
  obtain ⟨u, H3, I3, pu, q3⟩ := hh9
  rw [evalPart_none]
  refine wpAny_pure ?_
  have I4 : Inv X pins σ H3 { s3 with heap := s3.heap.push { cls := .type "slice", data := .fields #[vl, vu, .none] } } := I3.kept (t' := s3.toks) fun b ob q => Heap.get?_push_of_some _ q
  obtain ⟨T, id, hT, ht, hg⟩ := hr pins { s3 with heap := s3.heap.push { cls := .type "slice", data := .fields #[vl, vu, .none] } } σ H3 x v vl vu l u s3.heap.objs.size Q I4 r1 (Heap.IsSliceOf.new ..) pl pu q3
  show wpAny (model X.prog X.w) X.A (subscriptTail e (.Slice lo hi none p2) v (.ref s3.heap.objs.size)) (EP X pins σ Q) X.xe { s3 with heap := s3.heap.push { cls := .type "slice", data := .fields #[vl, vu, .none] } }
  exact tail_any (ops := [.ref s3.heap.objs.size, v]) ht hT hg (by with_unfolding_all rfl)

/-- the items of xs[lo:hi] -/
noncomputable def cutV (xs : List V) (lo hi : Option Int) : List V := (xs.drop (HT.sIx xs.length 0 lo)).take (HT.sIx xs.length xs.length hi - HT.sIx xs.length 0 lo)
theorem cutV_length (xs : List V) (lo hi : Option Int) : (cutV xs lo hi).length ≤ xs.length := by
  unfold cutV
  rw [List.length_take, List.length_drop]
  omega
/-! ### t < u, t + u -/
end
end L2

namespace L2
open PySem PySem.Spec PyProof.Rows

/-! ### places -/
/-- the place that an index of any sign means -/
noncomputable def ixN (n : Nat) (i : Int) : Option Nat := if 0 ≤ i then (if i < n then some i.toNat else none) else if -(n : Int) ≤ i then some (i + n).toNat else none
noncomputable def atI {α : Type} (xs : List α) (i : Int) : Option α := (ixN xs.length i).bind fun j => xs[j]?
theorem ixN_seq {n : Nat} {i : Int} {j : Nat} (h : ixN n i = some j) : seqIndex? i n = some j ∧ j < n ∧ -(n : Int) ≤ i ∧ i < n := by
  unfold ixN at h
  by_cases h0 : 0 ≤ i
  · rw [if_pos h0] at h
    by_cases h1 : i < n
    · rw [if_pos h1] at h
      have e : i.toNat = j := Option.some.inj h
      exact ⟨by rw [seqIndex_of h0 h1, e], by omega, by omega, h1⟩
    · rw [if_neg h1] at h; cases h
  · rw [if_neg h0] at h
    by_cases h1 : -(n : Int) ≤ i
    · rw [if_pos h1] at h
      have e : (i + n).toNat = j := Option.some.inj h
      exact ⟨by rw [seqIndex_neg (by omega) h1, e], by omega, h1, by omega⟩
    · rw [if_neg h1] at h; cases h
theorem atI_get {α : Type} {xs : List α} {i : Int} {v : α} (h : atI xs i = some v) : ∃ j, seqIndex? i xs.length = some j ∧ xs[j]? = some v ∧ j < xs.length ∧ -(xs.length : Int) ≤ i ∧ i < xs.length := by
  unfold atI at h
  cases e : ixN xs.length i with
  | none => rw [e] at h; cases h
  | some j =>
    rw [e] at h
    obtain ⟨h1, h2, h3, h4⟩ := ixN_seq e
    exact ⟨j, h1, h, h2, h3, h4⟩
theorem atI_nat {α : Type} {xs : List α} {j : Nat} {v : α} (h : xs[j]? = some v) : atI xs (j : Int) = some v := by
  have hj : j < xs.length := (List.getElem?_eq_some_iff.mp h).1
  have e : ixN xs.length (j : Int) = some j := by
    unfold ixN
    rw [if_pos (by omega), if_pos (by omega)]; simp
  unfold atI; rw [e]; exact h
theorem atI_last {α : Type} (xs : List α) (v : α) : atI (xs ++ [v]) (-1) = some v := by
  have hl : (xs ++ [v]).length = xs.length + 1 := by simp
  have e : ixN (xs ++ [v]).length (-1) = some xs.length := by
    unfold ixN
    rw [hl, if_neg (by decide), if_pos (by omega)]
    congr 1
    omega
  unfold atI
  rw [e]
  show (xs ++ [v])[xs.length]? = some v
  simp

/-! ### what may be subscripted -/
/-- what stands as an index of a plain subscript -/
noncomputable def PlainIx (b : Expr) : Prop := ∀ o i, subscripted b false o i = operate [o, i] (getItem o i)
/-- a subscript by values -/
noncomputable def IxR (X : Cx) (r : R2) : Prop :=
  ∀ (value slice : Expr) (pins : List (Addr × Obj)) (s : Shared) (σ : St) (H : Hp) (x y : V) (v u : Value) (Q : VK), Inv X pins σ H s → RelV x v → RelV y u → r x y H Q →
    subscripted slice false v u = operate [v, u] (getItem v u) → wpAny (model X.prog X.w) X.A (subscriptTail value slice v u) (EP X pins σ Q) X.xe s
/-- a call of a builtin's method by values: the receiver, the arguments -/
noncomputable def MtR (X : Cx) (id : String) (r : V → List V → Hp → VK → Prop) : Prop :=
  ∀ (pins : List (Addr × Obj)) (s : Shared) (σ : St) (H : Hp) (x : V) (xs : List V) (v : Value) (us : List Value) (Q : VK), Inv X pins σ H s → RelV x v → Vals xs us → r x xs H Q →
    wpAny (model X.prog X.w) X.A (call (.builtin id) (v :: us)) (EP X pins σ Q) X.xe s
section
variable {X : Cx} {a b : Expr} {ta tb : TE} {pos : Pos}
/-- a[b] -/
theorem pe_ix {r : R2} (hr : IxR X r) (ha : PE X a ta) (hb : PE X b tb) (hs : PlainIx b) : PE X (.Subscript a b pos) (tOp r ta tb) := by
  intro pins s σ H Q I h
  exact Subscript_ (binT ha hb I h fun v u s2 x y H2 I2 rx ry q => hr a b pins s2 σ H2 x y v u Q I2 rx ry q (hs _ _))

noncomputable def rIxL (K : PySem.W.Frag) : R2 := fun x y H Q => ∃ p xs i v, x = .ref p ∧ y = .int i ∧ SqL K H p xs ∧ atI xs i = some v ∧ Q v H
noncomputable def rIxT (K : PySem.W.Frag) : R2 := fun x y H Q => ∃ p xs i v, x = .ref p ∧ y = .int i ∧ SqT K H p xs ∧ atI xs i = some v ∧ Q v H
theorem ix_list : IxR X (rIxL X.K) := by
  intro value slice pins s σ H x y v u Q I rx ry h hs
  obtain ⟨p, xs, i, z, rfl, rfl, hq, he, q⟩ := h
  cases rx
  obtain ⟨t, rfl⟩ := ry
  obtain ⟨its, r, pl, hz⟩ := I.list hq
  obtain ⟨j, h1, h2, h3, h4, h5⟩ := atI_get he
  obtain ⟨w, ew, rw'⟩ := r.get h2
  have hl := r.length
  have hn := line63
  have fin : EP X pins σ Q w s := ⟨z, H, I, rw', q⟩
  by_cases h0 : 0 ≤ i
  · have hj : i.toNat = j := by
      rw [seqIndex_of h0 h5] at h1
      exact Option.some.inj h1
    exact item_listR pl.isList h0 (by omega) (by rw [hj]; simpa using ew) fin hs
  · have hj : (i + (its.toArray.size : Int)).toNat = j := by
      rw [seqIndex_neg (by omega) h4] at h1
      rw [List.size_toArray, ← hl]
      exact Option.some.inj h1
    exact subscriptTail_builtinR (x := w) pl.isList.typeIs slot_list_getitem.lookup
      (wpAny_getItem_list_neg (Q := fun r s' => r = w ∧ EP X pins σ Q r s') pl.isList (by omega) (by rw [List.size_toArray] <;> omega) (by omega) (by rw [hj]; simpa using ew) ⟨rfl, fin⟩) hs
theorem ix_tup : IxR X (rIxT X.K) := by
  intro value slice pins s σ H x y v u Q I rx ry h hs
  obtain ⟨p, xs, i, z, rfl, rfl, hq, he, q⟩ := h
  cases rx
  obtain ⟨t, rfl⟩ := ry
  obtain ⟨its, r, pl, hz⟩ := I.tuple hq
  obtain ⟨j, h1, h2, h3, h4, h5⟩ := atI_get he
  obtain ⟨w, ew, rw'⟩ := r.get h2
  have hl := r.length
  have hn := line63
  have fin : EP X pins σ Q w s := ⟨z, H, I, rw', q⟩
  exact subscriptTail_builtinR (x := w) pl.typeIs slot_tuple_getitem.lookup
    (getItem_tuple (j := j) (Q := fun r s' => r = w ∧ EP X pins σ Q r s') pl (by omega) (by omega) (by rw [List.size_toArray, ← hl]; exact h1) (by simpa using ew) ⟨rfl, fin⟩) hs
/-! ### xs[i] = v, any sign -/
/-- the list's object behind a store -/
theorem mapSeq_set (its : List Value) (n j : Nat) (u : Value) : Obj.mapSeq (·.setIfInBounds j u) { cls := .type "list", data := .seq its.toArray n } = { cls := .type "list", data := .seq (its.set j u).toArray n } := by
  simp [Obj.mapSeq]
theorem Inv.lst {pins : List (Addr × Obj)} {σ : St} {H : Hp} {s : Shared} {p : Addr} {xs : List V} (I : Inv X pins σ H s) (h : H p = some (.lst xs)) :
    ∃ (its : List Value) (n : Nat), Vals xs its ∧ s.heap.get? p = some { cls := .type "list", data := .seq its.toArray n } ∧ xs.length ≤ sizeLine := by
  obtain ⟨z, its, n, r, e⟩ := I.hok p _ h
  exact ⟨its, n, r, e, z⟩
/-- the list at p is written by an update of its object -/
theorem Inv.lstUpd {pins : List (Addr × Obj)} {σ : St} {H : Hp} {s : Shared} {p : Addr} {xs ys : List V} {its its' : List Value} {n n' : Nat} {f : Obj → Obj} (I : Inv X pins σ H s) (h : H p = some (.lst xs))
    (ho : s.heap.get? p = some { cls := .type "list", data := .seq its.toArray n }) (hf : f { cls := .type "list", data := .seq its.toArray n } = { cls := .type "list", data := .seq its'.toArray n' }) (r : Vals ys its') (hz : ys.length ≤ sizeLine) (t : Nat) :
    Inv X pins σ (upd H p (.lst ys)) { s with heap := s.heap.update p f, toks := t } := by
  have e : (s.heap.update p f).get? p = some { cls := .type "list", data := .seq its'.toArray n' } := by
    rw [Heap.get?_update_self f ho (by rw [hf] <;> rfl), hf]
  refine I.write (x := p) (e := p) (by rw [h]; trivial) (.inl rfl) (fun b u hb q => (Heap.get?_update_other _ _ (Ne.symm hb)).trans q) ⟨_, e⟩ ?_
  exact ⟨hz, its', n', r, e⟩
noncomputable def rSetL : V → V → V → Hp → (Hp → Prop) → Prop := fun o i v H Q => ∃ p xs k j, o = .ref p ∧ i = .int k ∧ H p = some (.lst xs) ∧ ixN xs.length k = some j ∧ Q (upd H p (.lst (xs.set j v)))
theorem set_list : PSet X rSetL := by
  intro pins s σ H o i v ov iv u Q I ro ri rv h
  obtain ⟨p, xs, k, j, rfl, rfl, hp, hj, q⟩ := h
  cases ro
  obtain ⟨t, rfl⟩ := ri
  obtain ⟨its, n, r, ho, hz⟩ := I.lst hp
  obtain ⟨h1, h2, h3, h4⟩ := ixN_seq hj
  have hl := r.length
  have hn := line63
  have I' : Inv X pins σ (upd H p (.lst (xs.set j v))) { s with heap := s.heap.update p (Obj.mapSeq (·.setIfInBounds j u)) } :=
    I.lstUpd hp ho (mapSeq_set its n j u) (r.set rv j) (by rw [List.length_set]; exact hz) s.toks
  by_cases h0 : 0 ≤ k
  · have hk : k.toNat = j := by
      rw [seqIndex_of h0 h4] at h1
      exact Option.some.inj h1
    exact PySem.W.ki_setAt ho h0 (by omega) (by rw [List.size_toArray, ← hl]; exact h4) (by rw [hk]; exact ⟨_, I', q⟩)
  · have hk : (k + (its.toArray.size : Int)).toNat = j := by
      rw [seqIndex_neg (by omega) h3] at h1
      rw [List.size_toArray, ← hl]
      exact Option.some.inj h1
    exact PySem.W.ki_setBack ho (by omega) (by rw [List.size_toArray, ← hl]; exact h3) (by omega) (by rw [hk]; exact ⟨_, I', q⟩)

/-! ### slices -/
theorem slice_bounds (lo hi : Option Int) (n : Nat) : (sliceBounds lo hi none n).1 = ((HT.sIx n 0 lo : Nat) : Int) ∧ (sliceBounds lo hi none n).2.1 = ((HT.sIx n n hi : Nat) : Int) ∧ (sliceBounds lo hi none n).2.2 = 1 := by
  refine ⟨?_, ?_, rfl⟩
  · cases lo with
    | none => simp [sliceBounds, HT.sIx]
    | some i =>
      simp only [sliceBounds, HT.sIx, Option.getD_none, show (1 : Int) > 0 by decide, if_true]
      by_cases h : i < 0
      · simp only [h, if_true] <;> omega
      · simp only [h, if_false] <;> omega
  · cases hi with
    | none => simp [sliceBounds, HT.sIx]
    | some i =>
      simp only [sliceBounds, HT.sIx, Option.getD_none, show (1 : Int) > 0 by decide, if_true]
      by_cases h : i < 0
      · simp only [h, if_true] <;> omega
      · simp only [h, if_false] <;> omega
theorem slicePick_cut (its : List Value) (lo hi : Option Int) : slicePick its.toArray lo hi none = ((its.drop (HT.sIx its.length 0 lo)).take (HT.sIx its.length its.length hi - HT.sIx its.length 0 lo)).toArray := by
  obtain ⟨h1, h2, h3⟩ := slice_bounds lo hi its.toArray.size
  unfold slicePick
  rw [h1, h2, h3]
  simp only [sliceRange_one, pick_run, List.size_toArray] <;> rfl
/-- xs[lo:hi] of a list: a new list -/
noncomputable def rSlL (K : PySem.W.Frag) : V → Option Int → Option Int → Hp → VK → Prop := fun x lo hi H Q => ∃ a xs, x = .ref a ∧ SqL K H a xs ∧ ∀ p, H p = none → Q (.ref p) (upd H p (.lst (cutV xs lo hi)))
theorem sl_list : SlR X (rSlL X.K) := by
  intro pins s σ H x v vl vu lo hi sl Q I rx hs pl pu h
  obtain ⟨a, xs, rfl, hx, q⟩ := h
  cases rx
  obtain ⟨its, r, ht, hz⟩ := I.list hx
  have hlen := r.length
  refine ⟨"list", _, slot_list_getitem.lookup, ht.isList.typeIs, ?_⟩
  refine wpAny_getItem_list_slice ht.isList hs pl pu .none (by simp) ?_ (by rw [List.size_toArray] <;> omega)
  rw [slicePick_cut, ← hlen]
  refine ⟨.ref s.heap.objs.size, _, I.laid (t' := s.toks) (o := .lst (cutV xs lo hi)) (fun b ob q => Heap.get?_push_of_some _ q) (Nat.le_refl _) ?_, rfl, q _ (I.hok.fresh (Nat.le_refl _))⟩
  exact ⟨Nat.le_trans (cutV_length xs lo hi) hz, _, 0, (r.drop (HT.sIx xs.length 0 lo)).take (HT.sIx xs.length xs.length hi - HT.sIx xs.length 0 lo), Heap.get?_push_size _ rfl⟩

/-! ### in, not in: flat items -/
noncomputable def flatV : V → Bool
  | .non => true
  | .bl _ => true
  | .int _ => true
  | .str _ => true
  | _ => false
/-- == of flat values -/
noncomputable def eqV : V → V → Bool
  | .non, .non => true
  | .bl a, .bl b => a == b
  | .bl a, .int b => (if a then 1 else 0) == b
  | .int a, .bl b => a == (if b then 1 else 0)
  | .int a, .int b => a == b
  | .str a, .str b => a == b
  | _, _ => false
theorem eqAt_V {A : Around} {s : Shared} {y x : V} {u v : Value} (ry : RelV y u) (rx : RelV x v) (fy : flatV y = true) (fx : flatV x = true) : SeqAt.EqAt A s u v (eqV y x) := by
  cases y with
  | non =>
    cases ry
    cases x with
    | non => cases rx; exact SeqAt.EqAt.same _
    | bl b => cases rx; exact SeqAt.EqAt.none_bool b
    | int b => obtain ⟨t, rfl⟩ := rx; exact SeqAt.EqAt.none_int b t
    | str b => obtain ⟨t, rfl⟩ := rx; exact SeqAt.EqAt.none_str b t
    | _ => exact absurd (show false = true from fx) Bool.false_ne_true
  | bl a =>
    cases ry
    cases x with
    | non => cases rx; exact SeqAt.EqAt.bool_none a
    | bl b => cases rx; exact SeqAt.EqAt.bool_bool a b
    | int b => obtain ⟨t, rfl⟩ := rx; exact SeqAt.EqAt.bool_int a b t
    | str b => obtain ⟨t, rfl⟩ := rx; exact SeqAt.EqAt.bool_str a b t
    | _ => exact absurd (show false = true from fx) Bool.false_ne_true
  | int a =>
    obtain ⟨t', rfl⟩ := ry
    cases x with
    | non => cases rx; exact SeqAt.EqAt.int_none a t'
    | bl b => cases rx; exact SeqAt.EqAt.int_bool a t' b
    | int b => obtain ⟨t, rfl⟩ := rx; exact SeqAt.EqAt.int_int a t' b t
    | str b => obtain ⟨t, rfl⟩ := rx; exact SeqAt.EqAt.int_str a t' b t
    | _ => exact absurd (show false = true from fx) Bool.false_ne_true
  | str a =>
    obtain ⟨t', rfl⟩ := ry
    cases x with
    | non => cases rx; exact SeqAt.EqAt.str_none a t'
    | bl b => cases rx; exact SeqAt.EqAt.str_bool a t' b
    | int b => obtain ⟨t, rfl⟩ := rx; exact SeqAt.EqAt.str_int a t' b t
    | str b => obtain ⟨t, rfl⟩ := rx; exact SeqAt.EqAt.str_str a t' b t
    | _ => exact absurd (show false = true from fx) Bool.false_ne_true
  | _ => exact absurd (show false = true from fy) Bool.false_ne_true
/-- the items' answers, read off the values (a value's own answer does not lean on its token) -/
noncomputable def eqU (x : V) (u : Value) : Bool := match u with
  | .none => eqV .non x
  | .bool b => eqV (.bl b) x
  | .int i _ => eqV (.int i) x
  | .str z _ => eqV (.str z) x
  | _ => false
theorem eqU_of {x y : V} {u : Value} (r : RelV y u) (f : flatV y = true) : eqU x u = eqV y x := by
  cases y with
  | non => cases r; rfl
  | bl b => cases r; rfl
  | int i => obtain ⟨t, rfl⟩ := r; rfl
  | str z => obtain ⟨t, rfl⟩ := r; rfl
  | _ => exact absurd (show false = true from f) Bool.false_ne_true
theorem any_eqU {x : V} : ∀ {xs : List V} {us : List Value}, Vals xs us → xs.all flatV = true → us.any (eqU x) = xs.any fun y => eqV y x
  | _, _, .nil, _ => rfl
  | y :: xs, u :: us, .cons r t, f => by
    rw [List.all_cons, Bool.and_eq_true] at f
    rw [List.any_cons, List.any_cons, eqU_of r f.1, any_eqU t f.2]
theorem mem_eqAt {A : Around} {s : Shared} {x : V} {v : Value} (rx : RelV x v) (fx : flatV x = true) : ∀ {xs : List V} {us : List Value}, Vals xs us → xs.all flatV = true → ∀ u ∈ us, SeqAt.EqAt A s u v (eqU x u)
  | _, _, .nil, _ => fun u hu => by cases hu
  | y :: xs, u :: us, .cons r t, f => fun u' hu => by
    rw [List.all_cons, Bool.and_eq_true] at f
    rcases List.mem_cons.mp hu with rfl | hu
    · rw [eqU_of r f.1]; exact eqAt_V r rx f.1 fx
    · exact mem_eqAt rx fx t f.2 u' hu
noncomputable def inV (x : V) (xs : List V) : Bool := xs.any fun y => eqV y x
/-- x in a list or tuple of flat items -/
noncomputable def rIn (K : PySem.W.Frag) (neg : Bool) : R2 := fun x y H Q => ∃ p xs, y = .ref p ∧ (SqL K H p xs ∨ SqT K H p xs) ∧ flatV x = true ∧ xs.all flatV = true ∧ Q (.bl (if neg then !inV x xs else inV x xs)) H
theorem op_in_seq : OpR X (compareOp .In) (rIn X.K false) := by
  intro pins s σ H x y v u Q I rx ry h
  obtain ⟨p, xs, rfl, hq, fx, fs, q⟩ := h
  cases ry
  rcases hq with hq | hq
  · obtain ⟨its, r, pl, hz⟩ := I.list hq
    refine SeqAt.in_listAt (eqU x) pl.isList (fun w hw => mem_eqAt rx fx r fs w (by simpa using hw)) ⟨.bl _, H, I, rfl, ?_⟩
    rw [show its.toArray.any (eqU x) = its.any (eqU x) by simp, any_eqU r fs]
    exact q
  · obtain ⟨its, r, pl, hz⟩ := I.tuple hq
    refine SeqAt.in_tupleAt (eqU x) pl (fun w hw => mem_eqAt rx fx r fs w (by simpa using hw)) ⟨.bl _, H, I, rfl, ?_⟩
    rw [show its.toArray.any (eqU x) = its.any (eqU x) by simp, any_eqU r fs]
    exact q
/-! ### len, list(x), tuple(x) of any list or tuple that is read -/
theorem call_list_of : CallR X (.type "list") (fun xs H Q => ∃ p ys, xs = [.ref p] ∧ (SqL X.K H p ys ∨ SqT X.K H p ys) ∧ ∀ l, H l = none → Q (.ref l) (upd H l (.lst ys))) := by
  intro pins s σ H xs us Q I r h
  obtain ⟨p, ys, rfl, hq, q⟩ := h
  obtain ⟨u, rfl, rx⟩ := vals1 r
  cases rx
  have fin : ∀ (its : List Value), Vals ys its → ys.length ≤ sizeLine → ∀ (h' : Heap) (c' : Nat), (∀ b o', s.heap.get? b = some o' → h'.get? b = some o') →
      h'.get? s.heap.objs.size = some { cls := .type "list", dict := none, data := .seq its.toArray c', slots := #[] } → EP X pins σ Q (.ref s.heap.objs.size) { s with heap := h' } := fun its r' hz h' c' kp e =>
    ⟨.ref s.heap.objs.size, _, I.laid (t' := s.toks) kp (Nat.le_refl _) (show ObjOk X.prog X.w _ h' _ (.lst ys) from ⟨hz, its, c', r', e⟩), rfl, q _ (I.hok.fresh (Nat.le_refl _))⟩
  rcases hq with hq | hq
  · obtain ⟨its, r', pl, hz⟩ := I.list hq
    have hlen := r'.length
    obtain ⟨o, ho, hc, n, hd⟩ := pl.isList
    exact call_list_seq p (.inl rfl) ho hc hd (fun h' c' kp e => fin its r' hz h' c' kp e) (by simp only [List.size_toArray] <;> omega)
  · obtain ⟨its, r', pl, hz⟩ := I.tuple hq
    have hlen := r'.length
    obtain ⟨o, ho, hc, n, hd⟩ := pl
    exact call_list_seq p (.inr rfl) ho hc hd (fun h' c' kp e => fin its r' hz h' c' kp e) (by simp only [List.size_toArray] <;> omega)
/-! ### the call of a builtin's method: o.m(..) -/
/-- the value is of that builtin type -/
noncomputable def tyV (K : PySem.W.Frag) (T : String) (x : V) (H : Hp) : Prop := match x with
  | .str _ => T = "str"
  | .int _ => T = "int"
  | .ref p => (T = "list" ∧ ∃ xs, SqL K H p xs) ∨ (T = "tuple" ∧ ∃ o, K.lookup p = some o ∧ o.cls = .type "tuple" ∧ o.dict = none) ∨
      (T = "dict" ∧ ((∃ kvs, H p = some (.dK kvs)) ∨ ∃ kvs, H p = some (.dT kvs))) ∨ (T = "set" ∧ ∃ S n, H p = some (.set S n))
  | _ => False
theorem tyV_is {pins : List (Addr × Obj)} {σ : St} {H : Hp} {s : Shared} {T : String} {x : V} {v : Value} (I : Inv X pins σ H s) (r : RelV x v) (ty : tyV X.K T x H) :
    s.TypeIs v T ∧ ∀ a, v = .ref a → ∃ ob, s.heap.get? a = some ob ∧ ob.dict = none := by
  cases x with
  | str z =>
    obtain ⟨t, rfl⟩ := r
    cases (show T = "str" from ty)
    exact ⟨typeIs_str s z t, fun _ e => nomatch e⟩
  | int i =>
    obtain ⟨t, rfl⟩ := r
    cases (show T = "int" from ty)
    exact ⟨typeIs_int s i t, fun _ e => nomatch e⟩
  | ref p =>
    cases r
    rcases ty with ⟨rfl, xs, hq⟩ | ⟨rfl, o, hk, hc, hd⟩ | ⟨rfl, hk⟩ | ⟨rfl, S, n, hk⟩
    · obtain ⟨its, _, pl, _⟩ := I.list hq
      refine ⟨pl.isList.typeIs, fun a e => ?_⟩
      cases e
      obtain ⟨o, n, e, c, hd, _⟩ := pl
      exact ⟨o, e, hd⟩
    · refine ⟨⟨o, I.kIn p o hk, hc⟩, fun a e => ?_⟩
      cases e
      exact ⟨o, I.kIn _ o hk, hd⟩
    · have z : ∃ o, s.heap.get? p = some o ∧ o.ExactDict := by
        rcases hk with ⟨kvs, hk⟩ | ⟨kvs, hk⟩
        · obtain ⟨_, _, _, _, o, _, _, e, ex, _⟩ := I.hok p _ hk
          exact ⟨o, e, ex⟩
        · obtain ⟨_, _, _, _, o, _, _, e, ex, _⟩ := I.hok p _ hk
          exact ⟨o, e, ex⟩
      obtain ⟨o, e, ex⟩ := z
      refine ⟨⟨o, e, ex.1⟩, fun a e2 => ?_⟩
      cases e2
      exact ⟨o, e, ex.2.1⟩
    · obtain ⟨o, _, _, _, e, ex, _⟩ := I.hok p _ hk
      refine ⟨⟨o, e, ex.1⟩, fun a e2 => ?_⟩
      cases e2
      exact ⟨o, e, ex.2.1⟩
  | _ => exact False.elim ty
noncomputable def tBM (K : PySem.W.Frag) (T : String) (r : V → List V → Hp → VK → Prop) (to : TE) (t : TA) : TE := fun σ H Q => to σ H fun x H1 => tyV K T x H1 ∧ t σ H1 fun xs H2 => r x xs H2 Q
variable {o e : Expr} {es : List Expr} {to : TE} {t : TA} {name : Str} {apos cpos : Pos} {T id : String} {r : V → List V → Hp → VK → Prop}
theorem pe_bm (pa : PlainAttrs T) (slot : Slot T name id) (hty : typeOf (.builtin id) = pure (.type "method_descriptor")) (hm : MtR X id r) (ho : PE X o to) (ha : PA X (e :: es) t)
    (hbase : attributeBase o name X.env (eval o X.env) = eval o X.env := by rfl)
    (hfew : ((backTo cpos (starEach (e :: es) X.env)).all (fun x => !x.1) && (backToKw cpos (keywordEach [] X.env)).all (fun x => x.1.isSome)
      && decide ((e :: es).length + ([] : List Keyword).length + (if ([] : List Keyword).isEmpty then 0 else 1) < 30)) = true := by rfl)
    (hline : (apos.endLine == cpos.line) = true := by rfl) (hs : starEach (e :: es) X.env = (false, eval e X.env) :: starEach es X.env := by rfl) (hplain : (backTo cpos (starEach es X.env)).any (·.1) = false := by rfl) :
    PE X (.Call (.Attribute o name apos) (e :: es) [] cpos) (tBM X.K T r to t) := by
  intro pins s σ H Q I h
  refine wpAny_Call_method_late hbase hfew hline rfl (thn (ho pins s σ H _ I h) fun v s1 hh9 => ?_)
  obtain ⟨x, H1, I1, r1, ty, q1⟩ := hh9
  obtain ⟨h1, h2⟩ := tyV_is I1 r1 ty
  refine ⟨T, id, pa, slot, hty, h1, h2, ?_⟩
  have hA := ha cpos pins s1 σ H1 _ I1 q1
  rw [hs] at hA ⊢
  refine Calls.callWith_builtin (by show (false || (backTo cpos (starEach es X.env)).any (·.1)) = false; rw [hplain] <;> rfl) (Calls.evalArgs_plain ?_)
  exact thn hA fun us s2 ⟨vs, H2, I2, r2, q2⟩ => hm pins s2 σ H2 x vs v us Q I2 r1 r2 q2
/- xs.append(e), list.index on a module's tuple .. are MtR facts of 06m -/
end
end L2

namespace L2
open PySem PySem.Spec PyProof.Rows

noncomputable def MtM (X : Cx) (id : String) (r : V → List V → Hp → VK → Prop) : Prop :=
  ∀ (pins : List (Addr × Obj)) (s : Shared) (σ : St) (H : Hp) (x : V) (xs : List V) (v : Value) (us : List Value) (Q : VK), Inv X pins σ H s → RelV x v → Vals xs us → r x xs H Q →
    wpAny (model X.prog X.w) X.A (call (.builtin id) (v :: us)) (EP X pins σ Q) X.xe s

/-! ### lists of values -/
theorem Vals.one {x : V} {us : List Value} (h : Vals [x] us) : ∃ u, us = [u] ∧ RelV x u := by
  cases h with | cons r t => cases t; exact ⟨_, rfl, r⟩
theorem Vals.two {x y : V} {us : List Value} (h : Vals [x, y] us) : ∃ u v, us = [u, v] ∧ RelV x u ∧ RelV y v := by
  cases h with | cons r t => cases t with | cons q t => cases t; exact ⟨_, _, rfl, r, q⟩
section
variable {X : Cx} {pins : List (Addr × Obj)} {σ : St} {H : Hp} {s : Shared} {l b : Addr} {xs ys zs : List V}

/-! ### the two steps: a tracked list is rewritten, a new list is laid -/
theorem Inv.lset {its its' : List Value} {n : Nat} {f : Array Value → Array Value} {t' : Nat} (I : Inv X pins σ H s) (hH : H l = some (.lst xs))
    (e : s.heap.get? l = some { cls := .type "list", data := .seq its.toArray n }) (hf : f its.toArray = its'.toArray) (hv : Vals ys its') (hz : ys.length ≤ sizeLine) :
    Inv X pins σ (upd H l (.lst ys)) { s with heap := s.heap.update l (Obj.mapSeq f), toks := t' } := by
  have q := PySem.IsL.update e f
  rw [hf] at q
  refine I.write (x := l) (e := l) (by rw [hH]; exact trivial) (.inl rfl) (fun b' u hb hu => (Heap.get?_update_other s.heap (Obj.mapSeq f) (Ne.symm hb)).trans hu) ⟨_, q⟩ ?_
  exact ⟨hz, its', _, hv, q⟩
theorem Inv.lnew {its : List Value} {t' : Nat} (I : Inv X pins σ H s) (hv : Vals ys its) (hz : ys.length ≤ sizeLine) :
    Inv X pins σ (upd H s.heap.objs.size (.lst ys)) { s with heap := s.heap.push { cls := .type "list", data := .seq its.toArray }, toks := t' } :=
  I.laid (fun _ _ q => Heap.get?_push_of_some _ q) (Nat.le_refl _) ⟨hz, its, 0, hv, Heap.get?_push_size _ rfl⟩
theorem Inv.fresh (I : Inv X pins σ H s) : H s.heap.objs.size = none := I.hok.fresh (Nat.le_refl _)
theorem Inv.lstM (I : Inv X pins σ H s) (hH : H l = some (.lst xs)) : xs.length ≤ sizeLine ∧ ∃ (its : List Value) (n : Nat), Vals xs its ∧ xs.length = its.length ∧ s.heap.get? l = some { cls := .type "list", data := .seq its.toArray n } := by
  obtain ⟨z, its, n, r, e⟩ := I.hok l _ hH
  exact ⟨z, its, n, r, r.length, e⟩

end

section
variable {X : Cx}

/-! ### methods -/
noncomputable def rAppend : V → List V → Hp → VK → Prop := fun x vs H Q => ∃ l xs y, x = .ref l ∧ vs = [y] ∧ H l = some (.lst xs) ∧ xs.length < sizeLine ∧ Q .non (upd H l (.lst (xs ++ [y])))
theorem mt_append : MtM X "list.append" rAppend := by
  intro pins s σ H x vs v us Q I rx rv h
  obtain ⟨l, xs, y, rfl, rfl, hH, hz, q⟩ := h
  cases rx
  obtain ⟨u, rfl, ru⟩ := rv.one
  obtain ⟨z, its, n, r, hl, e⟩ := I.lstM hH
  refine call_meets F.slot_list_append ⟨_, e, rfl⟩ F.entry_list_append (F.args_list_append_2 _ _) (PySem.list_append l its.toArray n u (by rw [List.size_toArray]; omega)) ⟨e, ?_⟩
  refine ⟨.non, _, I.lset (its' := its ++ [u]) hH e (by simp) (r.append (.cons ru .nil)) ?_, rfl, q⟩
  rw [List.length_append, List.length_singleton]
  omega

/-! ### list + list, list += list, list * int -/
noncomputable def rCat : R2 := fun x y H Q => ∃ l b xs zs, x = .ref l ∧ y = .ref b ∧ H l = some (.lst xs) ∧ H b = some (.lst zs) ∧ xs.length + zs.length ≤ sizeLine ∧ ∀ p, H p = none → Q (.ref p) (upd H p (.lst (xs ++ zs)))
theorem op_cat : OpR X (binaryOp .Add) rCat := by
  intro pins s σ H x y v u Q I rx ry h
  obtain ⟨l, b, xs, zs, rfl, rfl, hH, hB, hz, q⟩ := h
  cases rx
  cases ry
  obtain ⟨z, its, n, r, hl, e⟩ := I.lstM hH
  obtain ⟨z2, its2, n2, r2, hl2, e2⟩ := I.lstM hB
  refine PySem.P.add_list e e2 ?_ (by rw [List.size_toArray, List.size_toArray]; omega)
  have ea : its.toArray ++ its2.toArray = (its ++ its2).toArray := by simp
  rw [ea]
  exact ⟨.ref _, _, I.lnew (t' := s.toks) (r.append r2) (by rw [List.length_append]; omega), rfl, q _ I.fresh⟩
/-! ### del xs[i] -/
end

/-! ### xs[a:b] = ys -/
section
variable {prog : Program} {w : World} {A : Around} {E : Value → Shared → Prop} {s : Shared}
end

section
variable {X : Cx}
end
end L2

namespace Att
open PySem PySem.W PySem.Calls PyProof.Rows

/-! ### the script -/
theorem ints_of_wellAll {P : Params} {h : Heap} : ∀ (ns : List Int) (vs : List Value), WellAll P h vs (ns.map WData.int) → IntsAre vs ns := by
  intro ns
  induction ns with
  | nil =>
    intro vs w
    rw [List.map_nil] at w
    cases w
    exact .nil
  | cons n ns ih =>
    intro vs w
    rw [List.map_cons] at w
    cases w with
    | cons a b =>
      cases a
      exact .cons _ _ (ih _ b)

theorem script_of {l : OpenLaw} {n : Nat} (hn : l.most = some n) {P : Params} {h : Heap} {args : List WData} {vals : List Value}
    (hpre : l.row.toRowW.claim.pre args = true) (hwl : WellAll P h vals args) :
    ∃ a vs ns, vals = [Value.ref a] ∧ args = [WData.list (ns.map WData.int)] ∧ h.get? a = some { cls := .type "list", data := .seq vs.toArray } ∧ IntsAre vs ns ∧ ns.length ≤ n := by
  have hsh : WShape.hasAll [] args [.list .int] = true := (pre_splitW hpre).1
  have hc : l.pre.holds [] { args := args } = true := (pre_splitW hpre).2
  obtain ⟨d, r, rfl, h1, h2⟩ := hasAllW_cons hsh
  obtain rfl := hasAllW_nil h2
  obtain ⟨xs, rfl, h3⟩ := hasW_list h1
  obtain ⟨ns, rfl⟩ := items_int h3
  have hlen : ns.length ≤ n := by
    unfold OpenLaw.pre at hc
    have h4 : (WTm.not (.lt (.lit (.int (n : Int))) (.len (.arg 0)))).holds [] { args := [.list (ns.map .int)] } = true := by
      have h4 := (holds_andW hc).1
      rw [hn] at h4
      exact h4
    have h5 := condW_of h4 (w_not (w_lt w_lit (w_len_list (w_arg rfl))))
    rw [List.length_map] at h5
    refine Nat.le_of_not_lt fun q => ?_
    have q' : (n : Int) < ((ns.length : Nat) : Int) := by omega
    first
      | (rw [decide_eq_true q'] at h5; exact absurd h5 (by decide))
      | (simp at h5; omega)
  cases hwl with
  | cons w1 w2 =>
    cases w2
    cases w1 with
    | list ho hall => exact ⟨_, _, ns, rfl, rfl, ho, ints_of_wellAll ns _ hall, hlen⟩

theorem post_true (l : OpenLaw) (args : List WData) : l.row.toRowW.claim.post args (.bool true) args = true :=
  postW_of (r := l.row.toRowW) (X := (true == true))
    (show WShape.has [] (.bool true) .bool = true by first | rfl | decide | simp [WShape.has, WShape.arms, WShape.armsAll])
    (show (WTm.eq .res (.lit (.bool true))).value [] { args := args, res := some (.bool true), after := args } = some (.bool (true == true)) from w_eq_bool (w_res rfl) w_lit) rfl

/-! ### the attachment: holds_open's last premise (the goal 'hc' behind k_head) from a wpAny of the law's body -/
/-- the same from a codeAny of the CALL (for a layer whose function contracts speak of calls) -/
theorem attach_call {l : OpenLaw} {n : Nat} {q : Program} {loose : List Str} {XP : (Str → Option Value) → Heap → Prop} {YP : World → Heap → Prop} {d : DefRec}
    (hn : l.most = some n) (hdf : d.params.defaults = [])
    (call : ∀ (w : World) (s₀ s₁ : Shared) (mg mb : Str → Option Value) (fa : Addr) (o : Obj) (pm cd doc : Value) (a : Addr) (vs : List Value) (ns : List Int),
      Ground q loose [] XP w s₀ mg mb s₁.heap → YP w s₁.heap →
      s₁.heap.get? fa = some o → o.data = .func (docDef d.name d.params d.body d.scope pm cd doc) → s₁.heap.CodeRec cd d.name → mg d.name = some (.ref fa) →
      s₁.heap.get? a = some { cls := .type "list", data := .seq vs.toArray } → IntsAre vs ns → ns.length ≤ n → s₁.gens = #[] →
      codeAny (model l.prog w) callerA (.call (.ref fa) ⟨[.ref a], []⟩) (fun r s' => r = .ok (.ret (.bool true)) ∧ OldK s₁.heap s'.heap ∧ s'.os = s₁.os ∧ AllBare s'.gens) s₁) :
    WalkO q loose XP YP l.row.toRowW d [] (fun f vs => PySem.call f vs) := by
  intro w s₀ s₁ mg mb G Y fa o pm cd doc dV kV ho hd hcd hD hmg hg args vals as hpre hlay hrd hwl hlo
  obtain rfl : dV = .none := Dflts.none hD hdf
  obtain rfl : kV = .none := Dflts.noKw hD
  obtain ⟨a, vs, ns, rfl, rfl, hobj, hints, hlen⟩ := script_of hn hpre hwl
  refine enter_call (codeAny_mono (call w s₀ s₁ mg mb fa o pm cd doc a vs ns G Y ho (fd_plain hd) hcd hmg hobj hints hlen hg) fun r s' hq => ?_)
  obtain ⟨rfl, h2, h3, h4⟩ := hq
  exact ⟨.inl ⟨.bool true, .bool true, [], rfl, fun _ => rfl, .bool true, post_true l _, fun _ => ⟨List.Pairwise.nil, fun _ hm => (nomatch hm)⟩⟩, h2, h3, h4⟩

/-! ### rules over ANY heap (no ledger) from facts about the written part K: the library's own take a ledger (News) for what they write -/
section
variable {prog : Program} {w : World} {A : Around} {E : Value → Shared → Prop} {s : Shared} {K : Frag}

/-! the whole heap as the ledger: makes every rule that writes through a ledger a rule over any heap -/
noncomputable def ledger (h : Heap) (L d : Addr) : List (Addr × Obj) := (List.range h.objs.size).filterMap fun a => if a = L ∨ a = d then none else (h.get? a).map fun o => (a, o)
end
end Att

namespace L2
open PySem PySem.Spec PyProof.Rows

theorem vals_ints : ∀ {vs : List Value} {ns : List Int}, IntsAre vs ns → Vals (ns.map V.int) vs
  | _, _, .nil => .nil
  | _, _, .cons n t h => .cons ⟨t, rfl⟩ (vals_ints h)

/-- nothing is tracked but the script, known to the object (or it is an object of the module) -/
noncomputable def Only (H : Hp) : Prop := ∀ b, H b = none ∨ ∃ o xs, H b = some (.frz o (.lst xs))

/-- THE HEAD: the law's promise, at the heap behind the top. F, the promise of the law's def, may use that base is part of the heap (so K.In base, base.Ns mainGlobals mg stand in Mod) -/
theorem law_call {P : Program} {w : World} {K : PySem.W.Frag} {mg mb : Str → Option Value} {CX : CXT} {k : Nat} {fa a : Addr} {fd : FuncData} {x : Str} {sp : Sp} {s₁ : Shared} {vs : List Value} {ns : List Int}
    (KX : K.In s₁.heap) (hns : s₁.heap.Ns mainGlobals mg) (hb : s₁.heap.Ns builtinsNs mb) (hbb : ∀ x : Str, x ≠ "__name__" → mb x = bootBuiltins x) (hlim : s₁.heap.NoLimit) (hg : s₁.gens = #[])
    (ha : s₁.heap.get? a = some { cls := .type "list", data := .seq vs.toArray }) (hi : IntsAre vs ns) (hl : ns.length ≤ sizeLine) (hr : Room k callerA)
    (F : ∀ base : Heap, K.In base → base.Ns mainGlobals mg → FnOk P w K mg base CX k fa fd [x] sp) (hbind : ∀ (s : Shared) (u : Value), BindsTo s fd ⟨[u], []⟩ [(x, u)])
    (hsp : ∀ H : Hp, Only H → SqL K H a (ns.map V.int) → sp [.ref a] H (fun v _ => v = .bl true) fun _ _ _ => False)
    (hCX : ∀ H e s', CX [] H s₁ (fun _ _ _ => False) e s' → False) :
    codeAny (model P w) callerA (.call (.ref fa) ⟨[.ref a], []⟩) (fun r s' => r = .ok (.ret (.bool true)) ∧ OldK s₁.heap s'.heap ∧ s'.os = s₁.os ∧ AllBare s'.gens) s₁ := by
  have rv := vals_ints hi
  have lenV := hi.length
  -- from an abstract heap in which nothing but the script may be tracked
  have core : ∀ H : Hp, Only H → SqL K H a (ns.map V.int) → HOk P w H s₁.heap → (∀ b, H b ≠ none → b = a) → (H a ≠ none → K.lookup a = none) →
      codeAny (model P w) callerA (.call (.ref fa) ⟨[.ref a], []⟩) (fun r s' => r = .ok (.ret (.bool true)) ∧ OldK s₁.heap s'.heap ∧ s'.os = s₁.os ∧ AllBare s'.gens) s₁ := by
    intro H hO hS hok hA hK
    have base_of : ∀ {b : Addr} {o : Obj}, s₁.heap.get? b = some o → H b = none → (hidT s₁.heap H).get? b = some o := fun e n => hidT_get e n
    have noA : ∀ {b : Addr} {o : Obj} {es : Array DictEntry} {ep : Nat}, s₁.heap.get? b = some o → o.data = .dict es ep → H b = none := fun {b o es ep} e d => by
      cases q : H b with
      | none => rfl
      | some u =>
        have e' : b = a := hA b (by rw [q]; simp)
        subst e'
        rw [ha] at e; cases e
        have d' : Data.seq vs.toArray _ = Data.dict es ep := d
        cases d'
    have nsK : ∀ {b : Addr} {m : Str → Option Value}, s₁.heap.Ns b m → (hidT s₁.heap H).Ns b m := fun {b m} ⟨o, es, ep, e, d, r⟩ => ⟨o, es, ep, base_of e (noA e d), d, r⟩
    have hKb : K.In (hidT s₁.heap H) := fun b o e => base_of (KX b o e) (by
      cases q : H b with
      | none => rfl
      | some u =>
        have e' : b = a := hA b (by rw [q]; simp)
        subst e'
        rw [hK (by rw [q]; simp)] at e; cases e)
    have hM : Mod K mg (hidT s₁.heap H) := ⟨hKb, nsK hns, ⟨mb, nsK hb, hbb⟩, let ⟨mc, h1, h2⟩ := hlim; ⟨mc, nsK h1, h2⟩⟩
    have e0 : Env0 P w K mg (hidT s₁.heap H) callerA [] s₁ H := ⟨rfl, hM, fun b o e => of_hidT e, Nat.le_of_eq (hidT_size _ _), trivial, fun b hb => absurd (show b ∈ ([] : List Addr) from hb) (by simp), hok, .of_eq hg⟩
    refine codeAny_mono ((F _ hKb (nsK hns)).run callerA [] s₁ H ⟨[.ref a], []⟩ [.ref a] [.ref a] _ _ hr e0 (hbind s₁ (.ref a)) (.cons rfl .nil) (hsp H hO hS)) fun r s' h => ?_
    cases r with
    | error e => exact (hCX H e s' h).elim
    | ok fl =>
      cases fl with
      | next => exact False.elim h
      | brk => exact False.elim h
      | cont => exact False.elim h
      | ret u =>
        obtain ⟨v, H', os, bare, un, hok', r', q⟩ := h
        have q' : v = .bl true := q
        subst q'
        obtain rfl : u = Value.bool true := r'
        refine ⟨rfl, OldK.of_keep fun b o e => ?_, os, bare⟩
        cases q : H b with
        | none => exact un.keep b o e q (by intro z; exact absurd (show b ∈ ([] : List Addr) from z) (by simp)) (by simp)
        | some u =>
          rcases hO b with z | ⟨ob, xs, z⟩
          · rw [q] at z; cases z
          · have z2 := un.frzs b ob _ z
            obtain ⟨e1, _⟩ := hok b _ z
            obtain ⟨e2, _⟩ := hok' b _ z2
            rw [e] at e1; cases e1
            exact e2
  cases hk : K.lookup a with
  | some o =>
    -- the script is one of the module's own objects
    have e := KX a o hk
    rw [ha] at e
    cases e
    refine core (fun _ => none) (fun _ => .inl rfl) (.inr ⟨_, vs.toArray, _, hk, rfl, rfl, rfl, by rw [List.size_toArray, lenV]; exact hl, by simpa using rv⟩) (fun b u z => by have z' : (none : Option HO) = some u := z; cases z') (fun b z => absurd rfl z) fun z => absurd rfl z
  | none =>
    refine core (fun b => if b = a then some (.frz { cls := .type "list", data := .seq vs.toArray } (.lst (ns.map V.int))) else none) (fun b => ?_) (.inl (.inr ⟨{ cls := .type "list", data := .seq vs.toArray }, if_pos rfl⟩)) (fun b u z => ?_) (fun b z => ?_) fun _ => hk
    · by_cases hb : b = a
      · exact .inr ⟨_, _, if_pos hb⟩
      · exact .inl (if_neg hb)
    · by_cases hb : b = a
      · have z' := (if_pos hb).symm.trans z
        cases z'
        subst hb
        exact ⟨ha, by rw [List.length_map]; exact hl, vs, _, rv, ha⟩
      · have z' := (if_neg hb).symm.trans z
        cases z'
    · by_cases hb : b = a
      · exact hb
      · exact absurd (if_neg hb) z
end L2

namespace L2
open PySem PySem.Spec PyProof.Rows

noncomputable abbrev KOf {K : PySem.W.Frag} {h : Heap} (_ : K.In h) : PySem.W.Frag := K

/-- the goal that k_head leaves (case hc), from the law's promise. F gives the function object fd (K's own) once, then the promise over every base -/
theorem walk_of {l : PySem.W.OpenLaw} {n k : Nat} {q : Program} {loose : List Str} {XP : (Str → Option Value) → Heap → Prop} {YP : World → Heap → Prop} {d : DefRec} {K : Params → PySem.W.Frag} {CX : World → CXT} {sp : World → Sp} {x : Str}
    (hn : l.most = some n) (hn2 : n ≤ sizeLine) (hdf : d.params.defaults = []) (hr : Room k callerA)
    (hY : ∀ (w : World) (h : Heap), YP w h → (K w.params).In h)
    (F : ∀ (w : World) (mg : Str → Option Value) (fa : Addr) (h : Heap), (K w.params).In h → h.Ns mainGlobals mg → mg d.name = some (.ref fa) →
      ∃ fd : FuncData, (∀ (s : Shared) (u : Value), BindsTo s fd ⟨[u], []⟩ [(x, u)]) ∧
        ∀ base : Heap, (K w.params).In base → base.Ns mainGlobals mg → FnOk l.prog w (K w.params) mg base (CX w) k fa fd [x] (sp w))
    (hsp : ∀ (w : World) (H : Hp) (a : Addr) (ns : List Int), ns.length ≤ n → Only H → SqL (K w.params) H a (ns.map V.int) → sp w [.ref a] H (fun v _ => v = .bl true) fun _ _ _ => False)
    (hCX : ∀ (w : World) (H : Hp) (s : Shared) (e : Value) (s' : Shared), CX w [] H s (fun _ _ _ => False) e s' → False) :
    PySem.W.WalkO q loose XP YP l.row.toRowW d [] (fun f vs => PySem.call f vs) := by
  refine Att.attach_call hn hdf fun w s₀ s₁ mg mb fa o pm cd doc a vs ns G Y ho hd hcd hmg hobj hints hlen hg => ?_
  have KX := hY w _ Y
  obtain ⟨fd, hb, hF⟩ := F w mg fa _ KX G.T.g hmg
  exact law_call KX G.T.g G.T.b G.T.builtins G.T.nolimit hg hobj hints (Nat.le_trans hlen hn2) hr hF hb (fun H hO hS => hsp w H a ns hlen hO hS) fun H e s' => hCX w H s₁ e s'
end L2

/- THE LAST THEOREM (shape; LID, My.* are yours):
   My.Adr: a structure of the addresses that your layer names (classes, functions); My.Txt K t: a structure (Prop) of the equations over K;
   My.txt_mk : {K} {implicit addresses ..} (e1 : nsIn K mainGlobals "law" = some (some (.ref f))) (e2 : K.lookup f = some ⟨oc, od, .func (fnOf "law" "law" params body scope dV kV doc pm an cdv ct), sl⟩) (e3 : codeIn K cdv "law" = true) .. : ∃ t, My.Txt K t

set_option maxRecDepth 100000 in
set_option maxHeartbeats 0 in
theorem PySem.Challenge.cw_LID_holds : PySem.Challenge.rw_LID.Holds := by
  w_on; o_law; k_head; (case hw => w_witness2)
  k_fill
  refine L2.walk_of (l := PySem.Challenge.rw_LID) (n := 63) (k := 40) (x := "script") (CX := fun w => ..) (sp := fun _ => My.sp_law) rfl (by decide) rfl ⟨rfl, by decide, by decide⟩ (fun w h Y => PySem.W.kIn_of Y) ?F ?S ?C
  case F =>
    intro w mg fa h KX G hmg
    have T : ∃ t, My.Txt (L2.KOf KX) t := by
      dsimp only [L2.KOf]                          -- K must stand as «<heap const> w.params» for k_is
      refine' My.txt_mk ?e1 ?e2 ?e3 ..
      (case e1 => PySem.W.k_is)                    -- in the order: a name -> its address -> its object -> its parts
      (case e2 => PySem.W.k_is)
      ..
    obtain ⟨t, T⟩ := T
    have e0 := hmg.symm.trans (PySem.W.mg_of KX G T.law)
    cases e0                                       -- fa is the law's own address
    exact ⟨_, fun s u => .of_eq rfl, fun base kb nb => My.law_fn T kb nb⟩     -- if «.of_eq rfl» comes too early: refine' ⟨_, ?b, fun base kb nb => My.law_fn T kb nb⟩; exact fun s u => .of_eq rfl
  case S => exact fun w H a ns hl hO hS => ..
  case C => exact ..
(the tactic k_is has no namespace: write k_is) -/

/-! SHORT WORDS over the layer: a def of the text, its body, what a loop and a test want. -/
namespace L2
open PySem PySem.Spec PyProof.Rows

/-! ### the text by places -/
/-- the j-th statement of a class's body -/
noncomputable def inClass (s : Stmt) (j : Nat) : Stmt := match s with
  | .ClassDef _ _ _ body _ _ _ _ _ _ _ => body.getD j (.Pass ⟨0, 0, 0, 0⟩)
  | _ => .Pass ⟨0, 0, 0, 0⟩
noncomputable def defArgs (s : Stmt) : Arguments := match s with
  | .FunctionDef _ a _ _ _ _ _ _ _ _ => a
  | _ => { posonlyargs := [], args := [], vararg := none, kwonlyargs := [], kw_defaults := [], kwarg := none, defaults := [] }
noncomputable def defBody (s : Stmt) : List Stmt := match s with
  | .FunctionDef _ _ b _ _ _ _ _ _ _ => b
  | _ => []
noncomputable def defScope (s : Stmt) : Scope := match s with
  | .FunctionDef _ _ _ _ _ _ sc _ _ _ => sc
  | _ => { kind := .function, names := [], isGenerator := false, isCoroutine := false }

/-! ### no exception leaves a def -/
noncomputable abbrev CX0 : CXT := fun _ _ _ _ _ _ => False
noncomputable abbrev E0 : XK := fun _ _ _ => False
theorem pass0 {X : Cx} : Passes CX0 X E0 := fun _ _ _ _ _ _ _ h => h.elim

/-! ### a def (or method) of the text as it stands behind the top -/
structure Fun (K : PySem.W.Frag) (x qual : Str) (st : Stmt) (f : Addr) (fd : FuncData) : Prop where
  ex : ∃ (oc : Value) (od : Option Addr) (kV doc pm : Value) (an : Option Addr) (cdv ct : Value) (osl : Array (Option Value)),
    fd = PySem.W.fnOf x qual (defArgs st) (defBody st) (defScope st) .none kV doc pm an cdv ct ∧ K.lookup f = some ⟨oc, od, .func fd, osl⟩ ∧ PySem.W.codeIn K cdv qual = true
  kp : PySem.W.keepIn K (.ref f) = true
section
variable {P : Program} {w : World} {K : PySem.W.Frag} {mg : Str → Option Value} {base : Heap}
/-- THE RULE for a def: its body as a term of rules, and the reading of that term -/
theorem Fun.ok {x qual : Str} {st : Stmt} {f : Addr} {fd : FuncData} {N ps : List Str} {k : Nat} {sp : Sp} (F : Fun K x qual st f fd) (S : FnScope N ps (defScope st)) (len : ∀ vs H Q E, sp vs H Q E → vs.length = ps.length)
    (hbody : ∀ (cdv : Value) (A : Around) (outer : List Env) (s : Shared) (H : Hp) (vs : List V) (Q : VK) (E : XK), Room k (A.deeper (envOfC qual (defScope st) s.heap.objs.size f cdv)) → sp vs H Q E →
      ∃ t, PSs (cxOf CX0 P w K mg base N qual (defScope st) f cdv A outer s H E).nox (defBody st) t ∧ t { nx := fun _ H' => Q .non H', rt := Q } (start N vs) H) : FnOk P w K mg base CX0 (k + 1) f fd ps sp := by
  obtain ⟨oc, od, kV, doc, pm, an, cdv, ct, osl, rfl, lk, hcd⟩ := F.ex
  refine fn_of lk hcd S len fun A outer s H vs Q E hr hsp => ?_
  obtain ⟨t, h, q⟩ := hbody cdv A outer s H vs Q E hr hsp
  exact ⟨t, h.nox, q⟩
/-- how its arguments bind (no defaults): h is «fun _ _ _ _ _ _ us hl => match us, hl with | [_, _], _ => rfl», one _ a parameter -/
theorem Fun.binds {x qual : Str} {st : Stmt} {f : Addr} {fd : FuncData} {ps : List Str} (F : Fun K x qual st f fd)
    (h : ∀ (kV doc pm : Value) (an : Option Addr) (cdv ct : Value) (us : List Value), us.length = ps.length → bindArgs (PySem.W.fnOf x qual (defArgs st) (defBody st) (defScope st) .none kV doc pm an cdv ct) ⟨us, []⟩ = pure (ps.zip us)) : Binds K fd ps [] := by
  obtain ⟨oc, od, kV, doc, pm, an, cdv, ct, osl, rfl, lk, hcd⟩ := F.ex
  exact .all (h kV doc pm an cdv ct)
theorem fun_mk {x qual : Str} {st : Stmt} {f : Addr} {oc : Value} {od an : Option Addr} {osl : Array (Option Value)} {kV doc pm cdv ct : Value} (l : K.lookup f = some ⟨oc, od, .func (PySem.W.fnOf x qual (defArgs st) (defBody st) (defScope st) .none kV doc pm an cdv ct), osl⟩)
    (c : PySem.W.codeIn K cdv qual = true) (k : PySem.W.keepIn K (.ref f) = true) : Fun K x qual st f (PySem.W.fnOf x qual (defArgs st) (defBody st) (defScope st) .none kV doc pm an cdv ct) := ⟨⟨oc, od, kV, doc, pm, an, cdv, ct, osl, rfl, l, c⟩, k⟩
end
/-! ### expressions in short: the name that stands in the i-th slot -/
section
variable {X : Cx}
theorem pv (i : Nat) {x : Str} {pos : Pos} (hN : X.N[i]? = some x := by rfl) (hv : Vis X.env.scope x := by first | exact Or.inl rfl | exact Or.inr (Or.inl rfl) | exact Or.inr (Or.inr rfl)) (hd : (x == ("__debug__" : Str)) = false := by decide)
    (hcd : (x == ("__classdict__" : Str)) = false := by decide) : PE X (.Name x pos) (tVar i) := pe_var hN hv hd hcd
end

/-! ### tests -/
theorem iteF {A B : Prop} (h : B) : if false = true then A else B := by
  rw [if_neg Bool.false_ne_true]
  exact h
theorem iteT {A B : Prop} (h : A) : if true = true then A else B := by
  rw [if_pos rfl]
  exact h
theorem ite2 {c A B : Prop} [Decidable c] (h1 : c → A) (h2 : ¬ c → B) : if c then A else B := by
  by_cases h : c
  · rw [if_pos h]
    exact h1 h
  · rw [if_neg h]
    exact h2 h
theorem iteNS {c A B : Prop} [Decidable c] (hc : c) (h : B) : if (!decide c) = true then A else B := by
  rw [decide_eq_true hc]
  exact iteF h

/-! ### heaps -/
/-- all that was tracked is as it was -/
noncomputable def Same (H H' : Hp) : Prop := ∀ b o, H b = some o → H' b = some o
theorem Same.refl (H : Hp) : Same H H := fun _ _ h => h
theorem Same.trans {H H1 H2 : Hp} (a : Same H H1) (b : Same H1 H2) : Same H H2 := fun c o h => b c o (a c o h)
theorem Same.free {H H' : Hp} (e : Same H H') {l : Addr} (h : H' l = Option.none) : H l = Option.none := by
  cases q : H l with
  | none => rfl
  | some o =>
    rw [e l o q] at h
    cases h
theorem Same.seq {K : PySem.W.Frag} {H H' : Hp} {a : Addr} {xs : List V} (e : Same H H') (h : SqL K H a xs) : SqL K H' a xs := by
  rcases h with (h | ⟨o, h⟩) | h
  · exact .inl (.inl (e _ _ h))
  · exact .inl (.inr ⟨o, e _ _ h⟩)
  · exact .inr h

end L2

namespace L2
open PySem PySem.Spec PyProof.Rows

/-! ### lists of pairs as tables -/
section
variable {κ : Type} [DecidableEq κ]
end


/-! ### a tracked dict, its keys ints and texts or tuples of these -/
section
variable {P : Program} {w : World} {H : Hp} {h : Heap} {a : Addr}
end

section
variable {X : Cx} {pins : List (Addr × Obj)} {σ : St} {H : Hp} {s : Shared} {a : Addr} {y v : V} {u r : Value} {o : Option V} {A : Around} {E : Value → Shared → Prop}

end

section
variable {X : Cx} {pins : List (Addr × Obj)} {σ : St} {H : Hp} {s : Shared} {a : Addr} {kvs : List (Key × V)} {k : Key} {u : Value} {A : Around} {E : Value → Shared → Prop}
end


/-! ### readings and rules -/
section
variable {X : Cx} {o i e value : Expr} {pos pos' tpos : Pos} {td ty tv : TE}
end


/-! ### displays -/
section
variable {X : Cx} {pos : Pos}
end

/-! ### methods -/
/-- a method call o.m(e) of a built-in, with one argument: what must be seen of the text -/
structure M1 (X : Cx) (o : Expr) (m : Str) (apos : Pos) (e : Expr) (cpos : Pos) : Prop where
  base : attributeBase o m X.env (eval o X.env) = eval o X.env
  few : ((backTo cpos (starEach [e] X.env)).all (fun x => !x.1) && (backToKw cpos (keywordEach [] X.env)).all (fun x => x.1.isSome)
    && decide (([e] : List Expr).length + ([] : List Keyword).length + (if ([] : List Keyword).isEmpty then 0 else 1) < 30)) = true
  line : (apos.endLine == cpos.line) = true
  trees : backTo cpos (starEach [e] X.env) = [(false, eval e X.env)]
structure M2 (X : Cx) (o : Expr) (m : Str) (apos : Pos) (e f : Expr) (cpos : Pos) : Prop where
  base : attributeBase o m X.env (eval o X.env) = eval o X.env
  few : ((backTo cpos (starEach [e, f] X.env)).all (fun x => !x.1) && (backToKw cpos (keywordEach [] X.env)).all (fun x => x.1.isSome)
    && decide (([e, f] : List Expr).length + ([] : List Keyword).length + (if ([] : List Keyword).isEmpty then 0 else 1) < 30)) = true
  line : (apos.endLine == cpos.line) = true
  trees : backTo cpos (starEach [e, f] X.env) = [(false, eval e X.env), (false, eval f X.env)]

section
variable {X : Cx} {pins : List (Addr × Obj)} {σ : St} {H : Hp} {s : Shared} {a : Addr} {y d : V} {u r : Value} {o : Option V} {A : Around} {E : Value → Shared → Prop}
end

section
variable {X : Cx} {o e f : Expr} {apos cpos : Pos} {td ty tx : TE}
end

/-! ### dict(d): a copy -/
section
variable {X : Cx} {pins : List (Addr × Obj)} {σ : St} {H : Hp} {s : Shared} {a : Addr} {kvs : List (Key × V)} {A : Around} {E : Value → Shared → Prop}
end


section
variable {X : Cx} {pins : List (Addr × Obj)} {σ : St} {H : Hp} {s : Shared} {a : Addr} {y : V} {u : Value} {A : Around} {E : Value → Shared → Prop}
end
end L2
namespace L2
open PySem PySem.Spec PyProof.Rows
section
variable {κ : Type} [DecidableEq κ]
end
end L2
/-! RULES OF MY OWN over the layer: isinstance, == and != of tuples and lists of flat items, > of tuples of ints, a range by steps. -/
namespace Add
open PySem PySem.Spec PyProof.Rows L2

theorem pos {j : Int} (h : 0 < j) : 0 < j := h
theorem mulL {i j : Int} (h : -1000000 < i) (h' : i < 1000000) : CMul i j := .inl ⟨by omega, by omega⟩
section
variable {K : PySem.W.Frag}
theorem kit_int_int : PySem.W.kitOne K (.type "int") (.type "int") = some true := by kernel_rfl
theorem kit_int_bool : PySem.W.kitOne K (.type "int") (.type "bool") = some false := by kernel_rfl
theorem kit_bool_bool : PySem.W.kitOne K (.type "bool") (.type "bool") = some true := by kernel_rfl
theorem kit_bool_int : PySem.W.kitOne K (.type "bool") (.type "int") = some true := by kernel_rfl
theorem kit_tuple_tuple : PySem.W.kitOne K (.type "tuple") (.type "tuple") = some true := by kernel_rfl
end

section
variable {X : Cx}
theorem call_isi : CallR X (.builtin "isinstance") (fun xs H Q => ∃ x t c b, xs = [x, .ty c] ∧ TyOf X.K H x t ∧ PySem.W.kitOne X.K t (.type c) = some b ∧ Q (.bl b) H) := by
  intro pins s σ H xs us Q I r h
  obtain ⟨x, t, c, b, rfl, ty, e, q⟩ := h
  obtain ⟨u, u', rfl, r1, r2⟩ := Vals.two r
  cases (show u' = Value.type c from r2)
  exact isinst_ok I r1 ty e fun tk => ⟨.bl b, H, I.tok tk, rfl, q⟩

/-- two lists of flat values, item by item -/
noncomputable def eqVs : List V → List V → Bool
  | [], [] => true
  | x :: xs, y :: ys => eqV x y && eqVs xs ys
  | _, _ => false
noncomputable def eAt (xs ys : List V) (j : Nat) : Bool := match xs[j]?, ys[j]? with
  | some x, some y => eqV x y
  | _, _ => false
theorem all_eq : ∀ (xs ys : List V), ((List.range (min xs.length ys.length)).all (eAt xs ys) && (xs.length == ys.length)) = eqVs xs ys
  | [], [] => rfl
  | [], _ :: _ => by simp [eqVs]
  | _ :: _, [] => by simp [eqVs]
  | x :: xs, y :: ys => by
    have ih := all_eq xs ys
    have e : min (x :: xs).length (y :: ys).length = min xs.length ys.length + 1 := by simp only [List.length_cons]; omega
    rw [e, List.range_succ_eq_map, List.all_cons, List.all_map]
    have f : (eAt (x :: xs) (y :: ys) ∘ Nat.succ) = eAt xs ys := by funext j; simp [eAt, Function.comp]
    have g : ((x :: xs).length == (y :: ys).length) = (xs.length == ys.length) := by simp
    rw [f, g]
    show ((eqV x y && (List.range (min xs.length ys.length)).all (eAt xs ys)) && (xs.length == ys.length)) = (eqV x y && eqVs xs ys)
    rw [← ih, Bool.and_assoc]
theorem items_eq {A : Around} {s : Shared} {xs ys : List V} {us ws : List Value} (r : Vals xs us) (r' : Vals ys ws) (fx : xs.all flatV = true) (fy : ys.all flatV = true) :
    ∀ j (h1 : j < us.toArray.size) (h2 : j < ws.toArray.size), SeqAt.EqAt A s us.toArray[j] ws.toArray[j] (eAt xs ys j) := by
  intro j h1 h2
  have g1 : j < xs.length := by rw [r.length]; simpa using h1
  have g2 : j < ys.length := by rw [r'.length]; simpa using h2
  obtain ⟨u, hu, ru⟩ := r.get (i := j) (x := xs[j]) (by simp [g1])
  obtain ⟨w, hw, rw'⟩ := r'.get (i := j) (x := ys[j]) (by simp [g2])
  have e1 : us.toArray[j] = u := by
    have : us[j]? = some us[j] := by simp
    rw [this] at hu
    simpa using Option.some.inj hu
  have e2 : ws.toArray[j] = w := by
    have : ws[j]? = some ws[j] := by simp
    rw [this] at hw
    simpa using Option.some.inj hw
  have e3 : eAt xs ys j = eqV xs[j] ys[j] := by simp [eAt, g1, g2]
  rw [e1, e2, e3]
  exact eqAt_V ru rw' (List.all_eq_true.mp fx _ (List.getElem_mem g1)) (List.all_eq_true.mp fy _ (List.getElem_mem g2))
noncomputable def rEqT (K : PySem.W.Frag) (f : Bool → Bool) : R2 := fun x y H Q => ∃ a b xs ys, x = .ref a ∧ y = .ref b ∧ SqT K H a xs ∧ SqT K H b ys ∧ xs.all flatV = true ∧ ys.all flatV = true ∧ Q (.bl (f (eqVs xs ys))) H
theorem op_eqT (hu : X.A.units < cLine) : OpR X (compareOp .Eq) (rEqT X.K fun z => z) := by
  intro pins s σ H x y v u Q I rx ry h
  obtain ⟨a, b, xs, ys, rfl, rfl, ha, hb, fx, fy, q⟩ := h
  cases rx
  cases ry
  obtain ⟨its, r1, p1, _⟩ := I.tuple ha
  obtain ⟨its2, r2, p2, _⟩ := I.tuple hb
  refine SeqAt.eq_tupleAt (show s.heap.IsTuple a its.toArray from p1) (show s.heap.IsTuple b its2.toArray from p2) hu (items_eq r1 r2 fx fy) ?_
  have e : ((List.range (min its.toArray.size its2.toArray.size)).all (eAt xs ys) && (its.toArray.size == its2.toArray.size)) = eqVs xs ys := by
    rw [← all_eq xs ys, List.size_toArray, List.size_toArray, r1.length, r2.length]
  rw [e]
  exact ⟨.bl (eqVs xs ys), H, I, rfl, q⟩
end

/-! ### range(i, j, c), c a positive number -/
section
variable {X : Cx} {tg : Expr}
end
end Add
namespace Add
open PySem PySem.Spec PyProof.Rows L2
section
open PySem.SeqAt
open PySem.AutoSeq1 (wpAny_loadPart')
open PySem.MeetsSeq PySem.MeetsSeq2 PySem.MeetsSeq3
open HT
end
section
variable {prog : Program} {w : World} {A : Around} {E : Value → Shared → Prop} {s : Shared}
end
section
variable {X : Cx}
end
end Add

namespace Add
open PySem PySem.Spec PyProof.Rows L2

/-! ### a comprehension with one for and at most one if -/
theorem closure_go {env : Env} : ∀ (names : List (Str × NameKind)) (acc : List (Str × Addr)), (∀ x ∈ names, x.2 = .free → ∃ c, env.cells.lookup x.1 = some c) →
    (∀ x c, acc.lookup x = some c → env.cells.lookup x = some c) →
    ∃ cl, (forIn names acc fun (x : Str × NameKind) (cs : List (Str × Addr)) => if (x.2 == NameKind.free) = true then (do let a ← cellOf env x.1; pure (ForInStep.yield ((x.1, a) :: cs))) else (pure (ForInStep.yield cs) : Sem (ForInStep (List (Str × Addr))))) = pure cl ∧
      (∀ x c, cl.lookup x = some c → env.cells.lookup x = some c) ∧ (∀ x, (acc.lookup x).isSome = true → (cl.lookup x).isSome = true) ∧ ∀ x ∈ names, x.2 = .free → (cl.lookup x.1).isSome = true
  | [], acc, _, ha => ⟨acc, rfl, ha, fun _ h => h, fun _ h => absurd h (by simp)⟩
  | (n, k) :: r, acc, hf, ha => by
    have hr : ∀ x ∈ r, x.2 = .free → ∃ c, env.cells.lookup x.1 = some c := fun x hx => hf x (List.mem_cons_of_mem _ hx)
    rw [List.forIn_cons]
    cases hk : (k == NameKind.free) with
    | false =>
      obtain ⟨cl, e, c1, c2, c3⟩ := closure_go r acc hr ha
      refine ⟨cl, ?_, c1, c2, fun x hx hx2 => ?_⟩
      · simp only [hk, Bool.false_eq_true, if_false]
        exact e
      · rcases List.mem_cons.mp hx with z | z
        · subst z
          have z2 : k = .free := hx2
          subst z2
          exact absurd hk (by decide)
        · exact c3 x z hx2
    | true =>
      have hk' : k = .free := by simpa using hk
      obtain ⟨c, hc⟩ := hf (n, k) List.mem_cons_self hk'
      have ha' : ∀ x d, ((n, c) :: acc).lookup x = some d → env.cells.lookup x = some d := fun x d e => by
        rw [List.lookup_cons] at e
        cases q : x == n with
        | true =>
          rw [q] at e
          have q' : x = n := by simpa using q
          subst q'
          rw [hc]; exact e
        | false => rw [q] at e; exact ha x d e
      obtain ⟨cl, e, c1, c2, c3⟩ := closure_go r ((n, c) :: acc) hr ha'
      have there : ((((n, c) :: acc).lookup n).isSome) = true := by simp
      refine ⟨cl, ?_, c1, fun x hx => c2 x ?_, fun x hx hx2 => ?_⟩
      · have hcell : cellOf env n = pure c := by unfold cellOf; rw [hc]
        simp only [hk, if_true, hcell]
        exact e
      · rw [List.lookup_cons]
        cases q : x == n with
        | true => rfl
        | false => exact hx
      · rcases List.mem_cons.mp hx with z | z
        · subst z; exact c2 n there
        · exact c3 x z hx2
theorem closure_ok {env : Env} {scope : Scope} (hf : ∀ x ∈ scope.names, x.2 = .free → ∃ c, env.cells.lookup x.1 = some c) :
    ∃ cl, closureFor scope env = pure cl ∧ (∀ x c, cl.lookup x = some c → env.cells.lookup x = some c) ∧ ∀ x ∈ scope.names, x.2 = .free → (cl.lookup x.1).isSome = true := by
  obtain ⟨cl, e, c1, _, c3⟩ := closure_go scope.names [] hf (fun x c h => absurd h (by simp))
  refine ⟨cl, ?_, c1, c3⟩
  unfold closureFor
  exact (congrArg (fun z => z >>= fun cs => (pure cs : Sem (List (Str × Addr)))) e).trans rfl

/-- what must be so of the names of a comprehension's block: N its names, js where those from around stand in the def's own -/
noncomputable def compOk (N : List Str) (js : List (Option Nat)) (XN : List Str) (xs scope : Scope) : Bool :=
  (scope.kind == .function) && (scope.names.all fun x => x.2 != .cell) && (scope.names.all fun x => x.2 != .local || (scope.names.lookup x.1 == some .local)) &&
  (scope.names.all fun x => x.2 != .free || (xs.names.lookup x.1 == some .cell || xs.names.lookup x.1 == some .free)) && (N.length == js.length) &&
  ((N.zip js).all fun p => match p.2 with | none => true | some j => (XN[j]? == some p.1) && (xs.names.lookup p.1 == some .cell || xs.names.lookup p.1 == some .free) && (scope.names.any fun x => x.1 == p.1 && x.2 == .free) && (scope.names.lookup p.1 == some .free))

structure CompNm (N : List Str) (js : List (Option Nat)) (XN : List Str) (xs scope : Scope) : Prop where
  kind : scope.kind = .function
  nocell : ∀ x ∈ scope.names, x.2 ≠ .cell
  names : ∀ x ∈ scope.names, x.2 = .local → scope.names.lookup x.1 = some .local
  clos : ∀ x ∈ scope.names, x.2 = .free → (xs.names.lookup x.1 = some .cell ∨ xs.names.lookup x.1 = some .free)
  len : N.length = js.length
  free : ∀ (i j : Nat) (x : Str), N[i]? = some x → js[i]? = some (some j) → XN[j]? = some x ∧ (xs.names.lookup x = some .cell ∨ xs.names.lookup x = some .free) ∧ (x, NameKind.free) ∈ scope.names ∧ scope.names.lookup x = some .free
theorem compOk_nm {N : List Str} {js : List (Option Nat)} {XN : List Str} {xs scope : Scope} (h : compOk N js XN xs scope = true) : CompNm N js XN xs scope := by
  unfold compOk at h
  simp only [Bool.and_eq_true, List.all_eq_true, beq_iff_eq, Bool.or_eq_true, bne_iff_ne, ne_eq] at h
  obtain ⟨⟨⟨⟨⟨h1, h2⟩, h3⟩, h4⟩, h5⟩, h6⟩ := h
  refine ⟨h1, fun x hx => h2 x hx, fun x hx e => ?_, fun x hx e => ?_, h5, fun i j x e1 e2 => ?_⟩
  · rcases h3 x hx with z | z
    · exact absurd e z
    · exact z
  · rcases h4 x hx with z | z
    · exact absurd e z
    · exact z
  · have hz : (N.zip js)[i]? = some (x, some j) := by rw [List.getElem?_zip_eq_some]; exact ⟨e1, e2⟩
    have := h6 _ (List.mem_of_getElem? hz)
    simp only [Bool.and_eq_true, beq_iff_eq, Bool.or_eq_true, List.any_eq_true] at this
    obtain ⟨⟨⟨a1, a2⟩, y, hy, b1, b2⟩, a4⟩ := this
    refine ⟨a1, a2, ?_, a4⟩
    obtain ⟨y1, y2⟩ := y
    have b1' : y1 = x := b1
    have b2' : y2 = .free := b2
    subst b1' b2'
    exact hy

theorem lookup_free {env : Env} {scope : Scope} {x : Str} (h : scope.names.lookup x = some .free) : (relabel scope env).names.lookup x = some .cell ∨ (relabel scope env).names.lookup x = some .free := by
  have gen : ∀ (l : List (Str × NameKind)), l.lookup x = some .free → ((l.map fun (n, k) => if (k == NameKind.free && env.scope.kind == .function && env.kindOf n == some .cell) then (n, NameKind.cell) else (n, k)).lookup x = some .cell ∨ (l.map fun (n, k) => if (k == NameKind.free && env.scope.kind == .function && env.kindOf n == some .cell) then (n, NameKind.cell) else (n, k)).lookup x = some .free) := by
    intro l
    induction l with
    | nil => intro h; simp at h
    | cons y r ih =>
      obtain ⟨n, k⟩ := y
      intro h
      rw [List.lookup_cons] at h
      rw [List.map_cons]
      cases q : x == n with
      | false =>
        rw [q] at h
        have := ih h
        by_cases hc : (k == NameKind.free && env.scope.kind == .function && env.kindOf n == some .cell) = true
        · simpa [hc, List.lookup_cons, q] using this
        · simpa [hc, List.lookup_cons, q] using this
      | true =>
        rw [q] at h
        have h' : k = .free := Option.some.inj h
        subst h'
        by_cases hc : (NameKind.free == NameKind.free && env.scope.kind == .function && env.kindOf n == some .cell) = true
        · exact .inl (by show List.lookup x ((if (NameKind.free == NameKind.free && env.scope.kind == .function && env.kindOf n == some .cell) = true then (n, NameKind.cell) else (n, NameKind.free)) :: _) = _; rw [if_pos hc, List.lookup_cons, q])
        · exact .inr (by show List.lookup x ((if (NameKind.free == NameKind.free && env.scope.kind == .function && env.kindOf n == some .cell) = true then (n, NameKind.cell) else (n, NameKind.free)) :: _) = _; rw [if_neg hc, List.lookup_cons, q])
  exact gen scope.names h

noncomputable def cxComp (X : Cx) (N : List Str) (scope : Scope) (cl : List (Str × Addr)) (C : Addr) (s : Shared) (H : Hp) (fp : List Addr) (E : Value → Shared → Prop) : Cx :=
  { X with N := N, s₀ := s, H₀ := H, env := compEnvC scope cl C X.env, outer := X.stack, ex := fp, fn := fun _ => false, pn := [], xe := E }
/-- the block's names at its entry -/
noncomputable def compSt (js : List (Option Nat)) (σ : L2.St) : L2.St := js.map fun j => j.bind fun k => (σ[k]?).join

section
variable {prog : Program} {w : World} {A : Around} {R : Result → Shared → Prop} {s : Shared}
theorem compLoop_G {elt target iter : Expr} {ifs : List Expr} {scope : Scope} {pos : Pos} {it acc : Value} {env : Env} (I : Nat → Shared → Prop)
    (turn : ∀ n s, I n s → wpAny (model prog w) A (pyNext it) (fun r s₁ => match r with
      | none => R (.ok .next) s₁
      | some v => wpAny (model prog w) A (letOwnedTupleGo target it v) (fun _ s₁' => wpAny (model prog w) A (assign target env v) (fun _ s₂ =>
          wpAny (model prog w) A (forIn ifs true fun c r => if r = true then do let ok ← isTrue c env (eval c env); pure (ForInStep.yield ok) else pure (ForInStep.yield r)) (fun ok s₃ =>
            if ok = true then wpAny (model prog w) A (eval elt env) (fun x s₄ =>
              wpAny (model prog w) A (call (.builtin "list.append") [acc, x]) (fun _ s₅ => ∃ m, m < n ∧ I m s₅) (notedBy (model prog w) A env fun e s' => R (.error e) s') s₄) (notedBy (model prog w) A env fun e s' => R (.error e) s') s₃
            else ∃ m, m < n ∧ I m s₃) (notedBy (model prog w) A env fun e s' => R (.error e) s') s₂) (notedBy (model prog w) A env fun e s' => R (.error e) s') s₁')
          (notedBy (model prog w) A env fun e s' => R (.error e) s') s₁) (notedBy (model prog w) A env fun e s' => R (.error e) s') s)
    (n : Nat) (h : I n s) : codeAny (model prog w) A (.compLoop (.ListComp elt [⟨target, iter, ifs, 0⟩] scope pos) 0 it acc env) R s := by
  refine codeAny_loop rfl I (fun n s hI => ?_) n h
  show wpAny _ A ((compTurn (.ListComp elt [⟨target, iter, ifs, 0⟩] scope pos) 0 it acc env).onRaise (fun x => do noteFrame x env; theTreesLotGoes x)) _ _ s
  refine wpAny_noted ?_
  rw [compTurn_list]
  refine wpAny_bind (wpAny_standAt (wpAny_bind (wpAny_mono (turn n s hI) (fun r s₁ h₁ => ?_) fun _ _ h' => h')))
  cases r with
  | none => exact wpAny_pure h₁
  | some v =>
    refine wpAny_bind (wpAny_mono h₁ (fun _ s₁' h₁' => ?_) fun _ _ h' => h')
    refine wpAny_bind (wpAny_mono h₁' (fun _ s₂ h₂ => wpAny_bind (wpAny_mono h₂ (fun ok s₃ h₃ => ?_) fun _ _ h' => h')) fun _ _ h' => h')
    cases ok with
    | false => exact wpAny_pure ⟨rfl, h₃⟩
    | true =>
      exact wpAny_bind (wpAny_bind (wpAny_mono h₃ (fun x s₄ h₄ => wpAny_bind (wpAny_mono h₄ (fun _ s₅ h₅ => wpAny_pure (wpAny_pure ⟨rfl, h₅⟩)) fun _ _ h' => h')) fun _ _ h' => h'))
end

/-- the block's tests: none, or one -/
noncomputable def PTs (X : Cx) (ifs : List Expr) (t : TT) : Prop :=
  ∀ (pins : List (Addr × Obj)) (s : Shared) (σ : L2.St) (H : Hp) (Q : Bool → Hp → Prop), Inv X pins σ H s → t σ H Q →
    wpAny (model X.prog X.w) X.A (forIn ifs true fun c r => if r = true then do let ok ← isTrue c X.env (eval c X.env); pure (ForInStep.yield ok) else pure (ForInStep.yield r)) (TP X pins σ Q) X.xe s
noncomputable def tNoIf : TT := fun _ H Q => Q true H
theorem pts_nil {X : Cx} : PTs X [] tNoIf := fun _ _ _ H _ I h => wpAny_tests_nil ⟨H, I, h⟩
theorem pts_one {X : Cx} {c : Expr} {t : TT} (hc : PT X c t) : PTs X [c] t := fun pins s σ H Q I h => wpAny_tests_one (hc pins s σ H Q I h)

noncomputable def tCompR (js : List (Option Nat)) (g : TG) (tc : TT) (te : TE) (σ : L2.St) (Q : VK) (J : It) (H1 : Hp) : Prop := ∀ p, H1 p = none →
  ∃ W : Nat → Nat → L2.St → Hp → Prop, (∃ m, W 0 m (compSt js σ) (upd H1 p (.lst []))) ∧ ∀ i m σ' H', W i m σ' H' →
    (J.stop i H' ∧ Q (.ref p) H') ∨ (J.go i H' ∧ ∃ N : L2.St → Hp → Prop, (∀ σ2 H2, N σ2 H2 → ∃ m', m' < m ∧ W (i + 1) m' σ2 H2) ∧
      ∀ x H2, J.yld i H' x H2 → g x σ' H2 fun σ3 H3 => tc σ3 H3 fun k H4 => if k = true then te σ3 H4 fun v H5 => ∃ xs, H5 p = some (.lst xs) ∧ xs.length < sizeLine ∧ N σ3 (upd H5 p (.lst (xs ++ [v]))) else N σ3 H4)
noncomputable def tComp (js : List (Option Nat)) (wi : TI) (g : TG) (tc : TT) (te : TE) : TE := fun σ H Q => wi σ H (tCompR js g tc te σ Q)

section
variable {X : Cx} {N XN : List Str} {js : List (Option Nat)} {xs scope : Scope} {elt target iter : Expr} {ifs : List Expr} {pos : Pos} {g : TG} {tc : TT} {te : TE}
theorem comp_block {pins : List (Addr × Obj)} {σ : L2.St} {H2 : Hp} {s2 : Shared} {it : Addr} {fp : List Addr} {tn : Nat → Heap → Prop} {J : It} {cl : List (Str × Addr)} {Q : V → Hp → Prop} {RR : Value → Addr → Result → Shared → Prop} {E : Value → Shared → Prop}
    (hc : X.calm = true) (hN : X.N = XN) (hS : X.env.scope = xs) (nm : CompNm N js XN xs scope) (hcl1 : ∀ x c, cl.lookup x = some c → X.env.cells.lookup x = some c) (hcl2 : ∀ x ∈ scope.names, x.2 = .free → (cl.lookup x.1).isSome = true)
    (hg : ∀ (cl : List (Str × Addr)) (C : Addr) (s : Shared) (H : Hp) (fp : List Addr) (E : Value → Shared → Prop), PG (cxComp X N scope cl C s H fp E) target g)
    (ht : ∀ (cl : List (Str × Addr)) (C : Addr) (s : Shared) (H : Hp) (fp : List Addr) (E : Value → Shared → Prop), PTs (cxComp X N scope cl C s H fp E) ifs tc)
    (he : ∀ (cl : List (Str × Addr)) (C : Addr) (s : Shared) (H : Hp) (fp : List Addr) (E : Value → Shared → Prop), PE (cxComp X N scope cl C s H fp E) elt te)
    (I2 : Inv X pins σ H2 s2) (T : Turn X.prog X.w X.K target J fp it tn) (st2 : tn 0 s2.heap) (f2 : ∀ b ∈ fp, FpOk X pins H2 b)
    (hW : tCompR js g tc te σ Q J H2)
    (fin : ∀ (p C : Addr) (H' : Hp) (s' : Shared) (m : Str → Option Value), Inv X pins σ H' s' → s'.heap.Ns C m → s2.heap.objs.size ≤ C → H' C = none → Q (.ref p) H' → RR (.ref p) C (.ok .next) s') :
    wpAny (model X.prog X.w) X.A (newList []) (fun acc s₃ => wpAny (model X.prog X.w) X.A (newFunctionEnv scope X.env.globals cl [] X.env.qual none .none (some X.env)) (fun cenv s₄ =>
      codeAny (model X.prog X.w) X.A (.compStart (.ListComp elt [⟨target, iter, ifs, 0⟩] scope pos) 0 (.ref it) acc { cenv with scope := relabel scope X.env }) (RR acc cenv.locals) s₄) E s₃) E s2 := by
  refine wpAny_newObj_type (wpAny_newFunctionEnv nm.nocell (by intro y hy; simp at hy) (fun h₁ hns₁ hsb₁ => ?_) nm.kind)
  obtain ⟨W, ⟨m0, w0⟩, turn⟩ := hW s2.heap.objs.size I2.fresh
  have I3 : Inv X pins σ (upd H2 s2.heap.objs.size (.lst [])) { s2 with heap := s2.heap.push { cls := .type "list", data := .seq ([] : List Value).toArray } } := I2.lnew (ys := []) (its := []) (t' := s2.toks) .nil (Nat.zero_le _)
  generalize hs3 : ({ s2 with heap := s2.heap.push { cls := .type "list", data := .seq ([] : List Value).toArray } } : Shared) = s3 at I3 hns₁ hsb₁ ⊢
  have hh3 : s3.heap = s2.heap.push { cls := .type "list", data := .seq ([] : List Value).toArray } := by rw [← hs3]
  have z3 : s3.heap.objs.size = s2.heap.objs.size + 1 := by rw [hh3, Heap.size_push]
  generalize hP : s2.heap.objs.size = P at w0 turn I3 z3 ⊢
  have hH3 : ∀ b ∈ fp, upd H2 P (.lst []) b = none := fun b hb => by
    have nb : b ≠ P := by
      obtain ⟨o, eo, _⟩ := T.obj 0 s2.heap st2 b hb
      have := Heap.lt_size eo
      rw [hP] at this
      exact Nat.ne_of_lt this
    rw [upd_ne nb]
    exact (f2 b hb).1
  generalize hH : upd H2 P (.lst []) = H3 at w0 I3 hH3
  have f3 : ∀ b ∈ fp, b ≠ X.env.locals ∧ b ∉ X.fs ∧ (b ∈ X.ex ∨ X.s₀.heap.objs.size ≤ b) ∧ (∀ x c, X.env.cells.lookup x = some c → c ≠ b) ∧ ∀ p ∈ X.pn ++ pins, p.1 ≠ b := fun b hb => (f2 b hb).2
  have fpl : ∀ b ∈ fp, b < s3.heap.objs.size := fun b hb => by
    obtain ⟨o, eo, _⟩ := T.obj 0 s2.heap st2 b hb
    have hl := Heap.lt_size eo
    exact Nat.lt_of_lt_of_le hl (by rw [z3, hP]; exact Nat.le_succ _)
  have st3 : tn 0 s3.heap := T.keep 0 _ _ st2 fun b _ o e => by rw [hh3]; exact Heap.get?_push_of_some _ e
  generalize hC : s3.heap.objs.size = C at hns₁ hsb₁ z3 fpl ⊢
  have old : ∀ b o, s3.heap.get? b = some o → h₁.get? b = some o := fun b o e => hsb₁.extBut b o (by have hl := Heap.lt_size e; rw [hC] at hl; exact Nat.ne_of_lt hl) (Heap.get?_push_of_some _ e)
  have stk : ∀ b ∈ fp, b ∉ frs X.stack := fun b hb z => by
    rcases List.mem_cons.mp (I3.stkSub b z) with q | q
    · exact (f3 b hb).1 q
    · exact (f3 b hb).2.1 q
  have ok : ∀ E', (cxComp X N scope cl C s3 H3 fp E').Ok := fun E' => {
    mod := I3.ok.mod
    kind := nm.kind
    glob := I3.ok.glob
    blt := I3.ok.blt
    above := Nat.le_of_eq hC
    inj := fun x y c h1 h2 => I3.ok.inj x y c (hcl1 x c h1) (hcl1 y c h2)
    has := fun x hx => by
      have key : (x, NameKind.free) ∈ scope.names := by
        have hl : (relabel scope X.env).names.lookup x = some .cell ∨ (relabel scope X.env).names.lookup x = some .free := hx
        have gen : ∀ (l : List (Str × NameKind)), (∀ y ∈ l, y.2 ≠ .cell) → ((l.map fun (n, k) => if (k == NameKind.free && X.env.scope.kind == .function && X.env.kindOf n == some .cell) then (n, NameKind.cell) else (n, k)).lookup x = some .cell ∨ (l.map fun (n, k) => if (k == NameKind.free && X.env.scope.kind == .function && X.env.kindOf n == some .cell) then (n, NameKind.cell) else (n, k)).lookup x = some .free) → (x, NameKind.free) ∈ l := by
          intro l
          induction l with
          | nil => intro _ h; rcases h with h | h <;> simp at h
          | cons y r ih =>
            obtain ⟨n, k⟩ := y
            intro hn h
            have hr := ih (fun y hy => hn y (List.mem_cons_of_mem _ hy))
            have hk : k ≠ .cell := hn (n, k) List.mem_cons_self
            rw [List.map_cons] at h
            cases q : x == n with
            | false =>
              refine List.mem_cons_of_mem _ (hr ?_)
              by_cases hc : (k == NameKind.free && X.env.scope.kind == .function && X.env.kindOf n == some .cell) = true
              · simpa [hc, List.lookup_cons, q] using h
              · simpa [hc, List.lookup_cons, q] using h
            | true =>
              have q' : x = n := by simpa using q
              subst q'
              by_cases hc : (k == NameKind.free && X.env.scope.kind == .function && X.env.kindOf x == some .cell) = true
              · have : k = .free := by
                  simp only [Bool.and_eq_true, beq_iff_eq] at hc
                  exact hc.1.1
                subst this
                exact List.mem_cons_self
              · have h' : k = .cell ∨ k = .free := by simpa [hc, List.lookup_cons] using h
                rcases h' with z | z
                · exact absurd z hk
                · subst z; exact List.mem_cons_self
        exact gen scope.names nm.nocell hl
      exact Option.isSome_iff_exists.mp (hcl2 _ key rfl)
    cab := fun _ _ h _ => nomatch h
    hd := I3.ok.hd
    frames := I3.ok.frames
    stk := .inl rfl
    exf := fun b hb => ⟨Nat.ne_of_lt (fpl b hb), fun x c e => (f3 b hb).2.2.2.1 x c (hcl1 x c e)⟩
    bs := I3.bs
    bsz := Nat.le_trans I3.ok.bsz I3.sz
    noex := fun b o e hb => by
      rcases (f3 b hb).2.2.1 with z | z
      · exact I3.ok.noex b o e z
      · have h1 := Heap.lt_size e
        have h2 := I3.ok.bsz
        exact absurd (Nat.lt_of_lt_of_le h1 (Nat.le_trans h2 z)) (Nat.lt_irrefl _)
    exfs := stk
    funs := I3.stack
    frf := I3.stkFree }
  have start : ∀ E', Inv (cxComp X N scope cl C s3 H3 fp E') [] (compSt js σ) H3 { s3 with heap := h₁, toks := s3.toks + ([] : List (Str × Value)).length } := fun E' => {
    ok := ok E'
    os := rfl
    bare := I3.bare
    base := Un.kept old
    loc := by
      refine ⟨_, hns₁, fun i x v e1 e2 e3 => ?_⟩
      have e2' : ((js[i]?).map fun j => j.bind fun k => (σ[k]?).join) = some (some v) := by
        have := e2
        unfold compSt at this
        rwa [List.getElem?_map] at this
      cases hj : js[i]? with
      | none => rw [hj] at e2'; cases e2'
      | some jo =>
        rw [hj] at e2'
        cases jo with
        | none => cases e2'
        | some j =>
          have e2'' : (σ[j]?).join = some v := Option.some.inj e2'
          have e4 : σ[j]? = some (some v) := by
            cases q : σ[j]? with
            | none => rw [q] at e2''; cases e2''
            | some o => rw [q] at e2''; cases o with
              | none => cases e2''
              | some y => cases e2''; rfl
          obtain ⟨a1, a2, a3, a4⟩ := nm.free i j x e1 hj
          obtain ⟨mX, hnX, lX⟩ := I3.loc
          have vis : Vis X.env.scope x := by rw [hS]; exact .inr a2
          obtain ⟨u, ru, lu⟩ := lX j x v (by rw [hN]; exact a1) e4 vis
          refine ⟨u, ru, ?_⟩
          rcases lu with ⟨k1, _⟩ | ⟨k1, c, e5, z⟩
          · exfalso
            have k1' : X.env.scope.names.lookup x = some .local := k1
            rw [hS] at k1'
            rcases a2 with q | q <;> rw [q] at k1' <;> cases k1'
          · obtain ⟨c', e6⟩ := Option.isSome_iff_exists.mp (hcl2 _ a3 rfl)
            have e7 := hcl1 x c' e6
            rw [e5] at e7
            cases e7
            refine .inr ⟨?_, c, e6, ?_⟩
            · rcases e3 with q | q | q
              · exfalso
                have := lookup_free (env := X.env) a4
                rcases this with t | t <;> (have q' : (relabel scope X.env).names.lookup x = some .local := q; rw [t] at q'; cases q')
              · exact .inl q
              · exact .inr q
            · obtain ⟨o, ho, hd⟩ := z
              exact ⟨o, old c o ho, hd⟩
    cell := fun x c e => by
      obtain ⟨v, o, ho, hd⟩ := I3.cell x c (hcl1 x c e)
      exact ⟨v, o, old c o ho, hd⟩
    free := I3.hok.fresh (Nat.le_of_eq hC)
    freeC := fun x c e => I3.freeC x c (hcl1 x c e)
    pin := fun p hp => absurd (show p ∈ ([] : List (Addr × Obj)) from hp) (by simp)
    hok := I3.hok.kept old
    len := by unfold compSt; rw [List.length_map]; exact nm.len.symm }
  have done : ∀ {E' : Value → Shared → Prop} {σ' : L2.St} {H' : Hp} {s' : Shared}, Inv (cxComp X N scope cl C s3 H3 fp E') [] σ' H' s' → Q (.ref P) H' → RR (.ref P) C (.ok .next) s' := fun {E' σ' H' s'} J' q => by
    obtain ⟨m', hn', _⟩ := J'.loc
    refine fin P C H' s' m' (I3.call' (ch := fp) J'.os J'.base J'.hok J'.bare fun b hb => ⟨(f3 b hb).2.2.1, (f3 b hb).1, (f3 b hb).2.2.2.1, (f3 b hb).2.2.2.2⟩) hn' (by rw [z3, hP]; exact Nat.le_succ _) J'.free q
  have loop : ∀ s₄ : Shared, s₄ = { s3 with heap := h₁, toks := s3.toks + ([] : List (Str × Value)).length } →
      codeAny (model X.prog X.w) X.A (.compLoop (.ListComp elt [⟨target, iter, ifs, 0⟩] scope pos) 0 (.ref it) (.ref P) (compEnvC scope cl C X.env)) (RR (.ref P) C) s₄ := by
    rintro s₄ rfl
    generalize hNB : notedBy (model X.prog X.w) X.A (compEnvC scope cl C X.env) (fun e s' => RR (.ref P) C (.error e) s') = NB
    have stat : ∀ {H' : Hp}, (∀ b ∈ fp, H' b = none) → ∀ b ∈ fp, FpOk (cxComp X N scope cl C s3 H3 fp NB) [] H' b := fun hn b hb =>
      ⟨hn b hb, Nat.ne_of_lt (fpl b hb), stk b hb, .inl hb, fun x c e => (f3 b hb).2.2.2.1 x c (hcl1 x c e), fun p hp => absurd (show p ∈ ([] : List (Addr × Obj)) from hp) (by simp)⟩
    refine compLoop_G (fun n s' => ∃ i σ' H', Inv (cxComp X N scope cl C s3 H3 fp NB) [] σ' H' s' ∧ tn i s'.heap ∧ (∀ b ∈ fp, H' b = none) ∧ W i n σ' H') ?_ m0 ⟨0, compSt js σ, H3, start NB, T.keep 0 _ _ st3 fun b _ o e => old b o e, hH3, w0⟩
    rw [hNB]
    rintro n s5 ⟨i, σ5, H5, I5, st5, fr5, w5⟩
    rcases turn i n σ5 H5 w5 with ⟨stop, qn⟩ | ⟨go, Nx, hNx, step⟩
    · refine thn (T.done (cxComp X N scope cl C s3 H3 fp NB) rfl rfl rfl hc i [] s5 σ5 H5 NB I5 (stat fr5) st5 stop) fun r s6 ⟨hr, I6⟩ => ?_
      subst hr
      exact done I6 qn
    · refine thn (T.item (cxComp X N scope cl C s3 H3 fp NB) rfl rfl rfl hc i [] s5 σ5 H5 NB I5 (stat fr5) st5 go) fun r s6 ⟨u, hr, h6⟩ => ?_
      subst hr
      refine thn h6 fun _ s7 ⟨x, H7, I7, r7, y7, st7, fr7⟩ => ?_
      have I7' := I7.pinned (stat fr7) (T.obj _ _ st7)
      have again : ∀ {σ8 : L2.St} {H8 : Hp} {s8 : Shared}, Inv (cxComp X N scope cl C s3 H3 fp NB) ([] ++ pinsAt fp s7.heap) σ8 H8 s8 → Nx σ8 H8 → ∃ m, m < n ∧ ∃ i σ' H', Inv (cxComp X N scope cl C s3 H3 fp NB) [] σ' H' s8 ∧ tn i s8.heap ∧ (∀ b ∈ fp, H' b = none) ∧ W i m σ' H' := fun {σ8 H8 s8} I8 n8 => by
        obtain ⟨m', hm, w8⟩ := hNx σ8 H8 n8
        refine ⟨m', hm, i + 1, σ8, H8, I8.unpinned, T.keep _ _ _ st7 fun b hb o e => (I8.pin (b, o) (List.mem_append_right _ (List.mem_append_right _ (mem_pinsAt hb e)))).1, fun b hb => ?_, w8⟩
        obtain ⟨o, e, d⟩ := T.obj _ _ st7 b hb
        exact (I8.pin (b, o) (List.mem_append_right _ (List.mem_append_right _ (mem_pinsAt hb e)))).2.1
      refine thn (hg cl C s3 H3 fp NB _ s7 σ5 H7 x u _ I7' r7 (step x H7 y7)) fun _ s8 ⟨σ8, H8, I8, q8⟩ => ?_
      refine thn (ht cl C s3 H3 fp NB _ s8 σ8 H8 _ I8 q8) fun k s9 ⟨H9, I9, q9⟩ => ?_
      cases k with
      | false =>
        rw [if_neg (by decide)] at q9 ⊢
        exact again I9 q9
      | true =>
        rw [if_pos rfl] at q9 ⊢
        refine thn (he cl C s3 H3 fp NB _ s9 σ8 H9 _ I9 q9) fun uv s10 ⟨v, H10, I10, r10, xs', hx1, hx2, q10⟩ => ?_
        refine thn (mt_append (X := cxComp X N scope cl C s3 H3 fp NB) _ s10 σ8 H10 (.ref P) [v] (.ref P) [uv] (fun _ H11 => Nx σ8 H11) I10 rfl (.cons r10 .nil) ⟨P, xs', v, rfl, rfl, hx1, hx2, q10⟩) fun _ s11 ⟨_, H11, I11, _, q11⟩ => ?_
        exact again I11 q11
  exact codeAny_compStart_list (loop _ rfl) (T.self _ 0 _ _ _ (T.keep 0 _ _ st3 fun b _ o e => old b o e) (loop _ rfl))
end
section
variable {X : Cx} {N XN : List Str} {js : List (Option Nat)} {xs scope : Scope} {elt target iter : Expr} {ifs : List Expr} {pos : Pos} {wi : TI} {g : TG} {tc : TT} {te : TE}
theorem comp_turned {pins : List (Addr × Obj)} {σ σ' : L2.St} {H H' : Hp} {s s' : Shared} {C : Addr} {h' : Heap} (I2 : Inv X pins σ H s) (J : Inv X pins σ' H' s') (hC : s.heap.objs.size ≤ C) (hn : H' C = none) (sb : Heap.SameBut C s'.heap h') : Inv X pins σ' H' { s' with heap := h' } :=
  J.turned (t' := s'.toks) (it := C) (fun b o hb e => sb.extBut b o hb e) hn (Nat.ne_of_gt (Nat.lt_of_lt_of_le I2.lt hC)) (.inr (Nat.le_trans I2.sz hC))
    (fun x c e => by
      obtain ⟨v, q⟩ := I2.cell x c e
      exact Nat.ne_of_lt (Nat.lt_of_lt_of_le q.lt hC)) fun p hp => Nat.ne_of_lt (Nat.lt_of_lt_of_le (Heap.lt_size (I2.pin p hp).1) hC)
theorem pe_comp (hc : X.calm = true) (hN : X.N = XN) (hS : X.env.scope = xs) (hok : compOk N js XN xs scope = true) (hi : PI X target iter wi)
    (hg : ∀ (cl : List (Str × Addr)) (C : Addr) (s : Shared) (H : Hp) (fp : List Addr) (E : Value → Shared → Prop), PG (cxComp X N scope cl C s H fp E) target g)
    (ht : ∀ (cl : List (Str × Addr)) (C : Addr) (s : Shared) (H : Hp) (fp : List Addr) (E : Value → Shared → Prop), PTs (cxComp X N scope cl C s H fp E) ifs tc)
    (he : ∀ (cl : List (Str × Addr)) (C : Addr) (s : Shared) (H : Hp) (fp : List Addr) (E : Value → Shared → Prop), PE (cxComp X N scope cl C s H fp E) elt te)
    (hs : ∀ x, foldedSetIterable iter X.env x = pure x := by intro _; rfl) : PE X (.ListComp elt [⟨target, iter, ifs, 0⟩] scope pos) (tComp js wi g tc te) := by
  intro pins s σ H Q I h
  have nm := compOk_nm hok
  obtain ⟨cl, hcl, c1, c2⟩ := closure_ok (env := X.env) (scope := scope) fun x hx e => I.ok.has x.1 (by
    rcases nm.clos x hx e with q | q
    · exact .inl (by show X.env.scope.names.lookup _ = _; rw [hS]; exact q)
    · exact .inr (by show X.env.scope.names.lookup _ = _; rw [hS]; exact q))
  rw [eval_ListComp]
  refine wpAny_comprehension_free (use := none) rfl hs hcl nm.kind nm.names (thn (hi pins s σ H _ I h) fun v s1 h1 => thn h1 fun itv s2 h2 => ?_)
  obtain ⟨it, fp, tn, J, H2, e, I2, T, st2, f2, hW⟩ := h2
  subst e
  refine comp_block (RR := fun acc C => compPost (model X.prog X.w) X.A X.xe none (EP X pins σ Q) acc C) hc hN hS nm c1 c2 hg ht he I2 T st2 f2 hW fun p C H' s' m J' hn hC hCf q => ?_
  exact ⟨m, hn, fun h' hs' => ⟨.ref p, H', comp_turned I2 J' hC hCf hs', rfl, q⟩⟩
end

/-! ### what a walk hands out, where nothing that it walks is changed -/
noncomputable def Feeds (J : It) (H : Hp) (xs : List V) : Prop := ∀ H', Same H H' → (∀ i x, xs[i]? = some x → J.go i H' ∧ ∀ y H2, J.yld i H' y H2 → y = x ∧ H2 = H') ∧ J.stop xs.length H'
theorem feeds_list {K : PySem.W.Frag} {H : Hp} {a : Addr} {xs : List V} (h : SqL K H a xs) : Feeds (Itl K a) H xs := fun H' e =>
  ⟨fun i x hx => ⟨⟨xs, x, e.seq h, hx⟩, fun y H2 hy => by
    obtain ⟨e1, e2⟩ := hy
    have := e2 xs (e.seq h)
    rw [hx] at this
    exact ⟨(Option.some.inj this).symm, e1⟩⟩, ⟨xs, e.seq h, Nat.le_refl _⟩⟩
theorem feeds_range {H : Hp} {lo : Int} {n : Nat} : Feeds (Itr lo n) H ((List.range n).map fun i => V.int (lo + (i : Nat))) := fun H' _ =>
  ⟨fun i x hx => by
    rw [List.getElem?_map] at hx
    cases q : (List.range n)[i]? with
    | none => rw [q] at hx; cases hx
    | some j =>
      have hi : i < n := by
        obtain ⟨h1, _⟩ := List.getElem?_eq_some_iff.mp q
        simpa using h1
      have hj : j = i := by
        obtain ⟨_, h2⟩ := List.getElem?_eq_some_iff.mp q
        simpa using h2.symm
      rw [q] at hx
      subst hj
      exact ⟨hi, fun y H2 hy => ⟨hy.2.trans (Option.some.inj hx), hy.1⟩⟩, by show n ≤ _; simp⟩
theorem gk_name {i : Nat} (x : V) (σ' : L2.St) (H' : Hp) (R R' : L2.St → Hp → Prop) (h : ∀ σ3 H3, R σ3 H3 → R' σ3 H3) (z : gName i x σ' H' R) : gName i x σ' H' R' := h _ _ z
end Add

namespace Add
open PySem PySem.Spec PyProof.Rows L2
/-! ### a text walked sign by sign -/
section
variable {X : Cx} {tg : Expr}
end
/-! ### all of a list of truths; texts compared, cut; products of great numbers -/
section
variable {X : Cx}
theorem star_lst {a b} {es : List Expr} {env : Env} : starEach (.List a b :: es) env = (false, eval (.List a b) env) :: starEach es env := by rw [starEach]; intro e p' h; cases h
theorem star_tup {a b c} {es : List Expr} {env : Env} : starEach (.Tuple a b c :: es) env = (false, eval (.Tuple a b c) env) :: starEach es env := by rw [starEach]; intro e p' h; cases h
theorem star_cmp {a b c d} {es : List Expr} {env : Env} : starEach (.ListComp a b c d :: es) env = (false, eval (.ListComp a b c d) env) :: starEach es env := by rw [starEach]; intro e p' h; cases h
theorem star_con {a b c} {es : List Expr} {env : Env} : starEach (.Constant a b c :: es) env = (false, eval (.Constant a b c) env) :: starEach es env := by rw [starEach]; intro e p' h; cases h
theorem star_nam {a b} {es : List Expr} {env : Env} : starEach (.Name a b :: es) env = (false, eval (.Name a b) env) :: starEach es env := by rw [starEach]; intro e p' h; cases h
theorem star_cal {a b c d} {es : List Expr} {env : Env} : starEach (.Call a b c d :: es) env = (false, eval (.Call a b c d) env) :: starEach es env := by rw [starEach]; intro e p' h; cases h
theorem star_bin {a b c d} {es : List Expr} {env : Env} : starEach (.BinOp a b c d :: es) env = (false, eval (.BinOp a b c d) env) :: starEach es env := by rw [starEach]; intro e p' h; cases h
theorem star_sub {a b c} {es : List Expr} {env : Env} : starEach (.Subscript a b c :: es) env = (false, eval (.Subscript a b c) env) :: starEach es env := by rw [starEach]; intro e p' h; cases h
theorem star_att {a b c} {es : List Expr} {env : Env} : starEach (.Attribute a b c :: es) env = (false, eval (.Attribute a b c) env) :: starEach es env := by rw [starEach]; intro e p' h; cases h
theorem star_ife {a b c d} {es : List Expr} {env : Env} : starEach (.IfExp a b c d :: es) env = (false, eval (.IfExp a b c d) env) :: starEach es env := by rw [starEach]; intro e p' h; cases h
theorem star_una {a b c} {es : List Expr} {env : Env} : starEach (.UnaryOp a b c :: es) env = (false, eval (.UnaryOp a b c) env) :: starEach es env := by rw [starEach]; intro e p' h; cases h
end
section
variable {K : PySem.W.Frag}
theorem kit_str_str : PySem.W.kitOne K (.type "str") (.type "str") = some true := by kernel_rfl
theorem kit_str_int : PySem.W.kitOne K (.type "str") (.type "int") = some false := by kernel_rfl
theorem kit_int_str : PySem.W.kitOne K (.type "int") (.type "str") = some false := by kernel_rfl
theorem kit_bool_str : PySem.W.kitOne K (.type "bool") (.type "str") = some false := by kernel_rfl
theorem kit_non_int : PySem.W.kitOne K (.type "NoneType") (.type "int") = some false := by kernel_rfl
theorem kit_non_str : PySem.W.kitOne K (.type "NoneType") (.type "str") = some false := by kernel_rfl
theorem kit_lst_int : PySem.W.kitOne K (.type "list") (.type "int") = some false := by kernel_rfl
theorem kit_lst_str : PySem.W.kitOne K (.type "list") (.type "str") = some false := by kernel_rfl
end
end Add

namespace Add
open PySem PySem.Spec PyProof.Rows L2
/-! ### error classes of one's own: made -/
section
variable {prog : Program} {w : World} {A : Around} {E : Value → Shared → Prop} {h : Heap} {g : Array GenState} {d : Drawn} {t : Nat} {os : OsState}
variable {nm q : Str} {C N : Addr} {bs bm bmB : List Value} {hdct : Bool} {sn : List Str} {sub : List Value} {ab : Bool} {col : Option Bool} {dd : Option Addr} {k0 k1 k2 k3 k5 : Option Value} {B Bn newId nid initId inN : String} {bmN : List Value}

noncomputable abbrev excTup (rest : List Value) : Obj := { cls := .type "tuple", data := .seq rest.toArray }
noncomputable abbrev excNew (C t : Addr) : Obj := { cls := .ref C, data := .fields #[.ref t, .none, .none, .none, .bool false, .none] }

theorem type_call_own (Fn : ExcBaseFacts Bn newId inN bmN) (hBn : bmB.contains (.type Bn) = true) (F : ExcBaseFacts B nid initId bmB) (T : OwnTail h bmB bm) {mN : Str → Option Value} {rest : List Value} {R : Result → Shared → Prop} {fI : Addr} {A' : Around}
    (hC : h.get? C = some (excClassObj nm q C N bs bm hdct sn sub ab col dd k0 k1 k2 k3 k5 newId)) (hn : h.Ns N mN) (hni : mN "__init__" = some (.ref fI)) (hb : ∀ self, PySem.W.Looks (model prog w) h (bindSpecial (.ref fI) self) (.ref fI, [self]))
    (hq : codeAny (model prog w) A (.call (.ref fI) ⟨.ref (h.objs.size + 1) :: rest, []⟩) (PySem.W.InitBack (h.objs.size + 1) R) ⟨(h.push (excTup rest)).push (excNew C h.objs.size), g, d, t, os⟩) (hrest : rest.length ≤ sizeLine) :
    wpAny (model prog w) A (Builtin.«type.__call__» ⟨.ref C :: rest, []⟩) (fun fin s' => match fin with | .done f => R (.ok f) s' | .again c' => c'.quiet = true ∧ codeAny (model prog w) A' c' R s') (fun e s' => R (.error e) s') ⟨h, g, d, t, os⟩ := by
  repeat (first | with_reducible refine wpAny_loadPart_at hC ?_ | with_reducible refine wpAny_madeBy_exc hC ?_ | wp_step)
  refine codeAny_call_builtin_code (Code.quiet_builtin _ Fn.quiet) (wpAny_check_new_subU Fn hBn T hC ?_)
  refine codeAny_exc_new_subU Fn hBn F T hC ?_ hrest
  show wpAny _ _ _ _ _ _
  have kk : ∀ b o, h.get? b = some o → ((h.push (excTup rest)).push (excNew C h.objs.size)).get? b = some o := fun b o e => Heap.get?_push_of_some _ (Heap.get?_push_of_some _ e)
  have hC₁ := kk _ _ hC
  have hn₁ : ((h.push (excTup rest)).push (excNew C h.objs.size)).Ns N mN := let ⟨o, es, ep, e, r⟩ := hn; ⟨o, es, ep, kk _ _ e, r⟩
  have hget : ((h.push (excTup rest)).push (excNew C h.objs.size)).get? (h.objs.size + 1) = some (excNew C h.objs.size) := by heap_get
  have hcC : (Value.ref C :: bm).contains (.ref C) = true := by simp
  have T₁ := T.keeps (h' := (h.push (excTup rest)).push (excNew C h.objs.size)) kk
  have b1 := (hb (.ref (h.objs.size + 1))).keeps kk
  unfold isInstance
  repeat (first | with_reducible refine wpAny_loadPart_at hget ?_ | (with_reducible refine wpAny_isSubtype_exc hC₁ ?_; rw [hcC]) | wp_step)
  show wpAny _ _ (typeLookup (.ref C) _) _ _ _
  refine wpAny_typeLookup_tail hC₁ hn₁ T₁ F.mroIs F.init.lookup ?_
  rw [hni]
  refine wpAny_holding (wpAny_bind (b1.here ?_))
  refine wpAny_bind (wpAny_call (codeAny_mono hq fun r s' z => ?_))
  rcases r with e | (v | _ | _ | _) <;> first | exact z | exact z.elim | skip
  obtain ⟨rfl, z⟩ := z
  exact wpAny_pure (wpAny_pure z)
end
end Add

namespace Add
open PySem PySem.Spec PyProof.Rows L2
/-! ### error classes of one's own: their objects' attributes -/
section
open PySem.W
variable {prog : Program} {w : World} {A : Around} {E : Value → Shared → Prop} {s : Shared} {K : Frag} {x C : Addr} {ox : Obj} {od : Option Obj} {name : Str} {expr : Bool}
theorem ga_kind : builtinKind "BaseException.__getattribute__" = some .slot := by decide +kernel
theorem ga_split : splitId "BaseException.__getattribute__" = some ("BaseException", "__getattribute__") := by decide +kernel
theorem ga_not : (Value.builtin "BaseException.__getattribute__" == Value.builtin "object.__getattribute__") = false := by decide +kernel
/-- what is asked of an error class of one's own, by the fragment -/
structure XGet (K : Frag) (C : Addr) : Prop where
  ga : findIn K (.ref C) "__getattribute__" = some (some (.builtin "BaseException.__getattribute__"))
  hk : findIn K (.ref C) "__getattr__" = some none
  sub : mroIn K C (.type "BaseException") = some true
theorem exc_by {fill : Bool} {tk : Tok} {Q : Value → Shared → Prop} (X : K.In s.heap) (I : InstAt s.heap x ox C od) (c : XGet K C)
    (h : wpAny (model prog w) A.in1 (Builtin.«object.__getattribute__» ⟨[.ref x, .str name tk], []⟩)
      (fun fin s' => match fin with | .done (.ret v) => wpAny (model prog w) A (handedOut v) Q E s' | _ => False) (fun _ _ => False) s) :
    wpAny (model prog w) A (getAttrBy (.ref x) (.str name tk) fill expr) Q E s := by
  obtain ⟨hh, g, d, t, os⟩ := s
  have L0 := I.type (M := model prog w)
  have L1 := looks_findIn (M := model prog w) X c.ga
  have L2 := looks_findIn (M := model prog w) X c.hk
  have sb : Looks (model prog w) hh (isInstance (.ref x) (.type "BaseException")) true := L0.andThen (looks_mroIn X c.sub)
  unfold getAttrBy
  refine wpAny_holding (wpAny_bind (L0.at (wpAny_bind (L1.at ?_))))
  dsimp only
  rw [ga_not, Bool.and_false, if_neg (by decide)]
  unfold getAttrByItsOwn hookBefore
  refine wpAny_bind ?_
  show wpAny _ _ (typeLookup (.ref C) "__getattr__") _ _ _
  refine L2.at (wpAny_bind (wpAny_attempt (wpAny_holding ?_)))
  have e1 : callGetattribute (.ref x) (.str name tk) (.builtin "BaseException.__getattribute__") expr = boundAndCalled (.builtin "BaseException.__getattribute__") (.ref x) (.str name tk) := by
    cases expr <;> rfl
  rw [e1]
  unfold boundAndCalled
  rw [PySem.F.attr_ValueError.ga.bind (.ref x)]
  refine wpAny_bind (wpAny_pure (wpAny_call ?_))
  refine codeAny_call_builtin PySem.F.attr_ValueError.ga.plain PySem.F.entry_bexc_ga (@check_slot (model prog w) _ _ ⟨hh, g, d, t, os⟩ "BaseException.__getattribute__" "BaseException" "__getattribute__" (.ref x) [.str name tk] [] _ ga_kind ga_split sb (PySem.F.args_bexc_ga (.ref x) (.str name tk)) ?_)
  refine wpAny_mono h (fun fin s' z => ?_) fun _ _ z => z.elim
  rcases fin with (_ | _ | _ | _) | _ <;> first | exact z | exact z.elim
theorem exc_open {Q : Value → Shared → Prop} (X : K.In s.heap) (I : InstAt s.heap x ox C od) (c : XGet K C)
    (h : wpAny (model prog w) A.in1 (Builtin.«object.__getattribute__» ⟨[.ref x, .str name s.toks], []⟩)
      (fun fin s' => match fin with | .done (.ret v) => wpAny (model prog w) A (handedOut v) Q E s' | _ => False) (fun _ _ => False) { s with toks := s.toks + 1 }) :
    wpAny (model prog w) A (getAttr (.ref x) name expr) Q E s := by
  unfold getAttr
  exact wpAny_bind (wpAny_mkText (exc_by (s := { s with toks := s.toks + 1 }) X I c h))
theorem exc_value {v : Value} {Q : Value → Shared → Prop} (X : K.In s.heap) (I : InstAt s.heap x ox C od) (c : XGet K C) (hf : findObj K C od name = some (.value v)) (hh : handedIn v = true) (h : Q v { s with toks := s.toks + 1 }) :
    wpAny (model prog w) A (getAttr (.ref x) name expr) Q E s := by
  refine exc_open X I c ?_
  obtain ⟨hh', g, d, t, os⟩ := s
  have L0 := I.type (M := model prog w)
  have L1 := looks_find (M := model prog w) X I hf
  unfold Builtin.«object.__getattribute__»
  refine wpAny_bind (wpAny_pure (wpAny_bind (wpAny_pure (wpAny_bind (L0.at (wpAny_bind (L1.at ?_)))))))
  refine wpAny_pure ?_
  show wpAny _ _ (handedOut v) _ _ _
  rw [handedOut_of hh]; exact wpAny_pure h
end
end Add

namespace Add
open PySem PySem.Spec PyProof.Rows L2
section
open PySem.W
variable {prog : Program} {w : World} {A : Around} {E : Value → Shared → Prop} {s : Shared} {K : Frag} {x C : Addr} {ox : Obj} {od : Option Obj} {name : Str} {expr : Bool}
/-- isinstance of such an object -/
structure XIs (K : Frag) (C : Addr) : Prop extends XGet K C where
  dct : hasDictIn K C = true
  cls : findIn K (.ref C) "__class__" = some (some (.builtin "object.__class__"))
  get : specialIn K (.builtin "object.__class__") "__get__" = some (some (.builtin "getset_descriptor.__get__"))
  tak : takesIn K (.builtin "object.__class__") = some true
  obj : mroIn K C (.type "object") = some true
theorem find_class (c : XIs K C) : findObj K C od "__class__" = some (.bind (.builtin "getset_descriptor.__get__") (.builtin "object.__class__")) := by
  obtain ⟨cd, hc, _⟩ := any_some c.dct
  unfold findObj
  rw [hc, Option.bind_some, c.cls, Option.bind_some]
  dsimp only
  rw [c.get, Option.bind_some]
  dsimp only
  rw [c.tak, Option.bind_some]
theorem isType_own {M : Model} {h : Heap} (c : hasDictIn K C = true) (X : K.In h) : Looks M h (isType (.ref C)) true := by
  obtain ⟨cd, hc, _⟩ := any_some c
  unfold clsIn at hc
  split at hc
  · rename_i c' d' cd' sl' ho
    intro A' Q' E' s' k q
    unfold isType loadHead
    exact wpAny_bind (wpAny_loadPart (k _ _ (X _ _ ho)) (wpAny_pure q))
  · cases hc
theorem not_tup {h : Heap} {tp : Addr} {dd : Option Addr} {its : List Value} {n : Nat} {sl : Array (Option Value)} (c : hasDictIn K C = true) (X : K.In h) (htp : h.get? tp = some ⟨.type "tuple", dd, .seq its.toArray n, sl⟩) : (Value.ref C == .ref tp) = false := by
  obtain ⟨cd, hc, _⟩ := any_some c
  refine Bool.eq_false_iff.mpr fun q => ?_
  have e : C = tp := Value.ref.inj (beq_iff_eq.mp q)
  subst e
  unfold clsIn at hc
  split at hc
  · rename_i c' d' cd' sl' ho
    have z := (X _ _ ho).symm.trans htp
    cases z
  · cases hc
theorem exc_class {Q : Option Value → Shared → Prop} (X : K.In s.heap) (I : InstAt s.heap x ox C od) (c : XIs K C) (h : Q (some (.ref C)) { s with toks := s.toks + 1 }) : wpAny (model prog w) A (getAttr? (.ref x) "__class__") Q E s := by
  unfold getAttr? getAttrBy?
  refine wpAny_bind (wpAny_mkText (wpAny_bind (wpAny_attempt (exc_by (s := { s with toks := s.toks + 1 }) X I c.toXGet ?_))))
  obtain ⟨hh', g, d, t, os⟩ := s
  have L0 := I.type (M := model prog w)
  have L1 := looks_find (M := model prog w) X I (find_class (od := od) c)
  unfold Builtin.«object.__getattribute__»
  refine wpAny_bind (wpAny_pure (wpAny_bind (wpAny_pure (wpAny_bind (L0.at (wpAny_bind (L1.at ?_)))))))
  show wpAny _ _ (Builtin.ObjectAttr.bindTo (.builtin "getset_descriptor.__get__") (.builtin "object.__class__") (.ref x) (.ref C)) _ _ _
  unfold Builtin.ObjectAttr.bindTo
  refine wpAny_bind (wpAny_holding (wpAny_call (class_get (s := ⟨hh', g, d, t + 1, os⟩) (ox := ox) (od := od) X I c.obj ?_)))
  refine wpAny_pure ?_
  show wpAny _ _ (handedOut (.ref C)) _ _ _
  rw [handedOut_of rfl]
  exact wpAny_pure (wpAny_pure h)
theorem kitx_exc (c : XIs K C) : KitX K (.ref x) (.ref C) (fun h => ∃ ox od, InstAt h x ox C od) where
  ty := fun _ _ _ ⟨_, _, I⟩ => I.type
  it := fun _ _ X _ => isType_own c.dct X
  ne := fun h tp dd its n sl X htp => not_tup c.dct X htp
  ca := fun X ⟨_, _, I⟩ k => exc_class X I c k

/-! ### x.name = v -/
noncomputable abbrev VE : List Value := [.type "ValueError", .type "Exception", .type "BaseException", .type "object"]
noncomputable def exMro : List Value → Bool
  | .ref _ :: r => exMro r
  | l => l == VE
theorem refuse_exc (self : Value) : ∀ {l : List Value}, exMro l = true → refuseLoop self "__setattr__" l = pure () ∧ l.isEmpty = false ∧ l.contains (.type "object") = true
  | [], e => by cases e
  | .ref c :: r, e => by
    obtain ⟨a, b, d⟩ := refuse_exc self (l := r) e
    exact ⟨by rw [refuseLoop_ref]; exact a, rfl, by rw [List.contains_cons, d, Bool.or_true]⟩
  | .type n :: r, e => by
    have e' : (.type n :: r : List Value) = VE := beq_iff_eq.mp e
    rw [e']
    exact ⟨PySem.F.store_ValueError.passes self, rfl, by decide⟩
  | .none :: r, e => by have e' := beq_iff_eq.mp (show ((.none :: r : List Value) == VE) = true from e); cases e'
  | .bool _ :: r, e => by have e' := beq_iff_eq.mp (show ((.bool _ :: r : List Value) == VE) = true from e); cases e'
  | .int _ _ :: r, e => by have e' := beq_iff_eq.mp (show ((.int _ _ :: r : List Value) == VE) = true from e); cases e'
  | .float _ _ :: r, e => by have e' := beq_iff_eq.mp (show ((.float _ _ :: r : List Value) == VE) = true from e); cases e'
  | .str _ _ :: r, e => by have e' := beq_iff_eq.mp (show ((.str _ _ :: r : List Value) == VE) = true from e); cases e'
  | .bytes _ _ :: r, e => by have e' := beq_iff_eq.mp (show ((.bytes _ _ :: r : List Value) == VE) = true from e); cases e'
  | .builtin _ :: r, e => by have e' := beq_iff_eq.mp (show ((.builtin _ :: r : List Value) == VE) = true from e); cases e'
end
end Add

namespace Add
open PySem PySem.Spec PyProof.Rows L2
section
open PySem.W
variable {prog : Program} {w : World} {A : Around} {E : Value → Shared → Prop} {s : Shared} {K : Frag} {x C : Addr} {o : Obj} {name : Str} {v : Value}
structure XSet (K : Frag) (C : Addr) (name : Str) : Prop where
  sa : findIn K (.ref C) "__setattr__" = some (some (.builtin "object.__setattr__"))
  no : findIn K (.ref C) name = some none
  cd : ((clsIn K C).any fun cd => exMro cd.mro && cd.hasDict) = true
theorem osa_exc {tk : Tok} {R : Result → Shared → Prop} (X : K.In s.heap) (hx : s.heap.get? x = some o) (hc : o.cls = .ref C) (c : XSet K C name)
    (h : wpAny (model prog w) A.in1 (Builtin.ObjectAttr.storeInOwnDict (.ref x) (.ref C) (.str name tk) name v false)
      (fun fin s' => match fin with | .done f => R (.ok f) s' | .again c' => c'.quiet = true ∧ codeAny (model prog w) A c' R s') (fun e s' => R (.error e) s') s) :
    codeAny (model prog w) A (.call (.builtin "object.__setattr__") ⟨[.ref x, .str name tk, v], []⟩) R s := by
  have SF := PySem.F.store_object
  obtain ⟨cd, hcd, ho⟩ := any_some c.cd
  simp only [Bool.and_eq_true] at ho
  obtain ⟨rf, ne, has⟩ := refuse_exc (.ref x) ho.1
  have L0 : Looks (model prog w) s.heap (typeOf (.ref x)) (.ref C) := hc ▸ (Looks.ld hx).andThen .now
  have sub : Looks (model prog w) s.heap (isInstance (.ref x) (.type "object")) true := L0.andThen (looks_mroIn X (by unfold mroIn; rw [hcd, Option.bind_some, if_neg (by rw [ne]; decide), has]))
  have hm : Looks (model prog w) s.heap (mroOf (.ref C)) cd.mro := (looks_clsIn X hcd).andThen .now
  have LN := looks_findIn (M := model prog w) X c.no
  refine codeAny_call_builtin SF.slot.plain SF.entry (@check_slot (model prog w) _ _ s "object.__setattr__" "object" "__setattr__" (.ref x) [.str name tk, v] [] _ SF.kind SF.split sub (SF.args (.ref x) (.str name tk) v) ?_)
  rw [osa_eq, refuse_eq]
  refine wpAny_bind (wpAny_bind (L0.here (wpAny_bind (hm.here ?_))))
  rw [rf]
  refine wpAny_pure (wpAny_bind (L0.here (wpAny_bind (LN.here (wpAny_bind (wpAny_pure ?_))))))
  exact h
/-- an error object: its record -/
noncomputable abbrev exRec (C : Addr) (od : Option Addr) (vs : Array Value) (sl : Array (Option Value)) : Obj := { cls := .ref C, dict := od, data := .fields vs, slots := sl }
theorem sa_exc {Q : Unit → Shared → Prop} {od : Option Addr} {vs : Array Value} {sl : Array (Option Value)} (X : K.In s.heap) (hx : s.heap.get? x = some (exRec C od vs sl)) (c : XSet K C name)
    (h : wpAny (model prog w) A.in1 (Builtin.ObjectAttr.storeInOwnDict (.ref x) (.ref C) (.str name s.toks) name v false) (fun fin s' => fin = .done (.ret .none) ∧ Q () s') (fun _ _ => False) { s with toks := s.toks + 1 }) :
    wpAny (model prog w) A (setAttr (.ref x) name v) Q E s := by
  have L0 : Looks (model prog w) s.heap (typeOf (.ref x)) (.ref C) := (Looks.ld hx).andThen .now
  have LS := looks_findIn (M := model prog w) X c.sa
  refine wpAny_bind (wpAny_mkText (wpAny_bind (wpAny_bind (wpAny_bind (L0 _ _ _ _ (fun _ _ e => e) (LS _ _ _ _ (fun _ _ e => e) (wpAny_holding ?_)))))))
  rw [PySem.F.store_object.slot.bind]
  refine wpAny_bind (wpAny_pure (wpAny_bind (wpAny_call (osa_exc (s := { s with toks := s.toks + 1 }) X hx rfl c (wpAny_mono h (fun fin s' z => ?_) fun _ _ z => z.elim)))))
  obtain ⟨rfl, z⟩ := z
  exact wpAny_pure (wpAny_pure z)
/-- .. where it has no dict yet -/
theorem exc_set0 {Q : Unit → Shared → Prop} {vs : Array Value} {sl : Array (Option Value)} (X : K.In s.heap) (hx : s.heap.get? x = some (exRec C none vs sl)) (c : XSet K C name)
    (h : ∀ h' tk', h'.get? x = some (exRec C (some s.heap.objs.size) vs sl) → h'.Ns1 s.heap.objs.size (fun y => if y = name then some v else none) → (∀ b ob, b ≠ x → s.heap.get? b = some ob → h'.get? b = some ob) → Q () { s with heap := h', toks := tk' }) :
    wpAny (model prog w) A (setAttr (.ref x) name v) Q E s := by
  obtain ⟨cd, hcd, ho⟩ := any_some c.cd
  simp only [Bool.and_eq_true] at ho
  refine sa_exc X hx c ?_
  obtain ⟨hp, g, d, t, os⟩ := s
  unfold Builtin.ObjectAttr.storeInOwnDict Builtin.ObjectAttr.ownDictForStores instanceDict
  refine wpAny_bind (wpAny_pure (wpAny_bind (wpAny_bind (wpAny_loadPart hx (wpAny_bind ((looks_clsIn X hcd).at ?_))))))
  rw [ho.2]
  have hxs : x ≠ hp.objs.size := Nat.ne_of_lt (Heap.lt_size hx)
  have hx1 : (hp.push emptyDict).get? x = some (exRec C none vs sl) := Heap.get?_push_of_some _ hx
  show wpAny _ _ (alloc emptyDict >>= _) _ _ _
  refine wpAny_bind (wpAny_alloc' (wpAny_bind (wpAny_update' hx1 ?_)))
  refine wpAny_pure ?_
  have hgd : ((hp.push emptyDict).update x fun o => { cls := o.cls, dict := some hp.objs.size, data := o.data, slots := o.slots }).get? hp.objs.size = some emptyDict := (Heap.get?_update_ne _ _ _ _ hxs.symm).trans (Heap.get?_push_at rfl rfl)
  have hnd : ((hp.push emptyDict).update x fun o => { cls := o.cls, dict := some hp.objs.size, data := o.data, slots := o.slots }).Ns hp.objs.size (fun _ => none) := ⟨_, #[], _, hgd, rfl, fun e he => absurd he (by simp), fun _ => rfl⟩
  show wpAny _ _ (Builtin.ObjectAttr.storeInDict hp.objs.size (.str name t) name v) _ _ _
  unfold Builtin.ObjectAttr.storeInDict Builtin.ObjectAttr.newKeyGuard
  refine wpAny_bind (wpAny_pure (wpAny_bind (wpAny_nsSet1 (Heap.Ns1.of_empty hnd) fun h' hn' hs => ?_)))
  obtain ⟨oD, esD, epD, hoD, hdD, hcD⟩ := hn'.count (Within.cons name v Within.nil)
  refine wpAny_bind (wpAny_lookBehind hoD (by rw [hdD]; exact pastItsLine_dict (Nat.le_trans hcD (by rw [List.length_cons, List.length_nil, sizeLine_eq]; omega))) ?_)
  refine wpAny_pure ⟨rfl, h h' _ ?_ hn' fun b ob hb e => ?_⟩
  · exact (hs.2 x hxs).trans (Heap.get?_update_self _ hx1 rfl)
  · exact (hs.2 b (Nat.ne_of_lt (Heap.lt_size e))).trans ((Heap.get?_update_ne _ _ _ _ hb).trans (Heap.get?_push_of_some _ e))
/-- .. where it has one -/
theorem exc_set1 {Q : Unit → Shared → Prop} {dx : Addr} {vs : Array Value} {sl : Array (Option Value)} {mA : Str → Option Value} {ns : List Str} (X : K.In s.heap) (hx : s.heap.get? x = some (exRec C (some dx) vs sl)) (hn : s.heap.Ns1 dx mA) (hne : dx ≠ x) (hw : Within mA ns) (hsz : ns.length ≤ 1000) (c : XSet K C name)
    (h : ∀ h' tk', h'.Ns1 dx (fun y => if y = name then some v else mA y) → Heap.SameBut dx s.heap h' → Q () { s with heap := h', toks := tk' }) :
    wpAny (model prog w) A (setAttr (.ref x) name v) Q E s := by
  obtain ⟨cd, hcd, ho⟩ := any_some c.cd
  simp only [Bool.and_eq_true] at ho
  refine sa_exc X hx c ?_
  obtain ⟨hp, g, d, t, os⟩ := s
  unfold Builtin.ObjectAttr.storeInOwnDict Builtin.ObjectAttr.ownDictForStores instanceDict
  refine wpAny_bind (wpAny_pure (wpAny_bind (wpAny_bind (wpAny_loadPart hx (wpAny_bind ((looks_clsIn X hcd).at ?_))))))
  rw [ho.2]
  refine wpAny_pure (a := some dx) ?_
  show wpAny _ _ (Builtin.ObjectAttr.storeInDict dx (.str name t) name v) _ _ _
  unfold Builtin.ObjectAttr.storeInDict Builtin.ObjectAttr.newKeyGuard
  refine wpAny_bind (wpAny_pure (wpAny_bind (wpAny_nsSet1 hn fun h' hn' hs => ?_)))
  obtain ⟨oD, esD, epD, hoD, hdD, hcD⟩ := hn'.count (Within.cons name v hw)
  refine wpAny_bind (wpAny_lookBehind hoD (by rw [hdD]; exact pastItsLine_dict (Nat.le_trans hcD (by rw [List.length_cons, sizeLine_eq]; omega))) ?_)
  exact wpAny_pure ⟨rfl, h h' _ hn' hs⟩
end
end Add

namespace Add
open PySem PySem.Spec PyProof.Rows L2
/-! ### the class, by the fragment -/
noncomputable def xcIn (K : PySem.W.Frag) (C : Addr) (ini : Option Value) : Bool := match K.lookup C with
  | some ⟨.type "type", _, .cls cd, sl⟩ => (match cd.mro, sl.toList with
    | .ref C' :: bm, [_, _, _, _, some (.builtin n), _] => C' == C && n == "ValueError.__new__" && !cd.hasDel && PySem.W.tailIn K VE bm && PySem.W.nsOkIn K cd.ns && PySem.W.nsIn K cd.ns "__init__" == some ini
    | _, _ => false)
  | _ => false
theorem ns_in {K : PySem.W.Frag} {h : Heap} {N : Addr} {mg : Str → Option Value} {n : Str} {v : Value} (X : K.In h) (G : h.Ns N mg) (e : PySem.W.nsIn K N n = some (some v)) : mg n = some v := by
  obtain ⟨o, es, ep, ho, hd, _, hf⟩ := G
  unfold PySem.W.nsIn at e
  split at e
  · rename_i c d es' n' sl q
    have := X _ _ q
    rw [ho] at this
    cases this
    cases hd
    split at e
    · rename_i en he
      cases e
      rw [← hf]
      unfold nsFind findBy
      rw [← Array.find?_toList, he]
      rfl
    · split at e <;> cases e
  · cases e
theorem xc_of {K : PySem.W.Frag} {h : Heap} {C : Addr} {ini : Option Value} (X : K.In h) (q : xcIn K C ini = true) : ∃ (bm : List Value) (N : Addr) (nm qn : Str) (bs : List Value) (hd : Bool) (sn : List Str) (sub : List Value) (ab : Bool) (col : Option Bool) (dd : Option Addr) (k0 k1 k2 k3 k5 : Option Value) (mN : Str → Option Value),
    h.get? C = some (excClassObj nm qn C N bs bm hd sn sub ab col dd k0 k1 k2 k3 k5 "ValueError.__new__") ∧ h.Ns N mN ∧ mN "__init__" = ini ∧ OwnTail h VE bm := by
  unfold xcIn at q
  split at q
  · rename_i dd cd sl ho
    split at q
    · rename_i C' bm k0 k1 k2 k3 n k5 hm hs
      simp only [Bool.and_eq_true, beq_iff_eq, Bool.not_eq_true'] at q
      obtain ⟨⟨⟨⟨⟨rfl, rfl⟩, hdel⟩, ht⟩, hok⟩, hni⟩ := q
      obtain ⟨nm, bs, mro, ns, qn, hd, sn, sub, ab, col, del⟩ := cd
      dsimp only at hm hdel hok hni
      subst hm hdel
      have hsl : sl = #[k0, k1, k2, k3, some (.builtin "ValueError.__new__"), k5] := by
        obtain ⟨l⟩ := sl
        simp only at hs
        rw [hs]
      subst hsl
      have G : h.Ns ns (h.nsMap ns) := .of_isNs (PySem.W.isNs_of_in X hok)
      refine ⟨bm, ns, nm, qn, bs, hd, sn, sub, ab, col, dd, k0, k1, k2, k3, k5, _, X _ _ ho, G, ?_, PySem.W.tail_of_in X ht⟩
      cases ini with
      | none => exact PySem.W.ns_none_of X G hni
      | some v => exact ns_in X G hni
    · cases q
  · cases q

/-! ### made -/
section
variable {prog : Program} {w : World} {A : Around} {E : Value → Shared → Prop} {K : PySem.W.Frag} {C fI : Addr} {s : Shared} {rest : List Value}
theorem exc_tree {R : Result → Shared → Prop} {nm q : Str} {N : Addr} {bs bm : List Value} {hdct : Bool} {sn : List Str} {sub : List Value} {ab : Bool} {col : Option Bool} {dd : Option Addr} {k0 k1 k2 k3 k5 : Option Value} {newId : String}
    (hC : s.heap.get? C = some (excClassObj nm q C N bs bm hdct sn sub ab col dd k0 k1 k2 k3 k5 newId))
    (h : wpAny (model prog w) (A.under (.builtin "type.__call__" ⟨.ref C :: rest, []⟩)) (Builtin.«type.__call__» ⟨.ref C :: rest, []⟩)
      (fun fin s' => match fin with | .done f => R (.ok f) s' | .again c' => c'.quiet = true ∧ codeAny (model prog w) A c' R s') (fun e s' => R (.error e) s') s) :
    codeAny (model prog w) A (.call (.ref C) ⟨rest, []⟩) R s := by
  obtain ⟨hp, g, d, t, os⟩ := s
  have f1 := tc_lookup
  have f2 := tc_bind (.ref C)
  have hT : (⟨hp, g, d, t, os⟩ : Shared).TypeIs (.ref C) "type" := ⟨_, hC, rfl⟩
  refine codeAny_of_tree ?_
  show wpAny _ _ (callAny (.ref C) _) _ _ _
  repeat (any_goals (first | assumption | with_reducible refine wpAny_loadPart_at hC ?_ | wp_step))
  refine ⟨rfl, ?_⟩
  exact codeAny_call_builtin_at (Code.quiet_builtin _ (by decide +kernel)) entry_typeCall (wpAny_check_type_call_sub hC h)
theorem exc_make {R : Result → Shared → Prop} (X : K.In s.heap) (c : xcIn K C (some (.ref fI)) = true) (hf : PySem.W.typeIn K (.ref fI) = some (.type "function")) (hrest : rest.length ≤ sizeLine)
    (h : codeAny (model prog w) (A.under (.builtin "type.__call__" ⟨.ref C :: rest, []⟩)) (.call (.ref fI) ⟨.ref (s.heap.objs.size + 1) :: rest, []⟩) (PySem.W.InitBack (s.heap.objs.size + 1) R)
      { s with heap := (s.heap.push (excTup rest)).push (excNew C s.heap.objs.size) }) :
    codeAny (model prog w) A (.call (.ref C) ⟨rest, []⟩) R s := by
  obtain ⟨bm, N, nm, qn, bs, hd, sn, sub, ab, col, dd, k0, k1, k2, k3, k5, mN, hC, hn, hi, T⟩ := xc_of X c
  obtain ⟨hp, g, d, t, os⟩ := s
  exact exc_tree hC (type_call_own PySem.F.excBase_ValueError (by decide) PySem.F.excBase_ValueError T hC hn hi (fun self => PySem.W.bind_fn X self hf) h hrest)
end
end Add

namespace Add
open PySem PySem.Spec PyProof.Rows L2
/-! ### error objects in the abstract heap: the object itself, its dict -/
/-- six fields, and no context -/
noncomputable abbrev Sz6 (vs : Array Value) : Prop := vs.size = 6 ∧ vs[2]? = some .none
noncomputable def exO (x C : Addr) (od : Option Addr) (fr : Bool) : HO := .ext fun h => ∃ (vs : Array Value) (sl : Array (Option Value)), h.get? x = some (exRec C od vs sl) ∧ Sz6 vs ∧ (fr = true → sl = #[] ∧ ∃ t : Addr, vs = #[.ref t, .none, .none, .none, .bool false, .none])
noncomputable def exD (dx : Addr) (fs : List (Str × V)) : HO := .ext fun h => ∃ mA, h.Ns1 dx mA ∧ (∀ f, RelO (fs.lookup f) (mA f)) ∧ PySem.Within mA (fs.map (·.1))
section
variable {P : Program} {w : World} {H : Hp} {h : Heap} {x C dx : Addr} {od : Option Addr} {fr : Bool} {fs : List (Str × V)}
theorem exO_ok {vs : Array Value} {sl : Array (Option Value)} (e : h.get? x = some (exRec C od vs sl)) (z : Sz6 vs) (f : fr = true → sl = #[] ∧ ∃ t : Addr, vs = #[.ref t, .none, .none, .none, .bool false, .none]) : ObjOk P w H h x (exO x C od fr) :=
  ⟨⟨vs, sl, e, z, f⟩, ⟨_, e⟩, fun _ h2 ⟨vs, sl, e, z, f⟩ k => ⟨vs, sl, k _ e, z, f⟩⟩
theorem exD_ok {mA : Str → Option Value} (n : h.Ns1 dx mA) (r : ∀ f, RelO (fs.lookup f) (mA f)) (wi : PySem.Within mA (fs.map (·.1))) : ObjOk P w H h dx (exD dx fs) :=
  ⟨⟨mA, n, r, wi⟩, let ⟨o, _, _, e, _⟩ := n; ⟨o, e⟩, fun _ h2 ⟨mA, n, r, wi⟩ k => ⟨mA, n.at fun o q => k o q, r, wi⟩⟩
theorem exO_at (ok : HOk P w H h) (e : H x = some (exO x C od fr)) : ∃ vs sl, h.get? x = some (exRec C od vs sl) ∧ Sz6 vs ∧ (fr = true → sl = #[] ∧ ∃ t : Addr, vs = #[.ref t, .none, .none, .none, .bool false, .none]) := (ok x _ e).1
theorem exD_at (ok : HOk P w H h) (e : H dx = some (exD dx fs)) : ∃ mA, h.Ns1 dx mA ∧ (∀ f, RelO (fs.lookup f) (mA f)) ∧ PySem.Within mA (fs.map (·.1)) := (ok dx _ e).1
theorem ex_ne (ok : HOk P w H h) (e : H x = some (exO x C od fr)) (e' : H dx = some (exD dx fs)) : dx ≠ x := fun z => by
  obtain ⟨vs, sl, q, _⟩ := exO_at ok e
  obtain ⟨mA, ⟨o, es, ep, q', d, _⟩, _⟩ := exD_at ok e'
  rw [z, q] at q'
  cases q'
  cases d
end
theorem upd_self {H : Hp} {a : Addr} {o : HO} (h : H a = some o) : upd H a o = H := by
  funext b
  unfold upd
  by_cases e : b = a
  · rw [if_pos e, e, h]
  · rw [if_neg e]

section
variable {X : Cx} {pins : List (Addr × Obj)} {σ : L2.St} {H : Hp} {s : Shared} {A : Around} {E : Value → Shared → Prop}
theorem Inv_new {C : Addr} {t : Addr} {h' : Heap} {tk : Nat} (I : Inv X pins σ H s) (k : ∀ b o, s.heap.get? b = some o → h'.get? b = some o) (e : h'.get? (s.heap.objs.size + 1) = some (excNew C t)) :
    Inv X pins σ (upd H (s.heap.objs.size + 1) (exO (s.heap.objs.size + 1) C none true)) { s with heap := h', toks := tk } :=
  I.laid (a := s.heap.objs.size + 1) k (Nat.le_succ _) (exO_ok (vs := #[.ref t, .none, .none, .none, .bool false, .none]) (sl := #[]) e ⟨rfl, rfl⟩ fun _ => ⟨rfl, t, rfl⟩)

/-! ### C(..) -/
noncomputable def tExcI (C : Addr) (sp : Sp) (dvs : List V) (E : XK) (t : TA) : TE := fun σ H Q => t σ H fun vs H1 => vs.length ≤ sizeLine ∧ ∀ x, H1 x = none → sp (.ref x :: (vs ++ dvs)) (upd H1 x (exO x C none true)) (fun v H2 => v = .non ∧ Q (.ref x) H2) E
variable {CX : CXT} {k : Nat} {f : Addr} {fd : FuncData} {ps : List Str} {sp : Sp} {ds : List Value} {dvs : List V} {EX : XK}
theorem pe_excI {C : Addr} {x : Str} {p pos : Pos} {e : Expr} {es : List Expr} {t : TA} (c : xcIn X.K C (some (.ref f)) = true) (hf : PySem.W.typeIn X.K (.ref f) = some (.type "function")) (F : FnOk X.prog X.w X.K X.mg X.base CX k f fd ps sp) (hr : Room (k + 1) X.A) (hg : Gl X x) (hm : X.mg x = some (.ref C))
    (hk : PySem.W.keepIn X.K (.ref C) = true) (hb : Binds X.K fd ps ds) (hd : Vals dvs ds) (hx : Passes CX X EX) (ha : PA X (e :: es) t)
    (hdb : (x == ("__debug__" : Str)) = false := by decide) (he : starEach (e :: es) X.env = (false, eval e X.env) :: starEach es X.env := by rfl) (hpl : (backTo pos (starEach es X.env)).any (·.1) = false := by rfl) :
    PE X (.Call (.Name x p) (e :: es) [] pos) (tExcI C sp dvs EX t) := by
  intro pins s0 σ H0 Q I0 h
  refine wpAny_Call_Name_kw (ld_glob I0 hg hm ?_ hdb)
  refine PySem.W.callWith_K (h₀ := X.base) I0.ok.mod.kin hk (thn (ha pos pins s0 σ H0 _ I0 h) fun us s ⟨vs, H, I, r, hz, q⟩ => ⟨I.kIn, ?_⟩) he hpl
  have hl0 := r.length
  have hq := q (s.heap.objs.size + 1) (I.hok.fresh (Nat.le_succ _))
  have hget : ((s.heap.push (excTup us)).push (excNew C s.heap.objs.size)).get? (s.heap.objs.size + 1) = some (excNew C s.heap.objs.size) := by heap_get
  have I2 := Inv_new (C := C) (t := s.heap.objs.size) (h' := (s.heap.push (excTup us)).push (excNew C s.heap.objs.size)) (tk := s.toks) I (fun b o e => Heap.get?_push_of_some _ (Heap.get?_push_of_some _ e)) hget
  have r2 : Vals (V.ref (s.heap.objs.size + 1) :: (vs ++ dvs)) (Value.ref (s.heap.objs.size + 1) :: (us ++ ds)) := .cons rfl (r.append hd)
  have hl : (Value.ref (s.heap.objs.size + 1) :: us ++ ds).length = ps.length := by
    have e := r2.length
    rw [F.len _ _ _ _ hq] at e
    exact e.symm
  refine wpAny_call (exc_make I.kIn c hf (by show us.length ≤ _; omega) (codeAny_mono (F.run _ X.stack _ _ ⟨Value.ref (s.heap.objs.size + 1) :: us, []⟩ (Value.ref (s.heap.objs.size + 1) :: (us ++ ds)) _ _ EX (hr.make C us [])
    (I2.env0.make C us []) (hb _ (Value.ref (s.heap.objs.size + 1) :: us) I2.kIn hl) r2 hq) fun r s' hq' => ?_))
  cases r with
  | error e => exact hx pins σ _ _ e s' I2 hq'
  | ok fl =>
    cases fl with
    | ret u =>
      obtain ⟨v, H', I3, rv, ev, q3⟩ := I2.after hq'
      subst ev
      exact ⟨rv, ⟨V.ref (s.heap.objs.size + 1), H', I3, rfl, q3⟩⟩
    | next => exact False.elim hq'
    | brk => exact False.elim hq'
    | cont => exact False.elim hq'

/-! ### isinstance -/
theorem inst_of {h : Heap} {x C : Addr} {od : Option Addr} {vs : Array Value} {sl : Array (Option Value)} (e : h.get? x = some (exRec C od vs sl)) (d : ∀ dx, od = some dx → ∃ o, h.get? dx = some o) : ∃ ox od, PySem.W.InstAt h x ox C od := by
  cases od with
  | none => exact ⟨_, none, e, rfl, rfl, trivial⟩
  | some dx =>
    obtain ⟨o, ho⟩ := d dx rfl
    exact ⟨_, some o, e, rfl, rfl, ho⟩
/-- what stands behind an error object: nothing, or its dict -/
noncomputable def exHas (H : Hp) : Option Addr → Prop
  | none => True
  | some dx => ∃ fs, H dx = some (exD dx fs)
theorem exHas.at {P : Program} {w : World} {H : Hp} {h : Heap} {od : Option Addr} (ok : HOk P w H h) (e : exHas H od) : ∀ dx, od = some dx → ∃ o, h.get? dx = some o := fun dx z => by
  subst z
  obtain ⟨fs, q⟩ := e
  obtain ⟨mA, ⟨o, _, _, e, _⟩, _⟩ := exD_at ok q
  exact ⟨o, e⟩
theorem call_isx : CallR X (.builtin "isinstance") (fun xs H Q => ∃ (x C : Addr) (od : Option Addr) (fr : Bool) (c : V) (cv : Value) (b : Bool), xs = [.ref x, c] ∧ H x = some (exO x C od fr) ∧ exHas H od ∧ XIs X.K C ∧ ((∃ n, c = .ty n ∧ cv = .type n) ∨ ∃ D, c = .ref D ∧ cv = .ref D) ∧
    PySem.W.kitOne X.K (.ref C) cv = some b ∧ Q (.bl b) H) := by
  intro pins s σ H xs us Q I r h
  obtain ⟨x, C, od, fr, c, cv, b, rfl, e, hs, ci, hc, kk, q⟩ := h
  obtain ⟨u, u', rfl, r1, r2⟩ := Vals.two r
  cases r1
  have hu : u' = cv := by
    rcases hc with ⟨n, rfl, rfl⟩ | ⟨D, rfl, rfl⟩
    · exact r2
    · exact r2
  subst hu
  obtain ⟨vs, sl, e1, _⟩ := exO_at I.hok e
  exact PySem.W.kia_one (kitx_exc ci) I.kIn (inst_of e1 (exHas.at I.hok hs)) kk (fun z => nomatch z) fun tk => ⟨.bl b, H, I.tok tk, rfl, q⟩
end
end Add

namespace Add
open PySem PySem.Spec PyProof.Rows L2
section
variable {X : Cx} {pins : List (Addr × Obj)} {σ : L2.St} {H : Hp} {s : Shared} {E : Value → Shared → Prop}
/-! ### B.__init__(self, ..), B above an error class -/
structure XBase (K : PySem.W.Frag) (B : Addr) : Prop where
  ga : PySem.W.specialIn K (.ref B) "__getattribute__" = some (some (.builtin "type.__getattribute__"))
  rd : PySem.W.readsIn K B (.type "type") = true
  at_ : PySem.W.findCls K (.ref B) (.type "type") "__init__" = some (.val (.builtin "ValueError.__init__"))
noncomputable def tBInit (K : PySem.W.Frag) (t : TA) : TE := fun σ H Q => t σ H fun vs H1 => ∃ (x C : Addr) (od : Option Addr) (rest : List V) (ini : Option Value), vs = .ref x :: rest ∧ H1 x = some (exO x C od true) ∧ xcIn K C ini = true ∧ rest.length ≤ sizeLine ∧ Q .non H1
theorem init_call {A : Around} {x C : Addr} {od : Option Addr} {rest : List Value} {ini : Option Value} {Q : Value → Shared → Prop} {K : PySem.W.Frag} {prog : Program} {w : World} {t : Addr} (KX : K.In s.heap) (c : xcIn K C ini = true)
    (hx : s.heap.get? x = some (exRec C od #[.ref t, .none, .none, .none, .bool false, .none] #[])) (hrest : rest.length ≤ sizeLine)
    (h : ∀ h' t', h'.get? x = some (exRec C od #[.ref t', .none, .none, .none, .bool false, .none] #[]) → (∀ b o, b ≠ x → s.heap.get? b = some o → h'.get? b = some o) → Q .none { s with heap := h' }) :
    wpAny (model prog w) A (call (.builtin "ValueError.__init__") (.ref x :: rest)) Q E s := by
  obtain ⟨bm, N, nm, qn, bs, hd, sn, sub, ab, col, dd, k0, k1, k2, k3, k5, mN, hC, hn, hni, T⟩ := xc_of KX c
  obtain ⟨hp, g, d, tk, os⟩ := s
  have F := PySem.F.excBase_ValueError
  refine wpAny_call (codeAny_call_builtin F.init.plain F.initEntry (wpAny_check_init_subU F T hC hx rfl ?_))
  wp_walk
  refine h _ hp.objs.size ?_ fun b o hb e => ?_
  · rw [Heap.get?_update_self _ (Heap.get?_push_of_some _ hx) rfl]
    rfl
  · rw [Heap.get?_update_other _ _ (Ne.symm hb)]
    exact Heap.get?_push_of_some _ e
theorem pe_binit {B : Addr} {x : Str} {p apos pos : Pos} {e : Expr} {es : List Expr} {t : TA} {pl : Sem Bool} (c : XBase X.K B) (hg : Gl X x) (hm : X.mg x = some (.ref B)) (ha : PA X (e :: es) t) (hdb : (x == ("__debug__" : Str)) = false := by decide)
    (hst : starEach (e :: es) X.env = (false, eval e X.env) :: starEach es X.env := by rfl) (hpl : (backTo pos (starEach es X.env)).any (·.1) = false := by rfl)
    (ht : eval (.Call (.Attribute (.Name x p) "__init__" apos) (e :: es) [] pos) X.env = (do
      let ov ← eval (.Name x p) X.env
      standAt apos.atName
      let (f, first) ← holding [ov] (getMethod ov "__init__" pl)
      callWith pos f first (backTo pos (starEach (e :: es) X.env)) (backToKw pos (keywordEach [] X.env))) := by rfl) :
    PE X (.Call (.Attribute (.Name x p) "__init__" apos) (e :: es) [] pos) (tBInit X.K t) := by
  intro pins s σ H Q I h
  refine PySem.W.methodCall_KW (pl := pl) (ld_glob I hg hm ?_ hdb) ht
  refine PySem.W.method_cls I.kIn c.ga (PySem.W.cls_value I.kIn c.rd c.at_ rfl ?_)
  have I1 := I.tok (s.toks + 1)
  refine PyProof.Rows.callWith_builtin1 (thn (ha pos pins _ σ H _ I1 h) fun us s1 ⟨vs, H1, I2, r1, q1⟩ => ?_) hst hpl
  obtain ⟨x', C, od, rest, ini, rfl, e1, ci, hz, q⟩ := q1
  cases r1 with
  | cons ra rr =>
    cases ra
    obtain ⟨ws, sl, ex, z6, ff⟩ := exO_at I2.hok e1
    obtain ⟨rfl, t', rfl⟩ := ff rfl
    have hl := rr.length
    refine init_call I2.kIn ci ex (by omega) fun h' t2 ex' kk => ?_
    refine ⟨.non, H1, ?_, rfl, q⟩
    have J := I2.write (x := x') (e := x') (o := exO x' C od true) (t' := s1.toks) (h' := h') (by rw [e1]; exact trivial) (.inl rfl) (fun b u hb hu => kk b u hb hu) ⟨_, ex'⟩ (exO_ok ex' ⟨rfl, rfl⟩ fun _ => ⟨rfl, t2, rfl⟩)
    rw [upd_self e1] at J
    exact J

/-! ### e.f, e.f = v -/
noncomputable def tXFld (K : PySem.W.Frag) (ta : TE) (f : Str) : TE := fun σ H Q => ta σ H fun v H1 => ∃ (x C dx : Addr) (fr : Bool) (fs : List (Str × V)) (y : V), v = .ref x ∧ H1 x = some (exO x C (some dx) fr) ∧ H1 dx = some (exD dx fs) ∧ XIs K C ∧ PySem.W.findIn K (.ref C) f = some none ∧ fs.lookup f = some y ∧ Q y H1
theorem find_own {K : PySem.W.Frag} {C : Addr} {o : Obj} {f : Str} {u : Value} (c : PySem.W.hasDictIn K C = true) (n : PySem.W.findIn K (.ref C) f = some none) (l : PySem.W.lookIn f o = some (some u)) : PySem.W.findObj K C (some o) f = some (.value u) := by
  obtain ⟨cd, hc, hd⟩ := PySem.W.any_some c
  unfold PySem.W.findObj
  rw [hc, Option.bind_some, n, Option.bind_some]
  dsimp only
  simp only [Option.bind_some]
  unfold PySem.W.ownOf
  rw [hd, if_pos rfl]
  dsimp only
  rw [l, Option.bind_some]
theorem pe_xfld {e : Expr} {f : Str} {pos : Pos} {ta : TE} (he : PE X e ta) (hb : attributeBase e f X.env (eval e X.env) = eval e X.env) : PE X (.Attribute e f pos) (tXFld X.K ta f) := by
  intro pins s σ H Q I h
  refine attr_of hb (thn (he pins s σ H _ I h) fun u s1 ⟨v, H1, I1, rv, x, C, dx, fr, fs, y, ev, ex, ed, c, n, l, q⟩ => ?_)
  subst ev
  obtain rfl : u = Value.ref x := rv
  obtain ⟨vs, sl, e1, _⟩ := exO_at I1.hok ex
  obtain ⟨mA, hn, r, _⟩ := exD_at I1.hok ed
  obtain ⟨od, hod, hl⟩ := lookIn_ns hn
  obtain ⟨uv, hu, ru⟩ := RelO.some_of (v := y) (o := mA f) (by rw [← l]; exact r f)
  exact exc_value I1.kIn (ox := exRec C (some dx) vs sl) (od := some od) ⟨e1, rfl, rfl, hod⟩ c.toXGet (find_own c.dct n (by rw [hl, hu])) (handed_of ru) ⟨y, H1, I1.tok _, ru, q⟩
theorem Inv_both {x dx : Addr} {o o' : HO} {h' : Heap} {tk : Nat} (I : Inv X pins σ H s) (mu : Mut (H x)) (hd : s.heap.objs.size ≤ dx) (hne : dx ≠ x) (k : ∀ b u, b ≠ x → s.heap.get? b = some u → h'.get? b = some u) (hx : ∃ u, h'.get? x = some u)
    (n1 : ObjOk X.prog X.w (upd (upd H dx o') x o) h' x o) (n2 : ObjOk X.prog X.w (upd (upd H dx o') x o) h' dx o') : Inv X pins σ (upd (upd H dx o') x o) { s with heap := h', toks := tk } := by
  have hdn : H dx = none := I.hok.fresh hd
  have hxn : ∀ b, H b = none → b ≠ x := fun b n z => by subst z; rw [n] at mu; exact mu
  have nm : ∀ b u, H b = some u → ¬ Mut (some u) → b ≠ x := fun b u q nm z => by subst z; rw [q] at mu; exact nm mu
  have nd : ∀ b u, H b = some u → b ≠ dx := fun b u q => ne_of_none q hdn
  have old : ∀ b u, s.heap.get? b = some u → b ≠ dx := fun b u q => Nat.ne_of_lt (Nat.lt_of_lt_of_le (Heap.lt_size q) hd)
  have stay : ∀ b u, H b = some u → b ≠ x → upd (upd H dx o') x o b = some u := fun b u q hb => by rw [upd_ne hb, upd_ne (nd b u q)]; exact q
  refine I.un ⟨fun b u q n _ _ => k b u (hxn b n) q, fun b u q n _ _ => ⟨u.slots, k b u (hxn b n) q⟩, fun b u q n _ => by rw [upd_ne (hxn b n), upd_ne (old b u q)]; exact n, fun b u q _ => ?_, fun b xs q => stay b _ q (nm b _ q fun z => z), fun b u xs q => stay b _ q (nm b _ q fun z => z), fun b ps q => ⟨#[], by rw [stay b _ q (nm b _ q fun z => z)]; simp⟩⟩ ?_
  · by_cases hb : b = x
    · subst hb; exact hx
    · exact ⟨u, k b u hb q⟩
  · intro b u q
    by_cases hb : b = x
    · subst hb
      rw [upd_same] at q
      cases q
      exact n1
    · rw [upd_ne hb] at q
      by_cases hb' : b = dx
      · subst hb'
        rw [upd_same] at q
        cases q
        exact n2
      · rw [upd_ne hb'] at q
        refine (I.hok b u q).stay (fun c v hc r => k c v ?_ r) (fun c r => stay c _ r (nm c _ r fun z => z)) fun c xs r => stay c _ r (nm c _ r fun z => z)
        rcases hc with rfl | hc
        · exact hb
        · exact nm c _ hc fun z => z
noncomputable def sXFld (K : PySem.W.Frag) (ta tv : TE) (f : Str) : TS := fun D σ H => tv σ H fun y H1 => ta σ H1 fun v H2 => ∃ (x C : Addr) (fr : Bool), v = .ref x ∧ XSet K C f ∧
  ((H2 x = some (exO x C none fr) ∧ ∀ dx, H2 dx = none → D.nx σ (upd (upd H2 dx (exD dx [(f, y)])) x (exO x C (some dx) fr))) ∨
   (∃ dx fs, H2 x = some (exO x C (some dx) fr) ∧ H2 dx = some (exD dx fs) ∧ fs.length < 900 ∧ D.nx σ (upd H2 dx (exD dx (putF f y fs)))))
theorem ps_xfld {o value : Expr} {f : Str} {pos pos' : Pos} {ta tv : TE} (ha : PE X o ta) (hv : PE X value tv) (hs : swapsWith value (some (.Attribute o f pos')) pos.line X.env = pure false) : PS X (.Assign [.Attribute o f pos'] value pos) (sXFld X.K ta tv f) := by
  intro pins s0 σ H0 D I0 h
  refine plainObj_wpAny_Assign_Attribute (thn (hv pins s0 σ H0 _ I0 h) fun u s1 ⟨y, H1, I1, ry, q⟩ => thn (ha pins s1 σ H1 _ I1 q) fun ov s ⟨v, H, I, rv, x, C, fr, ev, c, q2⟩ => ?_) hs
  subst ev
  obtain rfl : ov = Value.ref x := rv
  rcases q2 with ⟨ex, nx⟩ | ⟨dx, fs, ex, ed, hl, nx⟩
  · obtain ⟨vs, sl, e1, z6, ff⟩ := exO_at I.hok ex
    refine exc_set0 I.kIn e1 c fun h' tk' e2 hn kk => ?_
    have hne : s.heap.objs.size ≠ x := Nat.ne_of_gt (Heap.lt_size e1)
    refine ⟨σ, _, Inv_both (x := x) (dx := s.heap.objs.size) (o := exO x C (some s.heap.objs.size) fr) (o' := exD s.heap.objs.size [(f, y)]) I (by rw [ex]; exact trivial) (Nat.le_refl _) hne (fun b ob hb e => kk b ob hb e) ⟨_, e2⟩ (exO_ok e2 z6 ff) (exD_ok hn (fun g => ?_) fun g hg => ?_), nx _ (I.hok.fresh (Nat.le_refl _))⟩
    · show RelO (List.lookup g [(f, y)]) (if g = f then some u else none)
      by_cases q : g = f
      · subst q
        rw [if_pos rfl, List.lookup_cons, beq_self_eq_true]
        exact ry
      · have q' : (g == f) = false := by simpa using q
        rw [if_neg q, List.lookup_cons, q']
        exact trivial
    · by_cases q : g = f
      · subst q; simp
      · exact absurd (if_neg q) hg
  · obtain ⟨vs, sl, e1, z6, ff⟩ := exO_at I.hok ex
    obtain ⟨mA, hn, r, wi⟩ := exD_at I.hok ed
    refine exc_set1 I.kIn e1 hn (ex_ne I.hok ex ed) wi (by rw [List.length_map]; omega) c fun h' tk' hn' sb => ?_
    have hd : ∃ o, h'.get? dx = some o := let ⟨o, _, _, e', _⟩ := hn'; ⟨o, e'⟩
    refine ⟨σ, _, I.write (x := dx) (e := dx) (o := exD dx (putF f y fs)) (t' := tk') (by rw [ed]; exact trivial) (.inl rfl) (fun b ob hb z => (sb.2 b hb).trans z) hd (exD_ok hn' (fun g => ?_) fun g hg => ?_), nx⟩
    · show RelO ((putF f y fs).lookup g) (if g = f then some u else mA g)
      rw [lookup_putF]
      by_cases q : g = f
      · rw [if_pos q, if_pos q]; exact ry
      · rw [if_neg q, if_neg q]; exact r g
    · by_cases q : g = f
      · rw [q]; exact (keys_putF f y fs).1
      · refine (keys_putF f y fs).2 g (wi g fun z => hg ?_)
        show (if g = f then some u else mA g) = none
        rw [if_neg q]; exact z
end
end Add

namespace Add
open PySem PySem.Spec PyProof.Rows L2
section
variable {X : Cx}
/-! ### == and != of lists of flat items; insert at the front -/
noncomputable def rEqL (K : PySem.W.Frag) (f : Bool → Bool) : R2 := fun x y H Q => ∃ a b xs ys, x = .ref a ∧ y = .ref b ∧ SqL K H a xs ∧ SqL K H b ys ∧ xs.all flatV = true ∧ ys.all flatV = true ∧ Q (.bl (f (eqVs xs ys))) H
theorem eqVs_len : ∀ {xs ys : List V}, xs.length ≠ ys.length → eqVs xs ys = false
  | [], [], h => absurd rfl h
  | [], _ :: _, _ => rfl
  | _ :: _, [], _ => rfl
  | x :: xs, y :: ys, h => by
    show (eqV x y && eqVs xs ys) = false
    rw [eqVs_len (fun z => h (by rw [List.length_cons, List.length_cons, z])), Bool.and_false]
theorem all_eq_same {xs ys : List V} (h : xs.length = ys.length) : (List.range xs.length).all (eAt xs ys) = eqVs xs ys := by
  rw [← all_eq xs ys, ← h, Nat.min_self]
  simp
theorem op_neL (hu : X.A.units < cLine) : OpR X (compareOp .NotEq) (rEqL X.K fun z => !z) := by
  intro pins s σ H x y v u Q I rx ry h
  obtain ⟨a, b, xs, ys, rfl, rfl, ha, hb, fx, fy, q⟩ := h
  cases rx
  cases ry
  obtain ⟨its, r1, p1, _⟩ := I.list ha
  obtain ⟨its2, r2, p2, _⟩ := I.list hb
  have l1 := r1.length
  have l2 := r2.length
  by_cases hz : xs.length = ys.length
  · refine SeqAt.RcNeAt.lists p1.isList p2.isList (by rw [List.size_toArray, List.size_toArray]; omega) hu (items_eq r1 r2 fx fy) _ _ _ _ ?_
    rw [List.size_toArray, ← l1, all_eq_same hz]
    exact ⟨.bl (!eqVs xs ys), H, I, rfl, q⟩
  · refine SeqAt.RcNeAt.lists_lengths p1.isList p2.isList (bne_iff_ne.mpr (by rw [List.size_toArray, List.size_toArray]; omega)) hu _ _ _ _ ?_
    rw [eqVs_len hz] at q
    exact ⟨.bl true, H, I, rfl, q⟩
theorem eqV_self : ∀ {x : V}, flatV x = true → eqV x x = true
  | .non, _ => rfl
  | .bl b, _ => by cases b <;> rfl
  | .int i, _ => by simp [eqV]
  | .str y, _ => by simp [eqV]
  | .byt _, h => by simp [flatV] at h
  | .flt _, h => by simp [flatV] at h
  | .ref _, h => by simp [flatV] at h
  | .ty _, h => by simp [flatV] at h
theorem eqVs_self : ∀ {xs : List V}, xs.all flatV = true → eqVs xs xs = true
  | [], _ => rfl
  | x :: xs, h => by
    rw [List.all_cons, Bool.and_eq_true] at h
    show (eqV x x && eqVs xs xs) = true
    rw [eqV_self h.1, eqVs_self h.2]; rfl
end
end Add

namespace Add
open PySem PySem.Spec PyProof.Rows L2
/-! ### all that is asked of an error class, in one word each -/
noncomputable def xAll (K : PySem.W.Frag) (C : Addr) (ini : Option Value) : Bool := xcIn K C ini && PySem.W.keepIn K (.ref C) && (PySem.W.findIn K (.ref C) "__getattribute__" == some (some (.builtin "BaseException.__getattribute__"))) && (PySem.W.findIn K (.ref C) "__getattr__" == some none) &&
  (PySem.W.mroIn K C (.type "BaseException") == some true) && PySem.W.hasDictIn K C && (PySem.W.findIn K (.ref C) "__class__" == some (some (.builtin "object.__class__"))) &&
  (PySem.W.specialIn K (.builtin "object.__class__") "__get__" == some (some (.builtin "getset_descriptor.__get__"))) && (PySem.W.takesIn K (.builtin "object.__class__") == some true) && (PySem.W.mroIn K C (.type "object") == some true) &&
  (PySem.W.findIn K (.ref C) "__setattr__" == some (some (.builtin "object.__setattr__"))) && ((PySem.W.clsIn K C).any fun cd => exMro cd.mro && cd.hasDict)
structure XA (K : PySem.W.Frag) (C : Addr) (ini : Option Value) : Prop where
  xc : xcIn K C ini = true
  kp : PySem.W.keepIn K (.ref C) = true
  is : XIs K C
  sa : PySem.W.findIn K (.ref C) "__setattr__" = some (some (.builtin "object.__setattr__"))
  cd : ((PySem.W.clsIn K C).any fun cd => exMro cd.mro && cd.hasDict) = true
theorem xa_of {K : PySem.W.Frag} {C : Addr} {ini : Option Value} (h : xAll K C ini = true) : XA K C ini := by
  unfold xAll at h
  rw [Bool.and_eq_true] at h
  obtain ⟨h, hcd⟩ := h
  simp only [Bool.and_eq_true, beq_iff_eq] at h
  obtain ⟨⟨⟨⟨⟨⟨⟨⟨⟨⟨h1, h2⟩, h3⟩, h4⟩, h5⟩, h6⟩, h7⟩, h8⟩, h9⟩, h10⟩, h11⟩ := h
  exact ⟨h1, h2, { ga := h3, hk := h4, sub := h5, dct := h6, cls := h7, get := h8, tak := h9, obj := h10 }, h11, hcd⟩
theorem XA.set {K : PySem.W.Frag} {C : Addr} {ini : Option Value} {name : Str} (a : XA K C ini) (no : PySem.W.findIn K (.ref C) name = some none) : XSet K C name := ⟨a.sa, no, a.cd⟩
noncomputable def xNo (K : PySem.W.Frag) (C : Addr) (ns : List Str) : Bool := ns.all fun n => PySem.W.findIn K (.ref C) n == some none
theorem xno_of {K : PySem.W.Frag} {C : Addr} {ns : List Str} {n : Str} (h : xNo K C ns = true) (m : n ∈ ns) : PySem.W.findIn K (.ref C) n = some none := beq_iff_eq.mp (List.all_eq_true.mp h n m)
noncomputable def xKits (K : PySem.W.Frag) (C : Addr) (cs : List Value) (bs : List Bool) : Bool := (cs.map fun c => PySem.W.kitOne K (.ref C) c) == bs.map some
theorem xkits_of {K : PySem.W.Frag} {C : Addr} {cs : List Value} {bs : List Bool} (h : xKits K C cs bs = true) {i : Nat} {c : Value} {b : Bool} (hc : cs[i]? = some c) (hb : bs[i]? = some b) : PySem.W.kitOne K (.ref C) c = some b := by
  have e := congrArg (fun l => l[i]?) (beq_iff_eq.mp h)
  simp only [List.getElem?_map, hc, hb, Option.map_some] at e
  exact Option.some.inj e
noncomputable def xBase (K : PySem.W.Frag) (B : Addr) : Bool := (PySem.W.specialIn K (.ref B) "__getattribute__" == some (some (.builtin "type.__getattribute__"))) && PySem.W.readsIn K B (.type "type") &&
  (match PySem.W.findCls K (.ref B) (.type "type") "__init__" with | some (.val (.builtin n)) => n == "ValueError.__init__" | _ => false)
theorem xb_of {K : PySem.W.Frag} {B : Addr} (h : xBase K B = true) : XBase K B := by
  unfold xBase at h
  simp only [Bool.and_eq_true, beq_iff_eq] at h
  obtain ⟨⟨h1, h2⟩, h3⟩ := h
  refine ⟨h1, h2, ?_⟩
  split at h3
  · rename_i n e
    rw [e, beq_iff_eq.mp h3]
  · cases h3
structure MethAt (K : PySem.W.Frag) (x qual : Str) (st : Stmt) (ps : List Str) (f : Addr) (fd : FuncData) : Prop where
  fn : Fun K x qual st f fd
  bd : Binds K fd ps []
  ty : PySem.W.typeIn K (.ref f) = some (.type "function")
/-! ### rules whose reading names the fragment, for a comprehension's block -/
section
variable {X : Cx} {K : PySem.W.Frag}
theorem pe_fldK {e : Expr} {f : Str} {pos : Pos} {ta : TE} (hK : X.K = K) (he : PE X e ta) (hb : attributeBase e f X.env (eval e X.env) = eval e X.env) : PE X (.Attribute e f pos) (tFld K ta f) := hK ▸ pe_fld he hb
end
end Add

namespace Add
open PySem PySem.Spec PyProof.Rows L2
/-! ### an error in flight: what noteFrame and leaving do to the heap -/
structure Notes (fs : List Addr) (x C : Addr) (od : Option Addr) (sl : Array (Option Value)) (told : List Addr) (T : Addr) (fl : Value) (h h' : Heap) : Prop where
  rc : ∃ vs : Array Value, Sz6 vs ∧ h'.get? x = some (exRec C od vs sl) ∧ vs[1]? = some (.ref T)
  tb : ∃ oT ts, h'.get? T = some oT ∧ oT.data = .fields ts ∧ ts[3]? = some fl
  new : h.objs.size ≤ T
  ne : T ≠ x
  keep : ∀ b o, b ≠ x → b ∉ told → b ∉ fs → h.get? b = some o → h'.get? b = some o
  slot : ∀ b o, b ≠ x → b ∉ told → h.get? b = some o → ∃ s, h'.get? b = some { o with slots := s }
  old : ∀ b ∈ told, ∃ o, h'.get? b = some o
section
variable {M : Model} {A : Around} {E : Value → Shared → Prop} {s : Shared} {base : Heap} {env : Env} {outer : List Env} {L x C : Addr} {od : Option Addr} {vs : Array Value} {sl : Array (Option Value)}
theorem entry_x {head : Value} {hadNext : Bool} {Q : Unit → Shared → Prop} (hfr : A.frames = some (env :: outer)) (hl : s.heap.FunFrames base (env :: outer)) (hf : env.frame = some L) (he : s.heap.get? x = some (exRec C od vs sl)) (hz : Sz6 vs)
    (h : ∀ h' T, Notes (frs (env :: outer)) x C od sl [] T (rawInt L) s.heap h' → Q () { s with heap := h' }) :
    wpAny M A (do let a ← frameOf env; let pl ← entryPlaceOf L hadNext; let b ← EntryCells.newEntry head a .none (rawInt L) .none pl; setField (.ref x) 1 b) Q E s := by
  have hene : x ∉ (env :: outer).filterMap (·.frame) := fun hm => by
    obtain ⟨_, o, ho, hnf⟩ := hl.mem hm
    rw [he] at ho; cases ho; exact hnf vs rfl
  refine wpAny_bind (wpAny_frameOf_fun hfr hl hf fun h₁ hs₁ => ?_)
  refine wpAny_bind (wpAny_entryPlaceOf fun pl hpl => ?_)
  unfold EntryCells.newEntry newFields
  refine wpAny_bind (wpAny_newObj_type ?_ (hpl.sizeOk5 _ _ _ _ _))
  generalize hO : ({ cls := .type "traceback", dict := none, data := .fields ([head, .ref L, .none, rawInt L, .none] ++ (if pl.isEmpty then List.replicate 6 Value.none else pl)).toArray } : Obj) = oT
  have he₁ : h₁.get? x = some (exRec C od vs sl) := (hs₁.2.1 x hene).trans he
  have he₂ := Heap.get?_push_of_some (h := h₁) oT he₁
  have hd₂ : (exRec C od vs sl).data = .fields vs := rfl
  refine wpAny_setField he₂ hd₂ (by omega) (h _ h₁.objs.size ?_)
  have hTx : h₁.objs.size ≠ x := Nat.ne_of_gt (Heap.lt_size he₁)
  have hd₃ := Obj.data_mapFields hd₂ (·.setIfInBounds 1 (Value.ref h₁.objs.size))
  have he₃ := Heap.get?_update_self (Obj.mapFields (·.setIfInBounds 1 (Value.ref h₁.objs.size))) he₂ (Obj.isFreed_of_fields hd₃)
  have hT₃ : ((h₁.push oT).update x (Obj.mapFields (·.setIfInBounds 1 (Value.ref h₁.objs.size)))).get? h₁.objs.size = some oT :=
    (Heap.get?_update_other _ _ (Ne.symm hTx)).trans (Heap.get?_push_size h₁ (by rw [← hO]; rfl))
  have kp : ∀ b o, b ≠ x → h₁.get? b = some o → ((h₁.push oT).update x (Obj.mapFields (·.setIfInBounds 1 (Value.ref h₁.objs.size)))).get? b = some o := fun b o hb e => by
    rw [Heap.get?_update_other _ _ (Ne.symm hb)]
    exact Heap.get?_push_of_some _ e
  refine ⟨⟨vs.setIfInBounds 1 (.ref h₁.objs.size), ⟨by rw [Array.size_setIfInBounds]; exact hz.1, by rw [Array.getElem?_setIfInBounds_ne (by decide)]; exact hz.2⟩, he₃, by simp [hz.1]⟩, ⟨oT, _, hT₃, by rw [← hO], ?_⟩, ?_, hTx, fun b o hb _ hbf e => kp b o hb ((hs₁.2.1 b hbf).trans e), fun b o hb _ e => ?_, fun b hb => absurd hb (by simp)⟩
  · first | (simp; done) | (rcases hpl with rfl | ⟨_, _, _, _, _, _, _, rfl⟩ <;> simp)
  · exact Nat.le_of_eq hs₁.1.symm
  · obtain ⟨sl', e'⟩ := hs₁.2.2 b o e
    exact ⟨sl', kp b _ hb e'⟩
theorem note_new {Q : Unit → Shared → Prop} (hfr : A.frames = some (env :: outer)) (hl : s.heap.FunFrames base (env :: outer)) (hf : env.frame = some L) (he : s.heap.get? x = some (exRec C od vs sl)) (hz : Sz6 vs) (h1 : vs[1]? = some .none)
    (h : ∀ h' T, Notes (frs (env :: outer)) x C od sl [] T (rawInt L) s.heap h' → Q () { s with heap := h' }) : wpAny M A (noteFrame (.ref x) env) Q E s := by
  unfold noteFrame
  simp only [hf]
  refine wpAny_bind (wpAny_field he rfl h1 ?_)
  rw [if_neg (by decide)]
  exact entry_x hfr hl hf he hz h
theorem note_next {Q : Unit → Shared → Prop} {T : Addr} {oT : Obj} {ts : Array Value} (hfr : A.frames = some (env :: outer)) (hl : s.heap.FunFrames base (env :: outer)) (hf : env.frame = some L) (he : s.heap.get? x = some (exRec C od vs sl)) (hz : Sz6 vs) (h1 : vs[1]? = some (.ref T))
    (hTx : T ≠ x) (hT : s.heap.get? T = some oT) (hd : oT.data = .fields ts) (h3 : ts[3]? = some .none)
    (h : ∀ h' T', Notes (frs (env :: outer)) x C od sl [T] T' (rawInt L) s.heap h' → Q () { s with heap := h' }) : wpAny M A (noteFrame (.ref x) env) Q E s := by
  unfold noteFrame
  simp only [hf]
  refine wpAny_bind (wpAny_field he rfl h1 ?_)
  rw [if_pos (show (Value.ref T != Value.none) = true from by simp)]
  refine wpAny_bind (wpAny_field hT hd h3 ?_)
  rw [if_neg (show ¬ ((Value.none == rawInt L) = true) from by simp [rawInt])]
  refine wpAny_bind (wpAny_setField hT hd (Array.getElem?_eq_some_iff.mp h3).1 ?_)
  have other : ∀ b, b ≠ T → (s.heap.update T (Obj.mapFields (·.setIfInBounds 3 Value.none))).get? b = s.heap.get? b := fun b hb => Heap.get?_update_other _ _ (Ne.symm hb)
  have hTT : ∃ o, (s.heap.update T (Obj.mapFields (·.setIfInBounds 3 Value.none))).get? T = some o := ⟨_, Heap.get?_update_self _ hT (Obj.isFreed_of_fields (Obj.data_mapFields hd _))⟩
  have nr : ∀ b o, s.heap.get? b = some o → (∀ vs, o.data ≠ .fields vs) → b ≠ T := fun b o hb hnf q => by
    rw [q, hT] at hb; cases hb; exact hnf ts hd
  have nf : T ∉ frs (env :: outer) := fun hm => by
    obtain ⟨_, o, ho, hnf⟩ := hl.mem hm
    rw [hT] at ho; cases ho; exact hnf ts hd
  refine entry_x hfr (hl.of_keeps fun b o hb hnf => ⟨o, (other b (nr b o hb hnf)).trans hb, rfl⟩) hf ((other x (Ne.symm hTx)).trans he) hz fun h' T' N => h h' T' ?_
  obtain ⟨o, ho⟩ := hTT
  refine ⟨N.rc, N.tb, Nat.le_trans (Nat.le_of_eq (Heap.size_update ..).symm) N.new, N.ne, fun b o hb hb' hbf e => N.keep b o hb (by simp) hbf ((other b (by simpa using hb')).trans e), fun b o hb hb' e => N.slot b o hb (by simp) ((other b (by simpa using hb')).trans e), fun b hb => ?_⟩
  have e : b = T := by simpa using hb
  subst e
  exact ⟨o, N.keep b o hTx (by simp) nf ho⟩
theorem land_x {Q : Unit → Shared → Prop} {fs told : List Addr} {T : Addr} {fl : Value} {h0 : Heap} (N : Notes fs x C od sl told T fl h0 s.heap) (nt : T ∉ told) (h : ∀ h', Notes fs x C od sl told T .none h0 h' → Q () { s with heap := h' }) : wpAny M A (setFlight (.ref x) none) Q E s := by
  obtain ⟨vs, hz, he, h1⟩ := N.rc
  obtain ⟨oT, ts, hT, hd, h3⟩ := N.tb
  have hs3 := (Array.getElem?_eq_some_iff.mp h3).1
  unfold setFlight
  refine wpAny_bind (wpAny_field he rfl h1 ?_)
  rw [if_pos (show (Value.ref T != Value.none) = true from by simp)]
  refine wpAny_setField hT hd hs3 (h _ ?_)
  have other : ∀ b, b ≠ T → (s.heap.update T (Obj.mapFields (·.setIfInBounds 3 ((none : Option Addr).elim Value.none fun f => rawInt f)))).get? b = s.heap.get? b := fun b hb => Heap.get?_update_other _ _ (Ne.symm hb)
  have lt : ∀ b o, h0.get? b = some o → b ≠ T := fun b o e => Nat.ne_of_lt (Nat.lt_of_lt_of_le (Heap.lt_size e) N.new)
  refine ⟨⟨vs, hz, (other x (Ne.symm N.ne)).trans he, h1⟩, ⟨_, _, Heap.get?_update_self _ hT (Obj.isFreed_of_fields (Obj.data_mapFields hd _)), Obj.data_mapFields hd _, by simp [hs3]⟩, N.new, N.ne, fun b o hb hb' hbf e => (other b (lt b o e)).trans (N.keep b o hb hb' hbf e), fun b o hb hb' e => ?_, fun b hb => ?_⟩
  · obtain ⟨s', e'⟩ := N.slot b o hb hb' e
    exact ⟨s', (other b (lt b o e)).trans e'⟩
  · obtain ⟨o, e⟩ := N.old b hb
    exact ⟨o, (other b fun z => nt (z ▸ hb)).trans e⟩
end
end Add

namespace Add
open PySem PySem.Spec PyProof.Rows L2
/-! ### an error in flight, by the abstract heap -/
noncomputable def FlyT (X : Cx) (pins : List (Addr × Obj)) (H : Hp) (h : Heap) (x C : Addr) (od : Option Addr) : Prop := H x = some (exO x C od false) ∧ ∃ (vs : Array Value) (sl : Array (Option Value)) (T : Addr) (oT : Obj) (ts : Array Value),
  h.get? x = some (exRec C od vs sl) ∧ vs[1]? = some (.ref T) ∧ h.get? T = some oT ∧ oT.data = .fields ts ∧ ts[3]? = some .none ∧ FpOk X pins H T
noncomputable def Fly (X : Cx) (pins : List (Addr × Obj)) (H : Hp) (h : Heap) (x C : Addr) (od : Option Addr) : Prop := H x = some (exO x C od true) ∨ FlyT X pins H h x C od
theorem has_upd {P : Program} {w : World} {H : Hp} {h : Heap} {x C : Addr} {od : Option Addr} {fr fr' : Bool} (ok : HOk P w H h) (e : H x = some (exO x C od fr)) (a : exHas H od) : exHas (upd H x (exO x C od fr')) od := by
  cases od with
  | none => exact trivial
  | some dx =>
    obtain ⟨fs, q⟩ := a
    exact ⟨fs, by rw [upd_ne (ex_ne ok e q)]; exact q⟩
section
variable {X : Cx} {pins : List (Addr × Obj)} {σ : L2.St} {H : Hp} {s : Shared} {E : Value → Shared → Prop} {x C : Addr} {od : Option Addr}
theorem notes_inv {fr : Bool} {sl : Array (Option Value)} {told : List Addr} {T : Addr} {fl : Value} {h' : Heap} (I : Inv X pins σ H s) (e : H x = some (exO x C od fr)) (N : Notes (frs X.stack) x C od sl told T fl s.heap h') (ht : ∀ b ∈ told, FpOk X pins H b) :
    Inv X pins σ (upd H x (exO x C od false)) { s with heap := h' } ∧ FpOk X pins (upd H x (exO x C od false)) T := by
  have nx : ∀ b, H b = none → b ≠ x := fun b n z => by rw [z, e] at n; cases n
  have nt : ∀ b u, H b = some u → b ∉ told := fun b u q z => by rw [(ht b z).1] at q; cases q
  have nf : ∀ b u, H b = some u → b ∉ frs X.stack := fun b u q z => by rw [I.stkFree b z] at q; cases q
  have hx' : ∀ b u, H b = some u → u ≠ exO x C od fr → b ≠ x := fun b u q n z => n (by rw [z, e] at q; exact (Option.some.inj q).symm)
  have sub : ∀ b, b ≠ X.env.locals → b ∉ X.fs → b ∉ frs X.stack := fun b h1 h2 z => by
    rcases List.mem_cons.mp (I.stkSub b z) with q | q
    · exact h1 q
    · exact h2 q
  refine ⟨I.step (g' := s.gens) (d' := s.drawn) (t' := s.toks) (ch := told) (fun b hb => ⟨(ht b hb).2.2.2.1, (ht b hb).2.1, (ht b hb).2.2.2.2.1, (ht b hb).2.2.2.2.2⟩) (fun b o h1 h2 hc q n => N.keep b o (nx b n) hc (sub b h1 h2) q) (fun b o _ _ hc q n => N.slot b o (nx b n) hc q)
    (fun b o _ _ n => by rw [upd_ne (nx b n)]; exact n) (fun b o hc q => ?_) (fun b xs q => ?_) (fun b o u q => ?_) (fun b ps q => ?_) (fun m hm => ?_) (fun b u q => ?_) I.bare, ?_⟩
  · by_cases hb : b = x
    · subst hb
      obtain ⟨vs, _, r, _⟩ := N.rc
      exact ⟨_, r⟩
    · obtain ⟨s', q'⟩ := N.slot b o hb hc q
      exact ⟨_, q'⟩
  · rw [upd_ne (hx' b _ q (by unfold exO; intro z; cases z))]; exact q
  · rw [upd_ne (hx' b _ q (by unfold exO; intro z; cases z))]; exact q
  · exact ⟨#[], by rw [upd_ne (hx' b _ q (by unfold exO; intro z; cases z)), q]; simp⟩
  · obtain ⟨o, es, ep, ho, r⟩ := hm
    obtain ⟨s', q'⟩ := N.slot _ o (nx _ I.free) (fun z => (ht _ z).2.1 rfl) ho
    exact ⟨_, es, ep, q', r⟩
  · by_cases hb : b = x
    · subst hb
      rw [upd_same] at q
      cases q
      obtain ⟨vs, hz, r, _⟩ := N.rc
      exact exO_ok r hz fun z => nomatch z
    · rw [upd_ne hb] at q
      refine (I.hok b u q).stay (fun c v hc r => ?_) (fun c r => ?_) fun c xs r => ?_
      · rcases hc with rfl | hc
        · exact N.keep c v hb (nt c u q) (nf c u q) r
        · exact N.keep c v (hx' c _ hc (by unfold exO; intro z; cases z)) (nt c _ hc) (nf c _ hc) r
      · rw [upd_ne (hx' c _ r (by unfold exO; intro z; cases z))]; exact r
      · rw [upd_ne (hx' c _ r (by unfold exO; intro z; cases z))]; exact r
  · exact I.fpOk N.new (by rw [upd_ne N.ne]; exact I.hok.fresh N.new)
/-- noteFrame and then the landing: of a body's own frame -/
theorem note_land {Q : Shared → Prop} (hst : X.stack = X.env :: X.outer ∧ X.env.frame = some X.env.locals) (I : Inv X pins σ H s) (f : Fly X pins H s.heap x C od)
    (h : ∀ s', Inv X pins σ (upd H x (exO x C od false)) s' → FlyT X pins (upd H x (exO x C od false)) s'.heap x C od → Q s') :
    wpAny (model X.prog X.w) X.A (noteFrame (.ref x) X.env) (fun _ s2 => wpAny (model X.prog X.w) X.A (setFlight (.ref x) none) (fun _ s3 => Q s3) E s2) E s := by
  have hfr : X.A.frames = some (X.env :: X.outer) := by rw [I.ok.frames, hst.1]
  have hl : s.heap.FunFrames X.base (X.env :: X.outer) := by rw [← hst.1]; exact I.stack
  have fin : ∀ {fr : Bool} {sl : Array (Option Value)} {told : List Addr} {T : Addr} {fl : Value} {h' : Heap}, H x = some (exO x C od fr) → (∀ b ∈ told, FpOk X pins H b) → (∀ b ∈ told, ∃ o, s.heap.get? b = some o) → Notes (frs (X.env :: X.outer)) x C od sl told T fl s.heap h' →
      wpAny (model X.prog X.w) X.A (setFlight (.ref x) none) (fun _ s3 => Q s3) E { s with heap := h' } := by
    intro fr sl told T fl h' e ht hex N
    refine land_x (s := { s with heap := h' }) N (fun z => ?_) fun h2 N2 => ?_
    · obtain ⟨o, q⟩ := hex T z
      exact absurd (Heap.lt_size q) (Nat.not_lt.mpr N.new)
    · rw [← hst.1] at N2
      obtain ⟨J, fp⟩ := notes_inv I e N2 ht
      obtain ⟨vs, hz, r, h1⟩ := N2.rc
      obtain ⟨oT, ts, hT, hd, h3⟩ := N2.tb
      exact h _ J ⟨upd_same, vs, sl, T, oT, ts, r, h1, hT, hd, h3, fp⟩
  rcases f with e | ⟨e, vs, sl, T, oT, ts, he, h1, hT, hd, h3, fp⟩
  · obtain ⟨vs, sl, he, hz, ff⟩ := exO_at I.hok e
    obtain ⟨rfl, t, rfl⟩ := ff rfl
    exact note_new hfr hl hst.2 he ⟨rfl, rfl⟩ rfl fun h' T N => fin e (fun b hb => absurd hb (by simp)) (fun b hb => absurd hb (by simp)) N
  · have hz : Sz6 vs := by
      obtain ⟨vs', sl', he', hz, _⟩ := exO_at I.hok e
      rw [he] at he'
      cases he'
      exact hz
    have hTx : T ≠ x := fun z => by
      have := fp.1
      rw [z, e] at this
      cases this
    have one : ∀ b ∈ [T], b = T := fun b hb => by simpa using hb
    exact note_next hfr hl hst.2 he hz h1 hTx hT hd h3 fun h' T' N => fin e (fun b hb => by rw [one b hb]; exact fp) (fun b hb => by rw [one b hb]; exact ⟨_, hT⟩) N
end

/-! ### how an error lies behind a call -/
noncomputable def CX1 (P : Program) (w : World) : CXT := fun outer H s E e s' => ∃ (x C : Addr) (od : Option Addr) (H' : Hp) (vs : Array Value) (sl : Array (Option Value)) (T : Addr) (oT : Obj) (ts : Array Value), e = .ref x ∧ H' x = some (exO x C od false) ∧ exHas H' od ∧ s'.heap.get? x = some (exRec C od vs sl) ∧ vs[1]? = some (.ref T) ∧
  s'.heap.get? T = some oT ∧ oT.data = .fields ts ∧ ts[3]? = some .none ∧ H' T = none ∧ s.heap.objs.size ≤ T ∧ s'.os = s.os ∧ AllBare s'.gens ∧ Un (frs outer) [] H H' s.heap s'.heap ∧ HOk P w H' s'.heap ∧ E (.ref x) od H'
/-- an error that is made or comes in a body goes where E is asked of it -/
noncomputable def Takes (X : Cx) (E : XK) : Prop := ∀ (pins : List (Addr × Obj)) (σ : L2.St) (H : Hp) (s : Shared) (x C : Addr) (od : Option Addr), Inv X pins σ H s → Fly X pins H s.heap x C od → exHas H od → E (.ref x) od (upd H x (exO x C od false)) → X.xe (.ref x) s
theorem takes_fn {P : Program} {w : World} {K : PySem.W.Frag} {mg : Str → Option Value} {base : Heap} {N : List Str} {qual : Str} {scope : Scope} {f : Addr} {cd : Value} {A : Around} {outer : List Env} {s : Shared} {H : Hp} {E : XK} :
    Takes (cxOf (CX1 P w) P w K mg base N qual scope f cd A outer s H E) E := by
  intro pins σ H1 s1 x C od I fl has q
  show wpAny _ _ (leaving _ _) _ _ _
  unfold leaving
  refine wpAny_bind (note_land ⟨rfl, rfl⟩ I fl fun s2 J ft => ?_)
  obtain ⟨e, vs, sl, T, oT, ts, hx, h1, hT, hd, h3, fp⟩ := ft
  have hTs : s.heap.objs.size ≤ T := by
    rcases fp.2.2.2.1 with z | z
    · exact absurd (show T ∈ ([] : List Addr) from z) (by simp)
    · exact z
  have e1 : ∃ fr, H1 x = some (exO x C od fr) := by
    rcases fl with z | z
    · exact ⟨_, z⟩
    · exact ⟨_, z.1⟩
  obtain ⟨fr, e1⟩ := e1
  exact ⟨x, C, od, _, vs, sl, T, oT, ts, rfl, e, has_upd I.hok e1 has, hx, h1, hT, hd, h3, fp.1, hTs, J.os, J.bare, J.base, J.hok, q⟩
end Add

namespace Add
open PySem PySem.Spec PyProof.Rows L2
/-! ### a def that may let an error out; leaves whose errors are asked of by the names' values -/
section
variable {P : Program} {w : World} {K : PySem.W.Frag} {mg : Str → Option Value} {base : Heap}
theorem okX {x qual : Str} {st : Stmt} {f : Addr} {fd : FuncData} {N ps : List Str} {k : Nat} {sp : Sp} (F : Fun K x qual st f fd) (S : FnScope N ps (defScope st)) (len : ∀ vs H Q E, sp vs H Q E → vs.length = ps.length)
    (hbody : ∀ (cdv : Value) (A : Around) (outer : List Env) (s : Shared) (H : Hp) (vs : List V) (Q : VK) (E : XK), Room k (A.deeper (envOfC qual (defScope st) s.heap.objs.size f cdv)) → sp vs H Q E →
      ∃ t, PSs (cxOf (CX1 P w) P w K mg base N qual (defScope st) f cdv A outer s H E) (defBody st) t ∧ t { nx := fun _ H' => Q .non H', rt := Q } (start N vs) H) : FnOk P w K mg base (CX1 P w) (k + 1) f fd ps sp := by
  obtain ⟨oc, od, kV, doc, pm, an, cdv, ct, osl, rfl, lk, hcd⟩ := F.ex
  exact fn_of lk hcd S len fun A outer s H vs Q E hr hsp => hbody cdv A outer s H vs Q E hr hsp
end
theorem passF {X : Cx} {P : Program} {w : World} : Passes (CX1 P w) X E0 := fun _ _ _ _ _ _ _ h => by
  obtain ⟨_, _, _, _, _, _, _, _, _, _, _, _, _, _, _, _, _, _, _, _, _, _, _, q⟩ := h
  exact q.elim
noncomputable def TakesAt (X : Cx) (EX : L2.St → XK) : Prop := ∀ (pins : List (Addr × Obj)) (σ : L2.St) (H : Hp) (s : Shared) (x C : Addr) (od : Option Addr), Inv X pins σ H s → Fly X pins H s.heap x C od → exHas H od → EX σ (.ref x) od (upd H x (exO x C od false)) → X.xe (.ref x) s
theorem Takes.at {X : Cx} {E : XK} (t : Takes X E) : TakesAt X fun _ => E := t
theorem TakesAt.pass {X : Cx} {EX : L2.St → XK} {pins : List (Addr × Obj)} {σ : L2.St} {H : Hp} {s s' : Shared} {e : Value} (t : TakesAt X EX) (I : Inv X pins σ H s) (c : CX1 X.prog X.w X.stack H s (EX σ) e s') : X.xe e s' := by
  obtain ⟨x, C, od, H', vs, sl, T, oT, ts, rfl, ex, has, hx, h1, hT, hd, h3, hn, hz, ho, hb, un, ok, q⟩ := c
  have J := I.call' (ch := []) ho un ok hb fun b hb => absurd hb (by simp)
  refine t pins σ H' s' x C od J (.inr ⟨ex, vs, sl, T, oT, ts, hx, h1, hT, hd, h3, I.fpOk hz hn⟩) has ?_
  rw [upd_self ex]
  exact q
noncomputable def tCallX (sp : Sp) (dvs : List V) (EX : L2.St → XK) (t : TA) : TE := fun σ H Q => t σ H fun vs H1 => sp (vs ++ dvs) H1 Q (EX σ)
noncomputable def tMakeX (C : Addr) (sp : Sp) (dvs : List V) (EX : L2.St → XK) (t : TA) : TE := fun σ H Q => t σ H fun vs H1 => ∀ x dx, H1 x = none → H1 dx = none → dx ≠ x →
  sp (.ref x :: (vs ++ dvs)) (upd (upd H1 dx (.own x)) x (.ins C dx [])) (fun v H2 => v = .non ∧ Q (.ref x) H2) (EX σ)
section
variable {X : Cx} {k : Nat} {f C : Addr} {fd : FuncData} {ps : List Str} {sp : Sp} {dvs : List V} {ds : List Value} {EX : L2.St → XK} {x m : Str} {p pos apos : Pos} {e o : Expr} {es : List Expr} {ta : TE} {t : TA}
theorem run_fnX {pins : List (Addr × Obj)} {σ : L2.St} {H : Hp} {s : Shared} {Q : VK} {us : List Value} {vs : List V} (F : FnOk X.prog X.w X.K X.mg X.base (CX1 X.prog X.w) k f fd ps sp) (hr : Room k X.A) (hb : Binds X.K fd ps ds) (hd : Vals dvs ds) (hx : TakesAt X EX)
    (I : Inv X pins σ H s) (r : Vals vs us) (h : sp (vs ++ dvs) H Q (EX σ)) : wpAny (model X.prog X.w) X.A (call (.ref f) us) (EP X pins σ Q) X.xe s := by
  have r2 : Vals (vs ++ dvs) (us ++ ds) := r.append hd
  have hl : (us ++ ds).length = ps.length := by rw [← r2.length]; exact F.len _ _ _ _ h
  refine wpAny_call (codeAny_mono (F.run X.A X.stack s H ⟨us, []⟩ (us ++ ds) (vs ++ dvs) Q (EX σ) hr I.env0 (hb s us I.kIn hl) r2 h) fun r s' hq => ?_)
  cases r with
  | error e => exact hx.pass I hq
  | ok fl =>
    cases fl with
    | ret u => exact I.after hq
    | next => exact False.elim hq
    | brk => exact False.elim hq
    | cont => exact False.elim hq
theorem pe_callX (F : FnOk X.prog X.w X.K X.mg X.base (CX1 X.prog X.w) k f fd ps sp) (hr : Room k X.A) (hg : Gl X x) (hm : X.mg x = some (.ref f)) (hk : PySem.W.keepIn X.K (.ref f) = true) (hb : Binds X.K fd ps ds) (hd : Vals dvs ds) (hx : TakesAt X EX)
    (ha : PA X (e :: es) t) (hdb : (x == ("__debug__" : Str)) = false := by decide) (he : starEach (e :: es) X.env = (false, eval e X.env) :: starEach es X.env := by rfl) (hpl : (backTo pos (starEach es X.env)).any (·.1) = false := by rfl) :
    PE X (.Call (.Name x p) (e :: es) [] pos) (tCallX sp dvs EX t) := by
  intro pins s σ H Q I h
  refine wpAny_Call_Name_kw (ld_glob I hg hm ?_ hdb)
  refine PySem.W.callWith_K (h₀ := X.base) I.ok.mod.kin hk (thn (ha pos pins s σ H _ I h) fun us s1 ⟨vs, H1, I1, r, q⟩ => ⟨I1.kIn, ?_⟩) he hpl
  exact run_fnX F hr hb hd hx I1 r q
theorem run_makeX {pins : List (Addr × Obj)} {σ : L2.St} {H : Hp} {s : Shared} {Q : VK} {us : List Value} {vs : List V} (M : Mk X.K C f) (F : FnOk X.prog X.w X.K X.mg X.base (CX1 X.prog X.w) k f fd ps sp) (hr : Room (k + 1) X.A) (hb : Binds X.K fd ps ds) (hd : Vals dvs ds)
    (hx : TakesAt X EX) (I : Inv X pins σ H s) (r : Vals vs us)
    (h : ∀ x dx, H x = none → H dx = none → dx ≠ x → sp (.ref x :: (vs ++ dvs)) (upd (upd H dx (.own x)) x (.ins C dx [])) (fun v H2 => v = .non ∧ Q (.ref x) H2) (EX σ)) :
    wpAny (model X.prog X.w) X.A (call (.ref C) us) (EP X pins σ Q) X.xe s := by
  have hq := h (s.heap.objs.size + 1) s.heap.objs.size (I.hok.fresh (Nat.le_succ _)) (I.hok.fresh (Nat.le_refl _)) (Nat.ne_of_lt (Nat.lt_succ_self _))
  have I2 := Inv.made (C := C) I
  have r2 : Vals (V.ref (s.heap.objs.size + 1) :: (vs ++ dvs)) (Value.ref (s.heap.objs.size + 1) :: (us ++ ds)) := .cons rfl (r.append hd)
  have hl : (Value.ref (s.heap.objs.size + 1) :: us ++ ds).length = ps.length := by
    have e := r2.length
    rw [F.len _ _ _ _ hq] at e
    exact e.symm
  refine wpAny_call (make_map (f := f) I.kIn M.makes M.init (beq_iff_eq.mp M.fn) (codeAny_mono (F.run _ X.stack _ _ ⟨Value.ref (s.heap.objs.size + 1) :: us, []⟩ (Value.ref (s.heap.objs.size + 1) :: (us ++ ds)) _ _ (EX σ) (hr.make C us [])
    (I2.env0.make C us []) (hb _ (Value.ref (s.heap.objs.size + 1) :: us) I2.kIn hl) r2 hq) fun r s' hq' => ?_))
  cases r with
  | error e => exact hx.pass I2 hq'
  | ok fl =>
    cases fl with
    | ret u =>
      obtain ⟨v, H', I3, rv, ev, q3⟩ := I2.after hq'
      subst ev
      exact ⟨rv, ⟨V.ref (s.heap.objs.size + 1), H', I3, rfl, q3⟩⟩
    | next => exact False.elim hq'
    | brk => exact False.elim hq'
    | cont => exact False.elim hq'
theorem pe_makeX (M : Mk X.K C f) (F : FnOk X.prog X.w X.K X.mg X.base (CX1 X.prog X.w) k f fd ps sp) (hr : Room (k + 1) X.A) (hg : Gl X x) (hm : X.mg x = some (.ref C)) (hb : Binds X.K fd ps ds) (hd : Vals dvs ds) (hx : TakesAt X EX)
    (ha : PA X (e :: es) t) (hdb : (x == ("__debug__" : Str)) = false := by decide) (he : starEach (e :: es) X.env = (false, eval e X.env) :: starEach es X.env := by rfl) (hpl : (backTo pos (starEach es X.env)).any (·.1) = false := by rfl) :
    PE X (.Call (.Name x p) (e :: es) [] pos) (tMakeX C sp dvs EX t) := by
  intro pins s σ H Q I h
  refine wpAny_Call_Name_kw (ld_glob I hg hm ?_ hdb)
  refine PySem.W.callWith_K (h₀ := X.base) I.ok.mod.kin M.kp (thn (ha pos pins s σ H _ I h) fun us s1 ⟨vs, H1, I1, r, q⟩ => ⟨I1.kIn, ?_⟩) he hpl
  exact run_makeX M F hr hb hd hx I1 r q
end
end Add

namespace Add
open PySem PySem.Spec PyProof.Rows L2
/-! ### try: the body's context, and a suite's -/
noncomputable abbrev _root_.L2.Cx.tr (X : Cx) (pins : List (Addr × Obj)) (W : Value → Shared → Prop) : Cx := { X with pn := X.pn ++ pins, xe := W }
noncomputable abbrev _root_.L2.Cx.sup (X : Cx) (e : Value) (W : Value → Shared → Prop) : Cx := { X with A := X.A.mark (some e), calm := false, xe := W }
section
variable {X : Cx} {pins pins' : List (Addr × Obj)} {σ : L2.St} {H : Hp} {s : Shared} {W : Value → Shared → Prop} {e : Value}
theorem ok_tr (ok : X.Ok) : (X.tr pins W).Ok := ⟨ok.mod, ok.kind, ok.glob, ok.blt, ok.above, ok.inj, ok.has, ok.cab, ok.hd, ok.frames, ok.stk, ok.exf, ok.bs, ok.bsz, ok.noex, ok.exfs, ok.funs, ok.frf⟩
theorem ok_untr (ok : (X.tr pins W).Ok) : X.Ok := ⟨ok.mod, ok.kind, ok.glob, ok.blt, ok.above, ok.inj, ok.has, ok.cab, ok.hd, ok.frames, ok.stk, ok.exf, ok.bs, ok.bsz, ok.noex, ok.exfs, ok.funs, ok.frf⟩
theorem inv_tr (I : Inv X pins σ H s) : Inv (X.tr pins W) [] σ H s := ⟨ok_tr I.ok, I.os, I.bare, I.base, I.loc, I.cell, I.free, I.freeC, fun p hp => I.pin p (by rw [List.append_nil] at hp; exact hp), I.hok, I.len⟩
theorem inv_untr (I : Inv (X.tr pins W) pins' σ H s) : Inv X pins σ H s := ⟨ok_untr I.ok, I.os, I.bare, I.base, I.loc, I.cell, I.free, I.freeC, fun p hp => I.pin p (List.mem_append_left _ hp), I.hok, I.len⟩
theorem fp_untr {b : Addr} (f : FpOk (X.tr pins W) pins' H b) : FpOk X pins H b := ⟨f.1, f.2.1, f.2.2.1, f.2.2.2.1, f.2.2.2.2.1, fun p hp => f.2.2.2.2.2 p (List.mem_append_left _ hp)⟩
theorem fly_untr {h : Heap} {x C : Addr} {od : Option Addr} (f : Fly (X.tr pins W) pins' H h x C od) : Fly X pins H h x C od := by
  rcases f with z | ⟨e, vs, sl, T, oT, ts, h1, h2, h3, h4, h5, h6⟩
  · exact .inl z
  · exact .inr ⟨e, vs, sl, T, oT, ts, h1, h2, h3, h4, h5, fp_untr h6⟩
theorem sp_untr {D : Ends} {f : Flow} {s' : Shared} (h : SP (X.tr pins W) [] D f s') : SP X pins D f s' := by
  cases f with
  | next => obtain ⟨σ', H', I, q⟩ := h; exact ⟨σ', H', inv_untr I, q⟩
  | brk => obtain ⟨σ', H', I, q⟩ := h; exact ⟨σ', H', inv_untr I, q⟩
  | cont => obtain ⟨σ', H', I, q⟩ := h; exact ⟨σ', H', inv_untr I, q⟩
  | ret u => obtain ⟨v, σ', H', I, r, q⟩ := h; exact ⟨v, σ', H', inv_untr I, r, q⟩
theorem ok_sup (ok : X.Ok) : (X.sup e W).Ok := ⟨ok.mod, ok.kind, ok.glob, ok.blt, ok.above, ok.inj, ok.has, ok.cab, (fun z => nomatch z), ok.frames, ok.stk, ok.exf, ok.bs, ok.bsz, ok.noex, ok.exfs, ok.funs, ok.frf⟩
theorem inv_sup (I : Inv X pins σ H s) : Inv (X.sup e W) pins σ H s := ⟨ok_sup I.ok, I.os, I.bare, I.base, I.loc, I.cell, I.free, I.freeC, I.pin, I.hok, I.len⟩
theorem inv_unsup (ok : X.Ok) (I : Inv (X.sup e W) pins σ H s) : Inv X pins σ H s := ⟨ok, I.os, I.bare, I.base, I.loc, I.cell, I.free, I.freeC, I.pin, I.hok, I.len⟩
theorem sp_unsup {D : Ends} {f : Flow} {s' : Shared} (ok : X.Ok) (h : SP (X.sup e W) pins D f s') : SP X pins D f s' := by
  cases f with
  | next => obtain ⟨σ', H', I, q⟩ := h; exact ⟨σ', H', inv_unsup ok I, q⟩
  | brk => obtain ⟨σ', H', I, q⟩ := h; exact ⟨σ', H', inv_unsup ok I, q⟩
  | cont => obtain ⟨σ', H', I, q⟩ := h; exact ⟨σ', H', inv_unsup ok I, q⟩
  | ret u => obtain ⟨v, σ', H', I, r, q⟩ := h; exact ⟨v, σ', H', inv_unsup ok I, r, q⟩
end
/-- the clauses behind a caught error: the ends, the names, the error and its class -/
noncomputable abbrev TH := Ends → L2.St → Addr → Addr → Option Addr → Hp → Prop
noncomputable def PH (X : Cx) (hs : List ExceptHandler) (th : TH) : Prop := ∀ (pins : List (Addr × Obj)) (s : Shared) (σ : L2.St) (H : Hp) (D : Ends) (x C : Addr) (od : Option Addr), Inv X pins σ H s → FlyT X pins H s.heap x C od → exHas H od → th D σ x C od H →
  wpAny (model X.prog X.w) X.A (handleBy (.ref x) X.env hs) (SP X pins D) X.xe s
/-- what is asked of an error in the body: the clauses' reading, at the class that H bears -/
noncomputable def EXof (th : TH) (D : Ends) : L2.St → XK := fun σ v od H => ∃ x C, v = .ref x ∧ H x = some (exO x C od false) ∧ th D σ x C od H
noncomputable def tTry (tb : (L2.St → XK) → TS) (th : TH) : TS := fun D σ H => tb (EXof th D) D σ H
theorem ps_try {X : Cx} {body : List Stmt} {h₀ : ExceptHandler} {hs : List ExceptHandler} {pos : Pos} {tb : (L2.St → XK) → TS} {th : TH} (hst : X.stack = X.env :: X.outer ∧ X.env.frame = some X.env.locals)
    (hb : ∀ pins W EX, TakesAt (X.tr pins W) EX → PassesOwn (model X.prog X.w) X.A X.env W → PSs (X.tr pins W) body (tb EX)) (hh : PH X (h₀ :: hs) th) : PS X (.Try body (h₀ :: hs) [] [] pos) (tTry tb th) := by
  intro pins s σ H D I h
  refine wpAny_Try_except ?_
  have ok := I.ok
  let W : Value → Shared → Prop := fun e s₁ => wpAny (model X.prog X.w) X.A (noteFrame e X.env) (fun _ s₂ => wpAny (model X.prog X.w) X.A (setFlight e none) (fun _ s₃ => wpAny (model X.prog X.w) X.A (handleBy e X.env (h₀ :: hs)) (SP X pins D) X.xe s₃) X.xe s₂) X.xe s₁
  have T : TakesAt (X.tr pins W) (EXof th D) := by
    intro pins' σ' H' s' x C od I' fl has q
    obtain ⟨x', C', ex', eq', q⟩ := q
    cases ex'
    have J := inv_untr I'
    have fl' := fly_untr fl
    have e1 : ∃ fr, H' x = some (exO x C od fr) := by
      rcases fl' with z | z
      · exact ⟨_, z⟩
      · exact ⟨_, z.1⟩
    obtain ⟨fr, e1⟩ := e1
    refine note_land hst J fl' fun s2 J2 ft => ?_
    obtain ⟨_, _, z, _⟩ := exO_at J2.hok eq'
    have ft' := ft
    obtain ⟨_, _, _, _, _, _, z', _⟩ := ft'
    rw [z'] at z
    cases z
    exact hh pins s2 σ' _ D x C od J2 ft (has_upd J.hok e1 has) q
  refine wpAny_mono (hb pins W _ T PassesOwn.looking [] s σ H D (inv_tr I) h) (fun f s₁ q => ?_) fun e s₁ q => q
  have q := sp_untr q
  cases f with
  | next => exact wpAny_execs_nil q
  | _ => exact q
/-- no clause is left: not reached -/
theorem ph_nil {X : Cx} : PH X [] fun _ _ _ _ _ _ => False := fun _ _ _ _ _ _ _ _ _ _ _ h => h.elim
section
variable {X : Cx} {pins : List (Addr × Obj)} {σ : L2.St} {H : Hp} {s : Shared} {E : Value → Shared → Prop}
/-- the landing once more -/
theorem land_again {M : Model} {A : Around} {x C : Addr} {od : Option Addr} {Q : Unit → Shared → Prop} (I : Inv X pins σ H s) (f : FlyT X pins H s.heap x C od) (h : ∀ s', Inv X pins σ H s' → FlyT X pins H s'.heap x C od → Q () s') : wpAny M A (setFlight (.ref x) none) Q E s := by
  obtain ⟨e, vs, sl, T, oT, ts, hx, h1, hT, hd, h3, fp⟩ := f
  have hs3 := (Array.getElem?_eq_some_iff.mp h3).1
  unfold setFlight
  refine wpAny_bind (wpAny_field hx rfl h1 ?_)
  rw [if_pos (show (Value.ref T != Value.none) = true from by simp)]
  refine wpAny_setField hT hd hs3 ?_
  have other : ∀ b, b ≠ T → (s.heap.update T (Obj.mapFields (·.setIfInBounds 3 ((none : Option Addr).elim Value.none fun f => rawInt f)))).get? b = s.heap.get? b := fun b hb => Heap.get?_update_other _ _ (Ne.symm hb)
  have hTT := Heap.get?_update_self (Obj.mapFields (·.setIfInBounds 3 ((none : Option Addr).elim Value.none fun f => rawInt f))) hT (Obj.isFreed_of_fields (Obj.data_mapFields hd _))
  have nT : ∀ b u, H b = some u → b ≠ T := fun b u q z => by rw [z, fp.1] at q; cases q
  have one : ∀ b, b ∉ [T] → b ≠ T := fun b hb z => hb (by rw [z]; simp)
  refine h _ (I.step (g' := s.gens) (d' := s.drawn) (t' := s.toks) (ch := [T]) (fun b hb => ?_) (fun b o _ _ hc q _ => (other b (one b hc)).trans q) (fun b o _ _ hc q _ => ⟨o.slots, (other b (one b hc)).trans q⟩) (fun b o _ _ n => n) (fun b o hc q => ⟨o, (other b (one b hc)).trans q⟩)
    (fun b xs q => q) (fun b o u q => q) (fun b ps q => ⟨#[], by rw [q]; simp⟩) (fun m hm => ?_) (fun b u q => ?_) I.bare) ⟨e, vs, sl, T, _, _, (other x (nT x _ e)).trans hx, h1, hTT, Obj.data_mapFields hd _, by simp [hs3], fp⟩
  · have z : b = T := by simpa using hb
    subst z
    exact ⟨fp.2.2.2.1, fp.2.1, fp.2.2.2.2.1, fp.2.2.2.2.2⟩
  · obtain ⟨o, es, ep, ho, r⟩ := hm
    exact ⟨o, es, ep, (other _ (Ne.symm fp.2.1)).trans ho, r⟩
  · exact (I.hok b u q).stay (fun c v hc r => (other c (by
      rcases hc with rfl | hc
      · exact nT c u q
      · exact nT c _ hc)).trans r) (fun _ r => r) fun _ _ r => r
/-- a suite's name goes -/
theorem goes_ok {M : Model} {A : Around} {i : Nat} {n : Str} {pos : Pos} {Q : Unit → Shared → Prop} (I : Inv X pins σ H s) (hN : X.N.Nodup) (hi : X.N[i]? = some n) (hk : X.env.scope.names.lookup n = some .local)
    (h : ∀ s', Inv X pins (σ.set i none) H s' → Q () s') : wpAny M A (do bindName X.env n .none; unbindBehindTheSuite X.env n pos) Q E s := by
  obtain ⟨m, hn, hl⟩ := id I.loc
  have hcls : (X.env.scope.kind == .class || (X.env.scope.kind == .module && X.env.locals != X.env.globals)) = false := by rw [I.ok.kind]; rfl
  have cne := I.cne
  refine wpAny_nameGoes_keeps hk hn hcls fun h' v hn' hs => ?_
  obtain ⟨oL, _, _, hoL, _⟩ := id hn
  have tracked : HOk X.prog X.w H h' := fun b ob e => by
    refine (I.hok b ob e).stay (fun c w' hc q => (hs.2 c ?_).trans q) (fun _ q => q) fun _ _ q => q
    rintro rfl
    rcases hc with rfl | hc
    · rw [I.free] at e; cases e
    · rw [I.free] at hc; cases hc
  refine h _ ⟨I.ok, I.os, I.bare, ⟨fun b o e n hb hx => ?_, fun b o e n hb hx => ?_, I.base.free, fun b o e hx => ?_, I.base.tups, I.base.frzs, I.base.tbls⟩, ⟨_, hn', fun j y v' e1 e2 e3 => ?_⟩, fun y c e => ?_, I.free, I.freeC, fun p hp => ?_, tracked, by simpa using I.len⟩
  · exact (hs.2 b (Nat.ne_of_lt (Nat.lt_of_lt_of_le (Heap.lt_size e) I.ok.above))).trans (I.base.keep b o e n hb hx)
  · obtain ⟨sl, e1⟩ := I.base.slot b o e n hb hx
    exact ⟨sl, (hs.2 b (Nat.ne_of_lt (Nat.lt_of_lt_of_le (Heap.lt_size e) I.ok.above))).trans e1⟩
  · obtain ⟨o', e1⟩ := I.base.there b o e hx
    exact ⟨o', (hs.2 b (Nat.ne_of_lt (Nat.lt_of_lt_of_le (Heap.lt_size e) I.ok.above))).trans e1⟩
  · have hj : j ≠ i := fun z => by
      subst z
      rw [List.getElem?_set_self (by rw [I.len]; exact (List.getElem?_eq_some_iff.mp hi).1)] at e2
      cases e2
    rw [List.getElem?_set_ne (Ne.symm hj)] at e2
    obtain ⟨u', r', q⟩ := hl j y v' e1 e2 e3
    refine ⟨u', r', ?_⟩
    rcases q with ⟨k, e⟩ | ⟨k, c, e, z⟩
    · refine .inl ⟨k, ?_⟩
      have : y ≠ n := fun e => hj (nodup_ix hN e1 (e ▸ hi))
      simp [this, e]
    · exact .inr ⟨k, c, e, z.sameBut hs (cne y c e)⟩
  · obtain ⟨w', z⟩ := I.cell y c e
    exact ⟨w', z.sameBut hs (cne y c e)⟩
  · obtain ⟨e, n, ne, nf, d⟩ := I.pin p hp
    exact ⟨(hs.2 p.1 ne).trans e, n, ne, nf, d⟩
end
/-- the test: a name that is read for a class -/
noncomputable def PC (X : Cx) (t : Expr) (c : Value) : Prop := ∀ (e : Value) (E : Value → Shared → Prop) (pins : List (Addr × Obj)) (s : Shared) (σ : L2.St) (H : Hp) (Q : Value → Shared → Prop), Inv X pins σ H s → Q c s → wpAny (model X.prog X.w) (X.A.mark (some e)) (eval t X.env) Q E s
theorem pc_glob {X : Cx} {x : Str} {u : Value} {pos : Pos} (hg : Gl X x) (hm : X.mg x = some u) (hd : (x == ("__debug__" : Str)) = false := by decide) : PC X (.Name x pos) u := fun e E pins s σ H Q I h =>
  ld_glob (X := X.sup e E) (inv_sup I) hg hm h hd
/-- except c: suite -/
noncomputable def hCl (K : PySem.W.Frag) (c : Value) (suite rest : TH) : TH := fun D σ x C od H => match PySem.W.exmOne K (.ref C) c with
  | some true => suite D σ x C od H
  | some false => rest D σ x C od H
  | none => False
/-- as n: the name is bound ahead of the suite, and goes behind it -/
noncomputable def hAs (i : Nat) (ts : Addr → TS) : TH := fun D σ x _ _ H => ts x { nx := fun σ' H' => D.nx (σ'.set i none) H', rt := D.rt, bk := fun σ' H' => D.bk (σ'.set i none) H', ct := fun σ' H' => D.ct (σ'.set i none) H' } (σ.set i (some (.ref x))) H
section
variable {X : Cx} {t : Expr} {b₀ : Stmt} {body : List Stmt} {pos : Pos} {rest : List ExceptHandler} {c : Value} {ts : Addr → TS} {tr : TH}
theorem fly_ty {pins : List (Addr × Obj)} {H : Hp} {h : Heap} {x C : Addr} {od : Option Addr} (fl : FlyT X pins H h x C od) : PySem.W.Looks (model X.prog X.w) h (typeOf (.ref x)) (.ref C) := by
  obtain ⟨e, vs, sl, T, oT, tsl, hx, _⟩ := fl
  exact (PySem.W.Looks.ld hx).andThen .now
theorem ph_as {i : Nat} {n : Str} (hN : X.N.Nodup) (hi : X.N[i]? = some n) (hk : X.env.scope.names.lookup n = some .local) (hc : PC X t c) (hb : ∀ x, PSs (X.sup (.ref x) fun _ _ => False) (b₀ :: body) (ts x)) (hr : PH X rest tr) :
    PH X (.ExceptHandler (some t) (some n) (b₀ :: body) pos :: rest) (hCl X.K c (hAs i ts) tr) := by
  intro pins s σ H D x C od I fl has h
  refine wpAny_handleBy_cons (codeAny_handlers_test (hc (.ref x) _ pins s σ H _ I ?_)) (by intro q; cases q)
  unfold hCl at h
  split at h
  · rename_i he
    refine (PySem.W.exm_one I.kIn (fly_ty fl) he).here ?_
    refine codeAny_handlers_suite_as (land_again I fl fun s2 I2 f2 => ?_)
    refine store_ok I2 hN hi (.inl hk) (v := .ref x) rfl (fun s3 I3 => ?_) (.inr hk)
    refine wpAny_mono (hb x pins s3 _ H _ (inv_sup I3) h) (fun f s4 q => ?_) fun _ _ z => z.elim
    have q := sp_unsup I.ok q
    cases f with
    | next => obtain ⟨σ', H', J, q⟩ := q; exact goes_ok J hN hi hk fun s5 J5 => ⟨_, H', J5, q⟩
    | brk => obtain ⟨σ', H', J, q⟩ := q; exact goes_ok J hN hi hk fun s5 J5 => ⟨_, H', J5, q⟩
    | cont => obtain ⟨σ', H', J, q⟩ := q; exact goes_ok J hN hi hk fun s5 J5 => ⟨_, H', J5, q⟩
    | ret u => obtain ⟨v, σ', H', J, r, q⟩ := q; exact goes_ok J hN hi hk fun s5 J5 => ⟨v, _, H', J5, r, q⟩
  · rename_i he
    refine (PySem.W.exm_one I.kIn (fly_ty fl) he).here ?_
    exact hr pins s σ H D x C od I fl has h
  · exact h.elim
end
end Add

namespace Add
open PySem PySem.Spec PyProof.Rows L2
/-! ### raise e -/
structure XRaise (K : PySem.W.Frag) (C : Addr) : Prop where
  sub : PySem.W.mroIn K C (.type "BaseException") = some true
  ty : PySem.W.typeIn K (.ref C) = some (.type "type")
noncomputable def xRaise (K : PySem.W.Frag) (C : Addr) : Bool := (PySem.W.mroIn K C (.type "BaseException") == some true) && (PySem.W.typeIn K (.ref C) == some (.type "type"))
theorem xr_of {K : PySem.W.Frag} {C : Addr} (h : xRaise K C = true) : XRaise K C := by
  unfold xRaise at h
  simp only [Bool.and_eq_true, beq_iff_eq] at h
  exact ⟨h.1, h.2⟩
theorem raise_x {prog : Program} {w : World} {A : Around} {E : Value → Shared → Prop} {s : Shared} {env : Env} {K : PySem.W.Frag} {m : Sem Value} {Q : Flow → Shared → Prop} (hh : A.handled = none)
    (h : wpAny (model prog w) A m (fun v s₁ => ∃ x C od vs sl, v = .ref x ∧ K.In s₁.heap ∧ XRaise K C ∧ s₁.heap.get? x = some (exRec C od vs sl) ∧ vs[1]? = some .none ∧ E (.ref x) s₁) E s) :
    wpAny (model prog w) A (raiseStmt env (some m) none) Q E s := by
  unfold raiseStmt
  refine wpAny_bind (wpAny_mono h (fun v s₁ h₁ => ?_) fun _ _ x => x)
  obtain ⟨x, C, od, vs, sl, rfl, KX, c, hx, h1, hE⟩ := h₁
  have LT : PySem.W.Looks (model prog w) s₁.heap (typeOf (.ref x)) (.ref C) := (PySem.W.Looks.ld hx).andThen .now
  have LB : PySem.W.Looks (model prog w) s₁.heap (isInstance (.ref x) (.type "BaseException")) true := LT.andThen (PySem.W.looks_mroIn KX c.sub)
  have LN : PySem.W.Looks (model prog w) s₁.heap (isType (.ref x)) false := (PySem.W.Looks.ld hx).andThen .now
  have LC : PySem.W.Looks (model prog w) s₁.heap (typeOf (.ref C)) (.type "type") := PySem.W.looks_typeIn KX c.ty
  refine wpAny_bind (wpAny_pure ?_)
  refine wpAny_bind (wpAny_holding ?_)
  unfold excFromValue isExcClass
  refine wpAny_bind (wpAny_bind (LN.here ?_))
  rw [if_neg (by decide)]
  refine wpAny_pure ?_
  rw [if_neg (by decide)]
  refine wpAny_bind (LB.here ?_)
  rw [if_pos rfl]
  refine wpAny_pure ?_
  refine wpAny_bind (LN.here ?_)
  rw [if_neg (by decide)]
  refine wpAny_bind ?_
  unfold raisedInstance
  refine wpAny_bind (LT.here (wpAny_bind (LC.here ?_)))
  rw [if_pos (beq_self_eq_true _)]
  refine wpAny_pure ?_
  refine wpAny_bind ?_
  unfold setFlight
  refine wpAny_bind (wpAny_field hx rfl h1 ?_)
  rw [if_neg (by decide)]
  exact wpAny_pure (wpAny_raiseNew_none hh hE)
/-- raise e, with e a fresh error -/
noncomputable def tRaise (K : PySem.W.Frag) (te : TE) (EX : L2.St → XK) : TS := fun _ σ H => te σ H fun v H1 => ∃ x C od, v = .ref x ∧ H1 x = some (exO x C od true) ∧ exHas H1 od ∧ XRaise K C ∧ EX σ (.ref x) od (upd H1 x (exO x C od false))
theorem ps_raise {X : Cx} {e : Expr} {te : TE} {pos : Pos} {EX : L2.St → XK} (hc : X.calm = true) (hx : TakesAt X EX) (he : PE X e te) : PS X (.Raise (some e) none pos) (tRaise X.K te EX) := by
  intro pins s σ H D I h
  rw [arm_exec_Raise]
  refine wpAny_bind (wpAny_standAt ?_)
  show wpAny _ _ (raiseStmt X.env (some (do let v ← eval e X.env; standAt pos; pure v)) none) _ _ _
  refine raise_x (K := X.K) (I.ok.hd hc) (wpAny_bind (thn (he pins s σ H _ I h) fun v s1 ⟨u, H1, I1, r, x, C, od, eu, ex, has, c, q⟩ => wpAny_bind (wpAny_standAt (wpAny_pure ?_))))
  subst eu
  obtain rfl : v = Value.ref x := r
  obtain ⟨vs, sl, e1, z6, ff⟩ := exO_at I1.hok ex
  obtain ⟨rfl, t, rfl⟩ := ff rfl
  exact ⟨x, C, od, _, _, rfl, I1.kIn, c, e1, rfl, hx pins σ H1 s1 x C od I1 (.inl ex) has q⟩
end Add

namespace Add
open PySem PySem.Spec PyProof.Rows L2
section
variable {X : Cx}
end
end Add

namespace Add
open PySem PySem.Spec PyProof.Rows L2
/-! ### f-strings with plain fields -/
noncomputable abbrev TJ := Str → TE
section
variable {X : Cx} {e : Expr} {es : List Expr} {te : TE} {tj : TJ} {pos : Pos}
end
end Add

namespace Add
open PySem PySem.Spec PyProof.Rows L2
open Builtin Builtin.Str
/-! ### methods of texts -/
section
variable {X : Cx}
end
end Add

namespace Add
open PySem PySem.Spec PyProof.Rows L2
/-! ### int of a text -/
end Add

namespace Add
open PySem PySem.Spec PyProof.Rows L2
/-! ### plain classes of the program's own: what is asked of them, in one word each (closed by kernel_rfl) -/
section
variable {K : PySem.W.Frag} {C f : Addr} {m : Str}
noncomputable def clsB (K : PySem.W.Frag) (C : Addr) : Bool := PySem.W.plainGet K C Str.empty && PySem.W.hasDictIn K C && PySem.W.plainOver K C && (PySem.W.findIn K (.ref C) "__setattr__" == some (some (.builtin "object.__setattr__")))
theorem cls_of (h : clsB K C = true) : Cls K C := by
  unfold clsB at h
  simp only [Bool.and_eq_true, beq_iff_eq] at h
  obtain ⟨⟨⟨h1, h2⟩, h3⟩, h4⟩ := h
  exact ⟨h1, h2, h3, h4⟩
noncomputable def mkB (K : PySem.W.Frag) (C f : Addr) : Bool := PySem.W.makesIn K C && (PySem.W.findIn K (.ref C) "__init__" == some (some (.ref f))) && PySem.W.isFn K (.ref f) && PySem.W.keepIn K (.ref C)
theorem mk_of (h : mkB K C f = true) : Mk K C f := by
  unfold mkB at h
  simp only [Bool.and_eq_true, beq_iff_eq] at h
  obtain ⟨⟨⟨h1, h2⟩, h3⟩, h4⟩ := h
  exact ⟨h1, h2, h3, h4⟩
noncomputable def methB (K : PySem.W.Frag) (C : Addr) (m : Str) (f : Addr) : Bool := (PySem.W.findIn K (.ref C) m == some (some (.ref f))) && PySem.W.isFn K (.ref f) && PySem.W.keepIn K (.ref f)
theorem meth_of (h : methB K C m f = true) : Meth K C m f := by
  unfold methB at h
  simp only [Bool.and_eq_true, beq_iff_eq] at h
  obtain ⟨⟨h1, h2⟩, h3⟩ := h
  exact ⟨h1, h2, h3⟩
end
end Add

namespace Add
open PySem PySem.Spec PyProof.Rows L2
open Builtin Builtin.Str
/-! ### x.startswith(y), x.join(list of texts) -/
section
variable {X : Cx}
end
end Add
namespace Add
open PySem PySem.Spec PyProof.Rows L2
open Builtin Builtin.Str
/-! ### a text some times over: of the outcome its length alone is told -/
end Add

namespace Add
open PySem PySem.Spec PyProof.Rows L2
/-! ### comprehensions whose elements may make things; with a test -/
theorem same_add {H H' : Hp} {p : Addr} {o : HO} (s : Same H H') (n : H p = none) : Same H (upd H' p o) := fun b u e => by rw [upd_ne (ne_of_none e n)]; exact s _ _ e
/-- [f x for x in ..], where the element may make things, and changes none -/
theorem comp_grow {js : List (Option Nat)} {g : TG} {te : TE} {J : It} {σ : L2.St} {H : Hp} {Q : VK} {xs : List V} (f : V → V) (Sv : L2.St → Prop) (F : Feeds J H xs) (hz : xs.length ≤ sizeLine) (h0 : Sv (compSt js σ))
    (step : ∀ (x : V) (σ' : L2.St) (H' : Hp) (R : L2.St → VK), x ∈ xs → Same H H' → Sv σ' → (∀ σ3 H5, Sv σ3 → Same H' H5 → R σ3 (f x) H5) → g x σ' H' fun σ3 H3 => te σ3 H3 (R σ3))
    (gk : ∀ (x : V) (σ' : L2.St) (H' : Hp) (R R' : L2.St → Hp → Prop), (∀ σ3 H3, R σ3 H3 → R' σ3 H3) → g x σ' H' R → g x σ' H' R')
    (fin : ∀ p H', H p = none → Same H H' → H' p = some (.lst (xs.map f)) → Q (.ref p) H') :
    tCompR js g tNoIf te σ Q J H := by
  intro p hp
  refine ⟨fun i m σ' H' => m = xs.length - i ∧ i ≤ xs.length ∧ Sv σ' ∧ Same H H' ∧ H' p = some (.lst ((xs.take i).map f)), ⟨xs.length, by simp, Nat.zero_le _, h0, same_add (Same.refl H) hp, by rw [upd_same]; rfl⟩, ?_⟩
  rintro i m σ' H' ⟨rfl, hi, hv, sm, hh⟩
  obtain ⟨F1, F2⟩ := F _ sm
  by_cases hlt : i < xs.length
  · have ex : xs[i]? = some xs[i] := by simp [hlt]
    obtain ⟨go, yl⟩ := F1 i _ ex
    refine .inr ⟨go, fun σ2 H2 => Sv σ2 ∧ Same H H2 ∧ H2 p = some (.lst ((xs.take (i + 1)).map f)), fun σ2 H2 ⟨a, b, c⟩ => ⟨xs.length - (i + 1), by omega, rfl, hlt, a, b, c⟩, fun x H2 hy => ?_⟩
    obtain ⟨rfl, rfl⟩ := yl x H2 hy
    refine gk _ _ _ _ _ (fun σ3 H3 z => ?_) (step xs[i] σ' _ (fun σ3 v H5 => ∃ ys, H5 p = some (.lst ys) ∧ ys.length < sizeLine ∧ (Sv σ3 ∧ Same H (upd H5 p (.lst (ys ++ [v]))) ∧ upd H5 p (.lst (ys ++ [v])) p = some (.lst ((xs.take (i + 1)).map f)))) (List.getElem_mem hlt) sm hv fun σ3 H5 hs3 s5 => ?_)
    · exact z
    · refine ⟨_, s5 _ _ hh, ?_, hs3, same_add (sm.trans s5) hp, ?_⟩
      · rw [List.length_map, List.length_take]; omega
      · rw [upd_same, List.take_add_one, ex, List.map_append]; rfl
  · have e : i = xs.length := by omega
    subst e
    refine .inl ⟨F2, ?_⟩
    rw [List.take_length] at hh
    exact fin p _ hp sm hh
/-- [f x for x in .. if b x], where test and element leave the heap as it is -/
theorem comp_filt {js : List (Option Nat)} {g : TG} {tc : TT} {te : TE} {J : It} {σ : L2.St} {H : Hp} {Q : VK} {xs : List V} (b : V → Bool) (f : V → V) (Sv : L2.St → Prop) (F : Feeds J H xs) (hz : xs.length ≤ sizeLine) (h0 : Sv (compSt js σ))
    (step : ∀ (x : V) (σ' : L2.St) (H' : Hp) (N : L2.St → Hp → Prop) (R : L2.St → VK), x ∈ xs → Same H H' → Sv σ' → (∀ σ3, Sv σ3 → b x = false → N σ3 H') → (∀ σ3, Sv σ3 → b x = true → R σ3 (f x) H') →
      g x σ' H' fun σ3 H3 => tc σ3 H3 fun k H4 => if k = true then te σ3 H4 (R σ3) else N σ3 H4)
    (gk : ∀ (x : V) (σ' : L2.St) (H' : Hp) (R R' : L2.St → Hp → Prop), (∀ σ3 H3, R σ3 H3 → R' σ3 H3) → g x σ' H' R → g x σ' H' R')
    (fin : ∀ p, H p = none → Q (.ref p) (upd H p (.lst ((xs.filter b).map f)))) :
    tCompR js g tc te σ Q J H := by
  intro p hp
  have sm : ∀ o, Same H (upd H p o) := fun o => same_add (Same.refl H) hp
  have fl : ∀ i, ((xs.take i).filter b).length ≤ i := fun i => Nat.le_trans (List.length_filter_le b (xs.take i)) (by rw [List.length_take]; omega)
  refine ⟨fun i m σ' H' => m = xs.length - i ∧ i ≤ xs.length ∧ Sv σ' ∧ H' = upd H p (.lst (((xs.take i).filter b).map f)), ⟨xs.length, by simp, Nat.zero_le _, h0, by simp⟩, ?_⟩
  rintro i m σ' H' ⟨rfl, hi, hv, rfl⟩
  obtain ⟨F1, F2⟩ := F _ (sm (.lst (((xs.take i).filter b).map f)))
  by_cases hlt : i < xs.length
  · have ex : xs[i]? = some xs[i] := by simp [hlt]
    obtain ⟨go, yl⟩ := F1 i _ ex
    have et : (xs.take (i + 1)).filter b = (xs.take i).filter b ++ (if b xs[i] = true then [xs[i]] else []) := by
      rw [List.take_add_one, ex, List.filter_append]
      congr 1
      show List.filter b [xs[i]] = _
      rw [List.filter_cons]
      rfl
    refine .inr ⟨go, fun σ2 H2 => Sv σ2 ∧ H2 = upd H p (.lst (((xs.take (i + 1)).filter b).map f)), fun σ2 H2 ⟨a, b⟩ => ⟨xs.length - (i + 1), by omega, rfl, hlt, a, b⟩, fun x H2 hy => ?_⟩
    obtain ⟨rfl, rfl⟩ := yl x H2 hy
    refine gk _ _ _ _ _ (fun σ3 H3 z => ?_) (step xs[i] σ' _ (fun σ2 H2 => Sv σ2 ∧ H2 = upd H p (.lst (((xs.take (i + 1)).filter b).map f))) (fun σ3 v H5 => ∃ ys, H5 p = some (.lst ys) ∧ ys.length < sizeLine ∧ (Sv σ3 ∧ upd H5 p (.lst (ys ++ [v])) = upd H p (.lst (((xs.take (i + 1)).filter b).map f)))) (List.getElem_mem hlt) (sm _) hv (fun σ3 hs3 hb => ?_) fun σ3 hs3 hb => ?_)
    · exact z
    · refine ⟨hs3, ?_⟩
      rw [et, hb]
      simp
    · refine ⟨_, upd_same, ?_, hs3, ?_⟩
      · rw [List.length_map]; have := fl i; omega
      · rw [upd_upd, et, hb, if_pos rfl, List.map_append]; rfl
  · have e : i = xs.length := by omega
    subst e
    refine .inl ⟨F2, ?_⟩
    rw [List.take_length]
    exact fin p hp
end Add

namespace Wri
open PySem PySem.Spec PyProof.Rows PySem.W PySem.W.KIN PySem.NumText
/-! ### texts cut at a sign; numbers as they are written -/
/-! figures -/
/-- the number of a text of figures is written: no nought in front -/
noncomputable def plain (x : Str) : Bool := decide (x = Str.ofString "0") || !decide (x.cps.toList.head? = some 48)
end Wri

namespace Add
open PySem PySem.Spec PyProof.Rows L2
/-! ### lists of tuples of flat items: what lies in them, and == of them -/
inductive Tups (H : Hp) : List V → List (List V) → Prop where
  | nil : Tups H [] []
  | cons {a : Addr} {r : List V} {vs : List V} {rs : List (List V)} (h : H a = some (.tup r)) (t : Tups H vs rs) : Tups H (.ref a :: vs) (r :: rs)
theorem Tups.same {H H' : Hp} {vs : List V} {rs : List (List V)} (t : Tups H vs rs) (s : Same H H') : Tups H' vs rs := by
  induction t with
  | nil => exact .nil
  | cons h _ ih => exact .cons (s _ _ h) ih
theorem Tups.length {H : Hp} {vs : List V} {rs : List (List V)} (t : Tups H vs rs) : vs.length = rs.length := by
  induction t with
  | nil => rfl
  | cons _ _ ih => rw [List.length_cons, List.length_cons, ih]
theorem Tups.get {H : Hp} {vs : List V} {rs : List (List V)} (t : Tups H vs rs) : ∀ {i : Nat} {r : List V}, rs[i]? = some r → ∃ a, vs[i]? = some (.ref a) ∧ H a = some (.tup r) := by
  induction t with
  | nil => intro i r h; cases i <;> cases h
  | cons h _ ih =>
    intro i r' h'
    cases i with
    | zero => cases h'; exact ⟨_, rfl, h⟩
    | succ i => exact ih (i := i) h'
theorem Tups.get' {H : Hp} {vs : List V} {rs : List (List V)} (t : Tups H vs rs) {i : Nat} {v : V} (h : vs[i]? = some v) : ∃ a r, v = .ref a ∧ rs[i]? = some r ∧ H a = some (.tup r) := by
  have hi : i < rs.length := by rw [← t.length]; exact (List.getElem?_eq_some_iff.mp h).1
  obtain ⟨a, e, q⟩ := t.get (i := i) (r := rs[i]) (by simp [hi])
  rw [h] at e
  cases e
  exact ⟨a, _, rfl, by simp [hi], q⟩
theorem Tups.app {H : Hp} {vs us : List V} {rs ts : List (List V)} (t : Tups H vs rs) (u : Tups H us ts) : Tups H (vs ++ us) (rs ++ ts) := by
  induction t with
  | nil => exact u
  | cons h _ ih => exact .cons h ih
theorem Tups.snoc {H : Hp} {vs : List V} {rs : List (List V)} {a : Addr} {r : List V} (t : Tups H vs rs) (h : H a = some (.tup r)) : Tups H (vs ++ [.ref a]) (rs ++ [r]) := t.app (.cons h .nil)
theorem Tups.take {H : Hp} {vs : List V} {rs : List (List V)} (t : Tups H vs rs) : ∀ n, Tups H (vs.take n) (rs.take n) := by
  induction t with
  | nil => intro n; rw [List.take_nil, List.take_nil]; exact .nil
  | cons h _ ih =>
    intro n
    cases n with
    | zero => exact .nil
    | succ n => exact .cons h (ih n)
theorem Tups.drop {H : Hp} {vs : List V} {rs : List (List V)} (t : Tups H vs rs) : ∀ n, Tups H (vs.drop n) (rs.drop n) := by
  induction t with
  | nil => intro n; rw [List.drop_nil, List.drop_nil]; exact .nil
  | cons h t ih =>
    intro n
    cases n with
    | zero => exact .cons h t
    | succ n => exact ih n
/-- a list's own change leaves the tuples -/
theorem Tups.upd {H : Hp} {vs : List V} {rs : List (List V)} {p : Addr} {xs : List V} {o : HO} (t : Tups H vs rs) (hp : H p = some (.lst xs)) : Tups (L2.upd H p o) vs rs := by
  induction t with
  | nil => exact .nil
  | cons h _ ih => exact .cons (by rw [upd_ne (fun z => by rw [z, hp] at h; cases h)]; exact h) ih
theorem Tups.setLast {H : Hp} {vs : List V} {rs : List (List V)} {v : V} {r r' : List V} {a : Addr} (t : Tups H (vs ++ [v]) (rs ++ [r])) (h : H a = some (.tup r')) : Tups H (vs ++ [.ref a]) (rs ++ [r']) := by
  have := t.take vs.length
  have hl := t.length
  simp only [List.length_append, List.length_cons, List.length_nil] at hl
  rw [List.take_left, show vs.length = rs.length by omega, List.take_left] at this
  exact this.snoc h
section
variable {X : Cx}
theorem rel_ref {a : Addr} {u : Value} (r : RelV (.ref a) u) : u = .ref a := by cases r; rfl
theorem ix_listC {K : PySem.W.Frag} (h : X.K = K) : IxR X (rIxL K) := by subst h; exact ix_list
end
end Add

namespace Lay
/-! ### rows laid over one another -/
section
variable {W : Type} [DecidableEq W]
noncomputable abbrev Row (W : Type) := Int × Int × W
noncomputable def wordF (a : W) (rs : List (Row W)) (d : Int) : W := rs.foldl (fun a r => if r.1 ≤ d ∧ d ≤ r.2.1 then r.2.2 else a) a
noncomputable def cnt (es : List Int) (d : Int) : Nat := (es.filter fun e => decide (e < d)).length
noncomputable abbrev ends (rs : List (Row W)) : List Int := rs.map fun r => r.2.1
structure Dis (rs : List (Row W)) : Prop where
  ok : ∀ r ∈ rs, r.1 ≤ r.2.1
  pw : rs.Pairwise fun r s => r.2.1 < s.1
noncomputable def left (rs : List (Row W)) (f : Int) : List (Row W) := rs.filterMap fun r => if r.1 < f then some (r.1, min r.2.1 (f - 1), r.2.2) else none
noncomputable def right (rs : List (Row W)) (l : Int) : List (Row W) := rs.filterMap fun r => if l < r.2.1 then some (max r.1 (l + 1), r.2.1, r.2.2) else none
noncomputable def over (rs : List (Row W)) (f l : Int) (w : W) : List (Row W) := left rs f ++ (f, l, w) :: right rs l
theorem cnt_eq : ∀ {es : List Int} {d : Int} {k : Nat}, k ≤ es.length → (∀ i e, es[i]? = some e → i < k → e < d) → (∀ i e, es[i]? = some e → k ≤ i → ¬ e < d) → cnt es d = k
  | [], d, k, hk, _, _ => by
    have : k = 0 := by simpa using hk
    subst this; rfl
  | e :: es, d, 0, _, h1, h2 => by
    have ih := cnt_eq (es := es) (d := d) (k := 0) (Nat.zero_le _) (fun _ _ _ z => absurd z (Nat.not_lt_zero _)) fun i x hx _ => h2 (i + 1) x hx (Nat.zero_le _)
    have hn := h2 0 e rfl (Nat.le_refl _)
    unfold cnt at ih ⊢
    rw [List.filter_cons, if_neg (by simpa using hn)]
    exact ih
  | e :: es, d, k + 1, hk, h1, h2 => by
    have ih := cnt_eq (es := es) (d := d) (k := k) (by simpa using hk) (fun i x hx z => h1 (i + 1) x hx (by omega)) fun i x hx z => h2 (i + 1) x hx (by omega)
    have hn := h1 0 e rfl (by omega)
    unfold cnt at ih ⊢
    rw [List.filter_cons, if_pos (by simpa using hn), List.length_cons, ih]
theorem cnt_cons (e : Int) (es : List Int) (d : Int) : cnt (e :: es) d = if e < d then cnt es d + 1 else cnt es d := by
  unfold cnt
  rw [List.filter_cons]
  by_cases h : e < d <;> simp [h]
theorem cnt_le (es : List Int) (d : Int) : cnt es d ≤ es.length := List.length_filter_le _ _
theorem cnt_zero {es : List Int} {d : Int} (h : ∀ e ∈ es, ¬ e < d) : cnt es d = 0 := by
  unfold cnt
  rw [List.filter_eq_nil_iff.mpr (fun e he => by simpa using h e he)]
  rfl
theorem Dis.tail {r : Row W} {rs : List (Row W)} (h : Dis (r :: rs)) : Dis rs := ⟨fun s hs => h.ok s (List.mem_cons_of_mem _ hs), (List.pairwise_cons.mp h.pw).2⟩
theorem Dis.later {r : Row W} {rs : List (Row W)} (h : Dis (r :: rs)) {s : Row W} (hs : s ∈ rs) : r.2.1 < s.1 ∧ s.1 ≤ s.2.1 := ⟨(List.pairwise_cons.mp h.pw).1 s hs, h.ok s (List.mem_cons_of_mem _ hs)⟩
theorem left_nil {rs : List (Row W)} {f : Int} (h : ∀ s ∈ rs, ¬ s.1 < f) : left rs f = [] := by
  unfold left
  rw [List.filterMap_eq_nil_iff]
  intro s hs
  rw [if_neg (h s hs)]
theorem left_code : ∀ {rs : List (Row W)} (f : Int), Dis rs → left rs f = rs.take (cnt (ends rs) f) ++ (match rs[cnt (ends rs) f]? with | some r => if r.1 < f then [(r.1, f - 1, r.2.2)] else [] | none => [])
  | [], f, _ => rfl
  | r :: rs, f, h => by
    have h0 := h.ok r List.mem_cons_self
    by_cases c : r.2.1 < f
    · have e : cnt (ends (r :: rs)) f = cnt (ends rs) f + 1 := by rw [show ends (r :: rs) = r.2.1 :: ends rs from rfl, cnt_cons, if_pos c]
      have ih := left_code f h.tail
      rw [e, List.take_succ_cons, List.getElem?_cons_succ, List.cons_append, ← ih]
      show List.filterMap _ (r :: rs) = _
      have hm : min r.2.1 (f - 1) = r.2.1 := Int.min_eq_left (Int.le_sub_one_of_lt c)
      rw [List.filterMap_cons_some (b := r) (by rw [if_pos (Int.lt_of_le_of_lt h0 c), hm])]
      rfl
    · have e : cnt (ends (r :: rs)) f = 0 := cnt_zero fun x hx => by
        obtain ⟨s, hs, rfl⟩ := List.mem_map.mp hx
        rcases List.mem_cons.mp hs with rfl | hs
        · exact c
        · exact fun z => c (Int.lt_trans (Int.lt_of_lt_of_le (h.later hs).1 (h.later hs).2) z)
      have hl : left rs f = [] := left_nil fun s hs z => c (Int.lt_trans (h.later hs).1 z)
      rw [e, List.take_zero, List.nil_append, List.getElem?_cons_zero]
      show List.filterMap _ (r :: rs) = _
      by_cases d : r.1 < f
      · have hm : min r.2.1 (f - 1) = f - 1 := Int.min_eq_right (Int.le_trans (Int.le_of_lt (Int.sub_lt_self f (by decide))) (Int.not_lt.mp c))
        rw [List.filterMap_cons_some (b := (r.1, f - 1, r.2.2)) (by rw [if_pos d, hm])]
        show _ :: left rs f = _
        rw [hl]
        exact (if_pos d).symm
      · rw [List.filterMap_cons_none (by rw [if_neg d])]
        show left rs f = _
        rw [hl]
        exact (if_neg d).symm
theorem right_all : ∀ {rs : List (Row W)} {l : Int}, (∀ s ∈ rs, l < s.1 ∧ s.1 ≤ s.2.1) → right rs l = rs
  | [], _, _ => rfl
  | r :: rs, l, h => by
    have h0 := h r List.mem_cons_self
    have ih := right_all (l := l) fun s hs => h s (List.mem_cons_of_mem _ hs)
    show List.filterMap _ (r :: rs) = _
    have hm : max r.1 (l + 1) = r.1 := Int.max_eq_left h0.1
    rw [List.filterMap_cons_some (b := r) (by rw [if_pos (Int.lt_of_lt_of_le h0.1 h0.2), hm])]
    show r :: right rs l = _
    rw [ih]
theorem right_code : ∀ {rs : List (Row W)} (l : Int), Dis rs → right rs l = (match rs[cnt (ends rs) (l + 1)]? with | some r => if r.1 ≤ l then (l + 1, r.2.1, r.2.2) :: rs.drop (cnt (ends rs) (l + 1) + 1) else rs.drop (cnt (ends rs) (l + 1)) | none => [])
  | [], l, _ => rfl
  | r :: rs, l, h => by
    have h0 := h.ok r List.mem_cons_self
    by_cases c : r.2.1 < l + 1
    · have e : cnt (ends (r :: rs)) (l + 1) = cnt (ends rs) (l + 1) + 1 := by rw [show ends (r :: rs) = r.2.1 :: ends rs from rfl, cnt_cons, if_pos c]
      have ih := right_code l h.tail
      rw [e, List.getElem?_cons_succ, List.drop_succ_cons, List.drop_succ_cons, ← ih]
      show List.filterMap _ (r :: rs) = _
      rw [List.filterMap_cons_none (by rw [if_neg (Int.not_lt.mpr (Int.le_of_lt_add_one c))])]
      rfl
    · have e : cnt (ends (r :: rs)) (l + 1) = 0 := cnt_zero fun x hx => by
        obtain ⟨s, hs, rfl⟩ := List.mem_map.mp hx
        rcases List.mem_cons.mp hs with rfl | hs
        · exact c
        · exact fun z => c (Int.lt_trans (Int.lt_of_lt_of_le (h.later hs).1 (h.later hs).2) z)
      have hr : right rs l = rs := right_all fun s hs => ⟨Int.lt_trans (Int.not_lt.mp c) (h.later hs).1, (h.later hs).2⟩
      rw [e, List.getElem?_cons_zero]
      show List.filterMap _ (r :: rs) = if r.1 ≤ l then (l + 1, r.2.1, r.2.2) :: rs else r :: rs
      by_cases d : r.1 ≤ l
      · have hm : max r.1 (l + 1) = l + 1 := Int.max_eq_right (Int.le_add_one d)
        rw [List.filterMap_cons_some (b := (l + 1, r.2.1, r.2.2)) (by rw [if_pos (show l < r.2.1 from Int.not_lt.mp c), hm]), if_pos d]
        show _ :: right rs l = _
        rw [hr]
      · have hm : max r.1 (l + 1) = r.1 := Int.max_eq_left (Int.not_le.mp d)
        rw [List.filterMap_cons_some (b := r) (by rw [if_pos (show l < r.2.1 from Int.not_lt.mp c), hm]), if_neg d]
        show _ :: right rs l = _
        rw [hr]
theorem word_app (a : W) (rs ss : List (Row W)) (d : Int) : wordF a (rs ++ ss) d = wordF (wordF a rs d) ss d := by
  unfold wordF
  rw [List.foldl_append]
theorem word_cons (a : W) (r : Row W) (rs : List (Row W)) (d : Int) : wordF a (r :: rs) d = wordF (if r.1 ≤ d ∧ d ≤ r.2.1 then r.2.2 else a) rs d := rfl
theorem word_left : ∀ (a : W) (rs : List (Row W)) (f d : Int), wordF a (left rs f) d = if d < f then wordF a rs d else a
  | a, [], f, d => by
    show a = if d < f then a else a
    split <;> rfl
  | a, r :: rs, f, d => by
    by_cases c : r.1 < f
    · have e : left (r :: rs) f = (r.1, min r.2.1 (f - 1), r.2.2) :: left rs f := List.filterMap_cons_some (by rw [if_pos c])
      rw [e, word_cons, word_left]
      by_cases q : d < f
      · rw [if_pos q, if_pos q, word_cons]
        have hz : (r.1 ≤ d ∧ d ≤ min r.2.1 (f - 1)) ↔ (r.1 ≤ d ∧ d ≤ r.2.1) := and_congr_right fun _ => ⟨fun z => Int.le_trans z (Int.min_le_left _ _), fun z => Int.le_min.mpr ⟨z, Int.le_sub_one_of_lt q⟩⟩
        simp only [hz]
      · rw [if_neg q, if_neg q, if_neg (show ¬ (r.1 ≤ d ∧ d ≤ min r.2.1 (f - 1)) from fun z => q (Int.lt_of_le_sub_one (Int.le_trans z.2 (Int.min_le_right _ _))))]
    · have e : left (r :: rs) f = left rs f := List.filterMap_cons_none (by rw [if_neg c])
      rw [e, word_left]
      by_cases q : d < f
      · rw [if_pos q, if_pos q, word_cons, if_neg (fun z => c (Int.lt_of_le_of_lt z.1 q))]
      · rw [if_neg q, if_neg q]
theorem word_right : ∀ (a : W) (rs : List (Row W)) (l d : Int), wordF a (right rs l) d = if l < d then wordF a rs d else a
  | a, [], l, d => by
    show a = if l < d then a else a
    split <;> rfl
  | a, r :: rs, l, d => by
    by_cases c : l < r.2.1
    · have e : right (r :: rs) l = (max r.1 (l + 1), r.2.1, r.2.2) :: right rs l := List.filterMap_cons_some (by rw [if_pos c])
      rw [e, word_cons, word_right]
      by_cases q : l < d
      · rw [if_pos q, if_pos q, word_cons]
        have hz : (max r.1 (l + 1) ≤ d ∧ d ≤ r.2.1) ↔ (r.1 ≤ d ∧ d ≤ r.2.1) := and_congr_left fun _ => ⟨fun z => Int.le_trans (Int.le_max_left _ _) z, fun z => Int.max_le.mpr ⟨z, q⟩⟩
        simp only [hz]
      · rw [if_neg q, if_neg q, if_neg (show ¬ (max r.1 (l + 1) ≤ d ∧ d ≤ r.2.1) from fun z => q (Int.le_trans (Int.le_max_right _ _) z.1))]
    · have e : right (r :: rs) l = right rs l := List.filterMap_cons_none (by rw [if_neg c])
      rw [e, word_right]
      by_cases q : l < d
      · rw [if_pos q, if_pos q, word_cons, if_neg (fun z => c (Int.lt_of_lt_of_le q z.2))]
      · rw [if_neg q, if_neg q]
theorem word_over (a : W) (rs : List (Row W)) {f l : Int} (w : W) (h : f ≤ l) (d : Int) : wordF a (over rs f l w) d = if f ≤ d ∧ d ≤ l then w else wordF a rs d := by
  unfold over
  rw [word_app, word_cons, word_left, word_right]
  by_cases c1 : d < f
  · rw [if_pos c1, if_neg (Int.not_lt.mpr (Int.le_trans (Int.le_of_lt c1) h)), if_neg (show ¬ (f ≤ d ∧ d ≤ l) from fun z => Int.not_lt.mpr z.1 c1)]
  · by_cases c2 : l < d
    · rw [if_neg c1, if_pos c2, if_neg (show ¬ (f ≤ d ∧ d ≤ l) from fun z => Int.not_lt.mpr z.2 c2)]
      exact (if_neg (show ¬ (f ≤ d ∧ d ≤ l) from fun z => Int.not_lt.mpr z.2 c2)).symm
    · rw [if_neg c1, if_neg c2, if_pos (show f ≤ d ∧ d ≤ l from ⟨Int.not_lt.mp c1, Int.not_lt.mp c2⟩)]
      exact (if_pos (show f ≤ d ∧ d ≤ l from ⟨Int.not_lt.mp c1, Int.not_lt.mp c2⟩)).symm
theorem over_dis {rs : List (Row W)} {f l : Int} (w : W) (h : Dis rs) (hf : f ≤ l) : Dis (over rs f l w) := by
  have hl : ∀ r ∈ left rs f, r.1 ≤ r.2.1 ∧ r.2.1 < f := fun r hr => by
    obtain ⟨s, hs, e⟩ := List.mem_filterMap.mp hr
    have := h.ok s hs
    split at e
    · injection e with e; subst e; show s.1 ≤ min s.2.1 (f - 1) ∧ min s.2.1 (f - 1) < f; omega
    · cases e
  have hr : ∀ r ∈ right rs l, r.1 ≤ r.2.1 ∧ l < r.1 := fun r hr => by
    obtain ⟨s, hs, e⟩ := List.mem_filterMap.mp hr
    have := h.ok s hs
    split at e
    · injection e with e; subst e; show max s.1 (l + 1) ≤ s.2.1 ∧ l < max s.1 (l + 1); omega
    · cases e
  refine ⟨fun r hm => ?_, ?_⟩
  · rcases List.mem_append.mp hm with hm | hm
    · exact (hl r hm).1
    · rcases List.mem_cons.mp hm with rfl | hm
      · exact hf
      · exact (hr r hm).1
  · refine List.pairwise_append.mpr ⟨?_, List.pairwise_cons.mpr ⟨fun r hm => (hr r hm).2, ?_⟩, fun a ha b hb => ?_⟩
    · refine List.pairwise_filterMap.mpr (h.pw.imp fun {r s} hrs x hx y hy => ?_)
      split at hx
      · split at hy
        · injection hx with hx; injection hy with hy; subst hx; subst hy; exact Int.lt_of_le_of_lt (Int.min_le_left _ _) hrs
        · cases hy
      · cases hx
    · refine List.pairwise_filterMap.mpr (h.pw.imp fun {r s} hrs x hx y hy => ?_)
      split at hx
      · split at hy
        · injection hx with hx; injection hy with hy; subst hx; subst hy; exact Int.lt_of_lt_of_le hrs (Int.le_max_left _ _)
        · cases hy
      · cases hx
    · have h1 := hl a ha
      rcases List.mem_cons.mp hb with rfl | hb
      · exact h1.2
      · exact Int.lt_trans (Int.lt_of_lt_of_le h1.2 hf) (hr b hb).2
/-! those that touch and have one word made one -/
noncomputable def jn1 (told : List (Row W)) (r : Row W) : List (Row W) := match told.getLast? with
  | some t => if t.2.2 = r.2.2 ∧ t.2.1 + 1 = r.1 then told.dropLast ++ [(t.1, r.2.1, r.2.2)] else told ++ [r]
  | none => told ++ [r]
noncomputable def Nx (r s : Row W) : Prop := r.2.1 < s.1 ∧ (s.1 = r.2.1 + 1 → r.2.2 ≠ s.2.2)
structure Ap (rs : List (Row W)) : Prop where
  ok : ∀ r ∈ rs, r.1 ≤ r.2.1
  nx : ∀ i r s, rs[i]? = some r → rs[i + 1]? = some s → Nx r s
theorem ap_snoc {rs : List (Row W)} {t : Row W} (h : Ap rs) (ht : t.1 ≤ t.2.1) (hn : ∀ z, rs.getLast? = some z → Nx z t) : Ap (rs ++ [t]) := by
  refine ⟨fun r hr => ?_, fun i r s h1 h2 => ?_⟩
  · rcases List.mem_append.mp hr with hr | hr
    · exact h.ok r hr
    · rw [List.mem_singleton.mp hr]; exact ht
  · have hi : i + 1 < rs.length + 1 := by
      have := (List.getElem?_eq_some_iff.mp h2).1
      simpa using this
    rw [List.getElem?_append_left (Nat.lt_of_succ_lt_succ hi)] at h1
    by_cases c : i + 1 < rs.length
    · rw [List.getElem?_append_left c] at h2
      exact h.nx i r s h1 h2
    · have e : i + 1 = rs.length := Nat.le_antisymm (Nat.le_of_lt_succ hi) (Nat.not_lt.mp c)
      rw [List.getElem?_append_right (Nat.not_lt.mp c), e, Nat.sub_self] at h2
      cases h2
      refine hn r ?_
      rw [List.getLast?_eq_getElem?, show rs.length - 1 = i by rw [← e]; rfl]
      exact h1
theorem ap_init {rs : List (Row W)} {t : Row W} (h : Ap (rs ++ [t])) : Ap rs ∧ t.1 ≤ t.2.1 ∧ ∀ z, rs.getLast? = some z → Nx z t := by
  refine ⟨⟨fun r hr => h.ok r (List.mem_append_left _ hr), fun i r s h1 h2 => ?_⟩, h.ok t (by simp), fun z hz => ?_⟩
  · have g1 := (List.getElem?_eq_some_iff.mp h1).1
    have g2 := (List.getElem?_eq_some_iff.mp h2).1
    exact h.nx i r s (by rw [List.getElem?_append_left g1]; exact h1) (by rw [List.getElem?_append_left g2]; exact h2)
  · rw [List.getLast?_eq_getElem?] at hz
    have g := (List.getElem?_eq_some_iff.mp hz).1
    refine h.nx (rs.length - 1) z t (by rw [List.getElem?_append_left g]; exact hz) ?_
    have gg := Nat.sub_add_cancel (Nat.lt_of_le_of_lt (Nat.zero_le _) g)
    rw [List.getElem?_append_right (Nat.le_of_eq gg.symm), gg, Nat.sub_self]
    rfl
theorem last_snoc {α : Type} (xs : List α) (x : α) : (xs ++ [x]).getLast? = some x := by simp
theorem jn1_snoc (rs : List (Row W)) (t r : Row W) : jn1 (rs ++ [t]) r = if t.2.2 = r.2.2 ∧ t.2.1 + 1 = r.1 then rs ++ [(t.1, r.2.1, r.2.2)] else rs ++ [t] ++ [r] := by
  unfold jn1
  rw [last_snoc]
  simp
/-- one step: told is apart, ends where the rows so far end -/
theorem jn1_ok {told : List (Row W)} {r : Row W} (h : Ap told) (hr : r.1 ≤ r.2.1) (hl : ∀ z, told.getLast? = some z → z.2.1 < r.1) :
    Ap (jn1 told r) ∧ (∀ z, (jn1 told r).getLast? = some z → z.2.1 = r.2.1) ∧ ∀ a d, wordF a (jn1 told r) d = wordF a (told ++ [r]) d := by
  rcases List.eq_nil_or_concat told with rfl | ⟨rs, t, rfl⟩
  · refine ⟨ap_snoc h hr (fun z hz => by cases hz), fun z hz => ?_, fun _ _ => rfl⟩
    have : z = r := by simpa [jn1] using hz.symm
    rw [this]
  · rw [List.concat_eq_append] at h hl ⊢
    rw [jn1_snoc]
    obtain ⟨h1, h2, h3⟩ := ap_init h
    have h4 := hl t (last_snoc rs t)
    by_cases c : t.2.2 = r.2.2 ∧ t.2.1 + 1 = r.1
    · rw [if_pos c]
      refine ⟨ap_snoc h1 (show t.1 ≤ r.2.1 from Int.le_trans h2 (Int.le_trans (Int.le_of_lt h4) hr)) (fun z hz => ?_), fun z hz => ?_, fun a d => ?_⟩
      · have := h3 z hz
        exact ⟨this.1, fun e => by rw [← c.1]; exact this.2 e⟩
      · rw [last_snoc] at hz; cases hz; rfl
      · rw [word_app, word_app, word_app]
        show (if t.1 ≤ d ∧ d ≤ r.2.1 then r.2.2 else _) = if r.1 ≤ d ∧ d ≤ r.2.1 then r.2.2 else if t.1 ≤ d ∧ d ≤ t.2.1 then t.2.2 else _
        rw [c.1]
        by_cases q1 : r.1 ≤ d ∧ d ≤ r.2.1
        · rw [if_pos q1, if_pos ⟨Int.le_trans h2 (Int.le_trans (Int.le_of_lt h4) q1.1), q1.2⟩]
        · rw [if_neg q1]
          by_cases q2 : t.1 ≤ d ∧ d ≤ t.2.1
          · rw [if_pos q2, if_pos ⟨q2.1, Int.le_trans q2.2 (Int.le_trans (Int.le_of_lt h4) hr)⟩]
          · rw [if_neg q2, if_neg fun z => (Int.lt_or_le d r.1).elim (fun y => q2 ⟨z.1, Int.le_of_lt_add_one (by rw [c.2]; exact y)⟩) fun y => q1 ⟨y, z.2⟩]
    · rw [if_neg c]
      refine ⟨ap_snoc h hr (fun z hz => ?_), fun z hz => ?_, fun _ _ => rfl⟩
      · rw [last_snoc] at hz; cases hz
        exact ⟨h4, fun e g => c ⟨g, e.symm⟩⟩
      · rw [last_snoc] at hz; cases hz; rfl
noncomputable def jn (rs : List (Row W)) : List (Row W) := rs.foldl jn1 []
theorem jn_ok {rs : List (Row W)} (h : Dis rs) : Ap (jn rs) ∧ ∀ a d, wordF a (jn rs) d = wordF a rs d := by
  have step : ∀ (ss done : List (Row W)) (told : List (Row W)), Dis (done ++ ss) → Ap told → (∀ z, told.getLast? = some z → ∃ y ∈ done, z.2.1 = y.2.1) → (∀ a d, wordF a told d = wordF a done d) →
      Ap (ss.foldl jn1 told) ∧ ∀ a d, wordF a (ss.foldl jn1 told) d = wordF a (done ++ ss) d := by
    intro ss
    induction ss with
    | nil => intro done told _ h1 _ h3; exact ⟨h1, fun a d => by rw [List.append_nil]; exact h3 a d⟩
    | cons r ss ih =>
      intro done told h0 h1 h2 h3
      have hr := h0.ok r (by simp)
      have hlt : ∀ z, told.getLast? = some z → z.2.1 < r.1 := fun z hz => by
        obtain ⟨y, hy, e⟩ := h2 z hz
        rw [e]
        exact (List.pairwise_append.mp h0.pw).2.2 y hy r List.mem_cons_self
      obtain ⟨g1, g2, g3⟩ := jn1_ok h1 hr hlt
      have e : done ++ r :: ss = (done ++ [r]) ++ ss := by simp
      rw [e]
      rw [e] at h0
      refine ih (done ++ [r]) (jn1 told r) h0 g1 (fun z hz => ⟨r, by simp, g2 z hz⟩) fun a d => ?_
      rw [g3, word_app, word_app, h3]
  exact step rs [] [] h ⟨(fun _ h => absurd h List.not_mem_nil), fun i r s h => by cases h⟩ (fun z hz => by cases hz) fun _ _ => rfl
noncomputable def lay (rs : List (Row W)) : List (Row W) := rs.foldl (fun laid r => over laid r.1 r.2.1 r.2.2) []
theorem lay_snoc (rs : List (Row W)) (r : Row W) : lay (rs ++ [r]) = over (lay rs) r.1 r.2.1 r.2.2 := by unfold lay; rw [List.foldl_append]; rfl
theorem lay_ok {rs : List (Row W)} (h : ∀ r ∈ rs, r.1 ≤ r.2.1) : Dis (lay rs) ∧ ∀ a d, wordF a (lay rs) d = wordF a rs d := by
  have step : ∀ (ss done laid : List (Row W)), (∀ r ∈ ss, r.1 ≤ r.2.1) → Dis laid → (∀ a d, wordF a laid d = wordF a done d) →
      Dis (ss.foldl (fun laid r => over laid r.1 r.2.1 r.2.2) laid) ∧ ∀ a d, wordF a (ss.foldl (fun laid r => over laid r.1 r.2.1 r.2.2) laid) d = wordF a (done ++ ss) d := by
    intro ss
    induction ss with
    | nil => intro done laid _ h1 h2; exact ⟨h1, fun a d => by rw [List.append_nil]; exact h2 a d⟩
    | cons r ss ih =>
      intro done laid h0 h1 h2
      have hr := h0 r List.mem_cons_self
      have e : done ++ r :: ss = (done ++ [r]) ++ ss := by simp
      rw [e]
      refine ih (done ++ [r]) _ (fun s hs => h0 s (List.mem_cons_of_mem _ hs)) (over_dis r.2.2 h1 hr) fun a d => ?_
      rw [word_over a laid r.2.2 hr, word_app, h2]
      rfl
  exact step rs [] [] h ⟨(fun _ h => absurd h List.not_mem_nil), List.Pairwise.nil⟩ fun _ _ => rfl
noncomputable def ov (rs : List (Row W)) : List (Row W) := jn (lay rs)
theorem ov_ok {rs : List (Row W)} (h : ∀ r ∈ rs, r.1 ≤ r.2.1) : Ap (ov rs) ∧ ∀ a d, wordF a (ov rs) d = wordF a rs d := by
  obtain ⟨h1, h2⟩ := lay_ok h
  obtain ⟨h3, h4⟩ := jn_ok h1
  exact ⟨h3, fun a d => (h4 a d).trans (h2 a d)⟩
theorem ap_dis {rs : List (Row W)} (h : Ap rs) : Dis rs := by
  refine ⟨h.ok, ?_⟩
  rw [List.pairwise_iff_getElem]
  intro i j hi hj hij
  have step : ∀ n, ∀ (hn : i + 1 + n < rs.length), (rs[i]'hi).2.1 < (rs[i + 1 + n]'hn).1 := by
    intro n
    induction n with
    | zero => intro hn; exact (h.nx i (rs[i]'hi) (rs[i + 1]'hn) (List.getElem?_eq_getElem _) (List.getElem?_eq_getElem _)).1
    | succ n ih =>
      intro hn
      have g := ih (Nat.lt_of_succ_lt hn)
      have k := (h.nx (i + 1 + n) (rs[i + 1 + n]'(Nat.lt_of_succ_lt hn)) (rs[i + 1 + n + 1]'hn) (List.getElem?_eq_getElem _) (List.getElem?_eq_getElem _)).1
      have m := h.ok rs[i + 1 + n] (List.getElem_mem _)
      exact Int.lt_trans (Int.lt_of_lt_of_le g m) k
  have := step (j - i - 1) (by omega)
  simpa [show i + 1 + (j - i - 1) = j by omega] using this
theorem ends_up {rs : List (Row W)} (h : Dis rs) : (ends rs).Pairwise (· < ·) := by
  refine List.pairwise_map.mpr ?_
  refine (List.Pairwise.and_mem.mp h.pw).imp fun {r s} q => ?_
  have := h.ok s q.2.1
  have := q.2.2
  omega
end
end Lay

namespace Srt
open PySem PySem.W PyProof.Rows
/-! ### the tree of questions that a sort asks: right for any order -/
section
variable {n : Nat} {r : Nat → Nat → Bool}
noncomputable abbrev at' (p : Array Nat) (i : Nat) : Nat := p.getD i 0
end
end Srt

namespace Srt
open PySem PySem.W PySem.Calls PyProof.Rows
section
variable {prog : Program} {w : World} {A : Around} {E : Value → Shared → Prop} {s : Shared}
end
end Srt
namespace Add
open PySem PySem.Spec PyProof.Rows L2 Srt PySem.W
/-! ### sorted(list of pairs of whole numbers) -/
noncomputable def encP (r : Int × Int) : List V := [.int r.1, .int r.2]
section
variable {X : Cx} {pins : List (Addr × Obj)} {σ : L2.St} {H : Hp} {s : Shared}
end
end Add

namespace Mrg
/-! ### stretches merged -/
noncomputable abbrev S2 := Int × Int
noncomputable def inB (rs : List S2) (d : Int) : Bool := rs.any fun r => decide (r.1 ≤ d) && decide (d ≤ r.2)
noncomputable def mg1 (told : List S2) (r : S2) : List S2 := match told.getLast? with
  | some t => if r.1 ≤ t.2 + 1 then told.dropLast ++ [(t.1, if r.2 > t.2 then r.2 else t.2)] else told ++ [r]
  | none => told ++ [r]
noncomputable def mg (rs : List S2) : List S2 := rs.foldl mg1 []
end Mrg

namespace Add
open PySem PySem.Spec PyProof.Rows L2
/-! ### for at, x in enumerate(list) -/
/-- two of the iterator's own objects have turned -/
theorem turned2 {X : Cx} {pins : List (Addr × Obj)} {σ : L2.St} {H : Hp} {s : Shared} {h' : Heap} {t' : Nat} {e it : Addr} (I : Inv X pins σ H s) (k : ∀ b o, b ≠ e → b ≠ it → s.heap.get? b = some o → h'.get? b = some o) (f1 : FpOk X pins H e) (f2 : FpOk X pins H it) :
    Inv X pins σ H { s with heap := h', toks := t' } := by
  have n1 : ∀ b u, H b = some u → b ≠ e := fun b u q z => by rw [z, f1.1] at q; cases q
  have n2 : ∀ b u, H b = some u → b ≠ it := fun b u q z => by rw [z, f2.1] at q; cases q
  have out : ∀ b, b ∉ [e, it] → b ≠ e ∧ b ≠ it := fun b hb => ⟨fun z => hb (by simp [z]), fun z => hb (by simp [z])⟩
  refine I.step (g' := s.gens) (d' := s.drawn) (ch := [e, it]) (fun b hb => ?_) (fun b o _ _ hc q _ => k b o (out b hc).1 (out b hc).2 q) (fun b o _ _ hc q _ => ⟨o.slots, k b o (out b hc).1 (out b hc).2 q⟩) (fun _ _ _ _ n => n)
    (fun b o hc q => ⟨o, k b o (out b hc).1 (out b hc).2 q⟩) (fun _ _ q => q) (fun _ _ _ q => q) (fun b ps q => ⟨#[], by rw [q]; simp⟩) (fun m hm => ?_) (fun b u q => ?_) I.bare
  · rcases List.mem_cons.mp hb with rfl | hb
    · exact ⟨f1.2.2.2.1, f1.2.1, f1.2.2.2.2.1, f1.2.2.2.2.2⟩
    · cases List.mem_singleton.mp hb
      exact ⟨f2.2.2.2.1, f2.2.1, f2.2.2.2.2.1, f2.2.2.2.2.2⟩
  · obtain ⟨o, es, ep, ho, r⟩ := hm
    exact ⟨o, es, ep, k _ o (Ne.symm f1.2.1) (Ne.symm f2.2.1) ho, r⟩
  · refine (I.hok b u q).stay (fun c v hc z => k c v ?_ ?_ z) (fun _ z => z) fun _ _ z => z
    · rcases hc with rfl | hc
      · exact n1 _ u q
      · exact n1 c _ hc
    · rcases hc with rfl | hc
      · exact n2 _ u q
      · exact n2 c _ hc
noncomputable def Ite (K : PySem.W.Frag) (a : Addr) : It :=
  ⟨fun i H => ∃ xs x, SqL K H a xs ∧ xs[i]? = some x, fun i H x H' => ∀ xs, SqL K H a xs → ∃ y t, xs[i]? = some y ∧ H t = none ∧ x = .ref t ∧ H' = upd H t (.tup [.int i, y]), fun i H => ∃ xs, SqL K H a xs ∧ xs.length ≤ i⟩
theorem fp_upd {X : Cx} {pins : List (Addr × Obj)} {H : Hp} {b t : Addr} {o : HO} (f : FpOk X pins H b) (ne : b ≠ t) : FpOk X pins (L2.upd H t o) b := ⟨by rw [upd_ne ne]; exact f.1, f.2⟩
theorem turn_enum {P : Program} {w : World} {K : PySem.W.Frag} {es : List Expr} {kk pos} (a e it : Addr) (hne : e ≠ it) : Turn P w K (.Tuple es kk pos) (Ite K a) [e, it] e (fun i h => ∃ old, IsEnum h e it i old ∧ h.IsListIter it a i) where
  mem := by simp
  obj := fun i h st b hb => by
    obtain ⟨old, h1, o, h2, c, d⟩ := st
    rcases List.mem_cons.mp hb with rfl | hb
    · exact ⟨_, h1, fun v z => by cases z⟩
    · cases List.mem_singleton.mp hb
      exact ⟨o, h2, fun v z => by rw [d] at z; cases z⟩
  keep := fun i h h' st k => by
    obtain ⟨old, h1, h2⟩ := st
    exact ⟨old, k e (by simp) _ h1, h2.at fun o q => k it (by simp) o q⟩
  item := by
    intro X hP hw hK hc i pins s σ H E I hf st hg
    subst hP hw hK
    obtain ⟨old, he, hit⟩ := st
    obtain ⟨xs, x, hq, hx⟩ := hg
    obtain ⟨its, rv, p, hz⟩ := I.list hq
    obtain ⟨u, hu, ru⟩ := rv.get hx
    have f1 := hf e (by simp)
    have f2 := hf it (by simp)
    refine wpAny_pyNext_enum_item he hit p.isList (x := u) (by simpa using hu) hne fun h1 ho hit1 ht hsz keep => ⟨_, rfl, ?_⟩
    refine wpAny_letOwnedTupleGo_enum ho fun h2 he2 sb => ?_
    replace sb : Heap.SameBut e h1 h2 := sb
    have hel : e < s.heap.objs.size := Heap.lt_size he
    obtain ⟨oi, hoi, _⟩ := id hit
    have hil : it < s.heap.objs.size := Heap.lt_size hoi
    have ht2 : h2.get? s.heap.objs.size = some { cls := .type "tuple", data := .seq #[.int i s.toks, u] } := (sb.2 _ (Nat.ne_of_gt hel)).trans ht
    have hfr : H s.heap.objs.size = none := I.hok.fresh (Nat.le_refl _)
    have I1 := I.laid (a := s.heap.objs.size) (o := .tup [.int i, x]) (h' := s.heap.push { cls := .type "tuple", data := .seq #[.int i s.toks, u] }) (t' := s.toks) (fun b o q => Heap.get?_push_of_some _ q) (Nat.le_refl _) ⟨show 2 ≤ sizeLine by rw [sizeLine_eq]; decide, [.int i s.toks, u], .cons ⟨_, rfl⟩ (.cons ru .nil), ⟨_, Heap.get?_push_size _ rfl, rfl, _, rfl⟩⟩
    have I2 := turned2 (h' := h2) (t' := s.toks + 1) I1 (fun b o n1 n2 q => by
      by_cases z : b = s.heap.objs.size
      · subst z
        rw [Heap.get?_push_size _ rfl] at q
        cases q
        exact ht2
      · rw [Heap.get?_push_ne _ _ _ z] at q
        exact (sb.2 b n1).trans (keep b o n1 n2 q)) (fp_upd f1 (Nat.ne_of_lt hel)) (fp_upd f2 (Nat.ne_of_lt hil))
    refine ⟨.ref s.heap.objs.size, _, I2, rfl, fun ys hy => ?_, ⟨u, he2, hit1.at fun o q => (sb.2 it (Ne.symm hne)).trans q⟩, fun b hb => ?_⟩
    · rw [I.list_inj hy hq]
      exact ⟨x, _, hx, hfr, rfl, rfl⟩
    · rcases List.mem_cons.mp hb with rfl | hb
      · rw [upd_ne (Nat.ne_of_lt hel)]; exact f1.1
      · cases List.mem_singleton.mp hb
        rw [upd_ne (Nat.ne_of_lt hil)]; exact f2.1
  done := by
    intro X hP hw hK hc i pins s σ H E I hf st hg
    subst hP hw hK
    obtain ⟨old, he, hit⟩ := st
    obtain ⟨xs, hq, hx⟩ := hg
    obtain ⟨its, rv, p, hz⟩ := I.list hq
    have hl := rv.length
    have f1 := hf e (by simp)
    have f2 := hf it (by simp)
    exact wpAny_pyNext_enum_end (I.ok.hd hc) he hit p.isList (by simp; omega) fun h' eb => ⟨rfl, turned2 (t' := s.toks) I (fun b o n1 n2 q => eb b o n2 q) f1 f2⟩
  self := fun A i s Q E st h => by
    obtain ⟨old, he, hit⟩ := st
    exact wpAny_pyIter_enum he h
noncomputable def iEnum (K : PySem.W.Frag) (ta : TA) : TI := fun σ H R => ta σ H fun vs H1 => ∃ a xs, vs = [.ref a] ∧ H1 a = some (.lst xs) ∧ R (Ite K a) H1
theorem boot_enum : bootBuiltins "enumerate" = some (.type "enumerate") := by decide +kernel
theorem pi_enum {X : Cx} {es : List Expr} {kk : _} {pos' : Pos} {a : Expr} {ta : TA} {p pos : Pos} (hg : Gl X "enumerate") (hm : X.mg "enumerate" = none) (ha : PA X [a] ta) (hs : starEach [a] X.env = [(false, eval a X.env)] := by rfl) : PI X (.Tuple es kk pos') (.Call (.Name "enumerate" p) [a] [] pos) (iEnum X.K ta) := by
  intro pins s σ H R I h
  refine Call_ (ld_blt I hg hm boot_enum (PyProof.Rows.callWith_type1 (thn (ha pos pins s σ H _ I h) fun us s1 ⟨vs, H1, I1, r1, q1⟩ => ?_) hs rfl))
  obtain ⟨l, xs, e, hl, q⟩ := q1
  subst e
  obtain ⟨u, rfl, hu⟩ := vals1 r1
  cases rel_ref hu
  obtain ⟨z, its, n, rv, hz, e⟩ := I1.lstM hl
  refine call_enumerate_1 e fun h' he hit hsz keep => wpAny_pyIter_enum he ?_
  have I2 : Inv X pins σ H1 { s1 with heap := h' } := I1.kept (t' := s1.toks) keep
  refine ⟨s1.heap.objs.size + 1, [s1.heap.objs.size + 1, s1.heap.objs.size], _, _, H1, rfl, I2, turn_enum l _ _ (Nat.ne_of_gt (Nat.lt_succ_self _)), ⟨.none, he, hit⟩, fun b hb => ?_, q⟩
  rcases List.mem_cons.mp hb with rfl | hb
  · exact I1.fpOk (Nat.le_succ _) (I1.hok.fresh (Nat.le_succ _))
  · cases List.mem_singleton.mp hb
    exact I1.fpOk (Nat.le_refl _) (I1.hok.fresh (Nat.le_refl _))
/-- for at, x in enumerate(list): each turn a new tuple -/
theorem for_enum {K : PySem.W.Frag} {a : Addr} {xs : List V} {g : TG} {tb : TS} {D : Ends} {σ : L2.St} {H : Hp} (Pv : Nat → L2.St → Hp → Prop) (h0 : Pv 0 σ H) (hl : ∀ i σ H, i ≤ xs.length → Pv i σ H → SqL K H a xs)
    (hs : ∀ i x t σ H, xs[i]? = some x → Pv i σ H → H t = none → g (.ref t) σ (upd H t (.tup [.int i, x])) fun σ2 H2 => tb { D with nx := Pv (i + 1), ct := Pv (i + 1), bk := D.nx } σ2 H2) (hd : ∀ σ H, Pv xs.length σ H → D.nx σ H) :
    ∃ W : Nat → Nat → L2.St → Hp → Prop, (∃ m, W 0 m σ H) ∧ ∀ i m σ H, W i m σ H →
      ((Ite K a).stop i H ∧ D.nx σ H) ∨ ((Ite K a).go i H ∧ ∃ N : L2.St → Hp → Prop, (∀ σ' H', N σ' H' → ∃ m', m' < m ∧ W (i + 1) m' σ' H') ∧ ∀ x H', (Ite K a).yld i H x H' → g x σ H' fun σ2 H2 => tb { D with nx := N, ct := N, bk := D.nx } σ2 H2) := by
  refine ⟨fun i m σ H => m = xs.length - i ∧ i ≤ xs.length ∧ Pv i σ H, ⟨xs.length, by simp, Nat.zero_le _, h0⟩, ?_⟩
  rintro i m σ H ⟨rfl, hi, p⟩
  have hq := hl i σ H hi p
  by_cases hlt : i < xs.length
  · have ex : xs[i]? = some xs[i] := by simp [hlt]
    refine .inr ⟨⟨xs, xs[i], hq, ex⟩, Pv (i + 1), fun σ' H' n => ⟨xs.length - (i + 1), by omega, rfl, hlt, n⟩, fun x H' hy => ?_⟩
    obtain ⟨y, t, e1, ht, rfl, rfl⟩ := hy xs hq
    exact hs i y t σ H e1 p ht
  · have e : i = xs.length := by omega
    subst e
    exact .inl ⟨⟨xs, hq, Nat.le_refl _⟩, hd σ H p⟩
end Add

namespace Add
open PySem PySem.Spec PyProof.Rows L2
/-! ### any of a list of truths; a field within a comprehension's block -/
section
variable {X : Cx}
theorem any_getD (bs : List Bool) : ((List.range bs.length).any fun j => (bs[j]?).getD true) = bs.any fun b => b := by
  rw [Bool.eq_iff_iff, List.any_eq_true, List.any_eq_true]
  constructor
  · rintro ⟨j, hj, e⟩
    have hj' : j < bs.length := by simpa using hj
    rw [List.getElem?_eq_getElem hj'] at e
    exact ⟨bs[j], List.getElem_mem hj', e⟩
  · rintro ⟨b, hb, e⟩
    obtain ⟨j, hj, rfl⟩ := List.getElem_of_mem hb
    exact ⟨j, by simpa using hj, by rw [List.getElem?_eq_getElem hj]; exact e⟩
theorem call_anyB (hc : X.calm = true) : CallR X (.builtin "any") (fun xs H Q => ∃ (p : Addr) (bs : List Bool), xs = [V.ref p] ∧ SqL X.K H p (bs.map V.bl) ∧ Q (.bl (bs.any fun b => b)) H) := by
  intro pins s σ H xs us Q I r h
  obtain ⟨p, bs, rfl, hS, q⟩ := h
  obtain ⟨u, rfl, ru⟩ := Vals.one r
  cases ru
  obtain ⟨its, rv, pl, hz⟩ := I.list hS
  have hl := rv.length
  rw [List.length_map] at hl
  have hne : p ≠ s.heap.objs.size := by
    obtain ⟨o, ho, _⟩ := pl.isList
    exact Nat.ne_of_lt (Heap.lt_size ho)
  refine call_any_walk (wpAny_pyIter_list pl.isList ⟨s.heap.objs.size, _, _, its.toArray.size, _, _, fun j => (bs[j]?).getD true, rfl, Walks.list (show X.A.in1.handled = none from I.ok.hd hc) _ p hne its.toArray,
    ⟨⟨_, Heap.get?_push_size _ rfl, rfl, rfl⟩, pl.isList.at fun o e => Heap.get?_push_of_some _ e⟩, ?_, fun h' tk hk => ?_⟩)
  · intro i v s' Q' E' hv hq
    have hv' : its[i]? = some v := by simpa using hv
    cases e : bs[i]? with
    | none =>
      exfalso
      have h1 : its.length ≤ i := by rw [← hl]; exact List.getElem?_eq_none_iff.mp e
      rw [List.getElem?_eq_none_iff.mpr h1] at hv'
      cases hv'
    | some b =>
      obtain ⟨u, hu, ru⟩ := rv.get (i := i) (x := .bl b) (by rw [List.getElem?_map, e]; rfl)
      rw [hv'] at hu
      cases hu
      cases (show v = Value.bool b from ru)
      dsimp only at hq
      rw [e] at hq
      exact wpAny_truthy_bool hq
  · refine ⟨.bl _, H, I.kept (t' := tk) fun b o e => hk b o (fun z => ?_) (Heap.get?_push_of_some _ e), rfl, ?_⟩
    · have z' : b = s.heap.objs.size := by simpa using z
      exact absurd (Heap.lt_size e) (by rw [z']; exact Nat.lt_irrefl _)
    · have e : its.toArray.size = bs.length := by rw [List.size_toArray, hl]
      rw [e, any_getD]
      exact q
theorem gk_tup {K : PySem.W.Frag} {n : Nat} {t : TGs} (ht : ∀ xs σ' H' R R', (∀ σ3 H3, R σ3 H3 → R' σ3 H3) → t xs σ' H' R → t xs σ' H' R') (x : V) (σ' : L2.St) (H' : Hp) (R R' : L2.St → Hp → Prop) (h : ∀ σ3 H3, R σ3 H3 → R' σ3 H3) (z : gTup K n t x σ' H' R) : gTup K n t x σ' H' R' := by
  obtain ⟨a, xs, e, hq, hl, z⟩ := z
  exact ⟨a, xs, e, hq, hl, ht _ _ _ _ _ h z⟩
end
end Add

namespace Add
open PySem PySem.Spec PyProof.Rows L2
/-! ### defs with defaults -/
structure FunD (K : PySem.W.Frag) (x qual : Str) (st : Stmt) (f : Addr) (fd : FuncData) : Prop where
  ex : ∃ (oc dV kV doc pm cdv ct : Value) (od an : Option Addr) (osl : Array (Option Value)),
    fd = PySem.W.fnOf x qual (defArgs st) (defBody st) (defScope st) dV kV doc pm an cdv ct ∧ K.lookup f = some ⟨oc, od, .func fd, osl⟩ ∧ PySem.W.codeIn K cdv qual = true
  kp : PySem.W.keepIn K (.ref f) = true
section
variable {P : Program} {w : World} {K : PySem.W.Frag} {mg : Str → Option Value} {base : Heap}
theorem fund_mk {x qual : Str} {st : Stmt} {f : Addr} {oc : Value} {od an : Option Addr} {osl : Array (Option Value)} {dV kV doc pm cdv ct : Value} (l : K.lookup f = some ⟨oc, od, .func (PySem.W.fnOf x qual (defArgs st) (defBody st) (defScope st) dV kV doc pm an cdv ct), osl⟩)
    (c : PySem.W.codeIn K cdv qual = true) (k : PySem.W.keepIn K (.ref f) = true) : FunD K x qual st f (PySem.W.fnOf x qual (defArgs st) (defBody st) (defScope st) dV kV doc pm an cdv ct) := ⟨⟨oc, dV, kV, doc, pm, cdv, ct, od, an, osl, rfl, l, c⟩, k⟩
theorem bindsD {fd : FuncData} {ps : List Str} {ds : List Value} (h : ∀ us : List Value, (us ++ ds).length = ps.length → ∀ S, PySem.W.peek K S (bindArgs fd ⟨us, []⟩) = some (ps.zip (us ++ ds))) : Binds K fd ps ds := fun s us X hl => PySem.W.kp_binds X (h us hl)
end
structure MethD (K : PySem.W.Frag) (x qual : Str) (st : Stmt) (ps : List Str) (f : Addr) (fd : FuncData) : Prop where
  fn : FunD K x qual st f fd
  bd : Binds K fd ps []
  ty : PySem.W.typeIn K (.ref f) = some (.type "function")
end Add

namespace Add
open PySem PySem.Spec PyProof.Rows L2
/-! ### a op b op c op d; what lies in lists of tuples, mapped -/
section
variable {X : Cx} {a b c d : Expr} {ta tb tc td : TE} {pos : Pos}
noncomputable def tChain3 (r r' r2 : R2) (ta tb tc td : TE) : TE := fun σ H Q => ta σ H fun x H1 => tb σ H1 fun y H2 => r x y H2 fun z H3 => ∃ k, z = .bl k ∧
  (if k = true then tc σ H3 fun w' H4 => r' y w' H4 fun z' H5 => ∃ k', z' = .bl k' ∧ (if k' = true then td σ H5 fun u H6 => r2 w' u H6 Q else Q (.bl false) H5) else Q (.bl false) H3)
theorem pe_chain3 {op op' op2 : CmpOp} {r r' r2 : R2} (ho : OpR X (compareOp op) r) (ho' : OpR X (compareOp op') r') (ho2 : OpR X (compareOp op2) r2) (ha : PE X a ta) (hb : PE X b tb) (hc : PE X c tc) (hd : PE X d td)
    (hm : lastMarks [op, op', op2] [b, c, d] = false := by with_unfolding_all rfl) : PE X (.Compare a [op, op', op2] [b, c, d] pos) (tChain3 r r' r2 ta tb tc td) := by
  intro pins s σ H Q I h
  refine Compare_chain (thn (ha pins s σ H _ I h) fun v s1 ⟨x, H1, I1, r1, q1⟩ => chain_link (thn (hb pins s1 σ H1 _ I1 q1) fun u s2 ⟨y, H2, I2, ry, q2⟩ =>
    thn (ho pins s2 σ H2 x y v u _ I2 r1 ry q2) fun e s3 ⟨z, H3, I3, r3, k, ek, q3⟩ => ?_)) hm
  subst ek
  cases r3
  refine wpAny_truthy_bool ?_
  cases k with
  | false => exact ite_ff ⟨.bl false, H3, I3, rfl, q3⟩
  | true =>
    refine ite_tt (chain_link (thn (hc pins s3 σ H3 _ I3 q3) fun w' s4 ⟨z', H4, I4, r4, q4⟩ => thn (ho' pins s4 σ H4 y z' u w' _ I4 ry r4 q4) fun e' s5 ⟨z2, H5, I5, r5, k', ek', q5⟩ => ?_))
    subst ek'
    cases r5
    refine wpAny_truthy_bool ?_
    cases k' with
    | false => exact ite_ff ⟨.bl false, H5, I5, rfl, q5⟩
    | true => exact ite_tt (chain_last (thn (hd pins s5 σ H5 _ I5 q5) fun u' s6 ⟨z3, H6, I6, r6, q6⟩ => ho2 pins s6 σ H6 z' z3 w' u' Q I6 r4 r6 q6))
end
theorem pg_tupC {X : Cx} {K : PySem.W.Frag} (hK : X.K = K) {es : List Expr} {kk : _} {pos : Pos} {t : TGs} {n : Nat} (hc : X.calm = true) (h : PGs X es t)
    (hn : (assignEach es X.env).length = n := by rfl) (hst : (assignEach es X.env).findIdx? (·.1) = none := by rfl) : PG X (.Tuple es kk pos) (gTup K n t) := by
  subst hK; exact pg_tup hc h hn hst
theorem tups_map {α : Type} {H : Hp} {enc : α → List V} {f g : V → V} {h : α → V} : ∀ {rs : List α} {us : List V}, Tups H us (rs.map enc) → (∀ a r, H a = some (.tup (enc r)) → f (.ref a) = h r) → us.map f = rs.map h
  | [], us, t, _ => by cases t; rfl
  | r :: rs, us, t, k => by
    cases t with
    | cons q t => rw [List.map_cons, List.map_cons, k _ _ q, tups_map (g := g) t k]
theorem inV_ints (x : Int) (xs : List Int) : inV (.int x) (xs.map V.int) = xs.contains x := by
  unfold inV
  rw [List.any_map, List.contains_eq_any_beq]
  congr 1
  funext y
  show (y == x) = (x == y)
  rw [Bool.eq_iff_iff, beq_iff_eq, beq_iff_eq]
  exact eq_comm
theorem flat_ints (xs : List Int) : (xs.map V.int).all flatV = true := by rw [List.all_map]; exact List.all_eq_true.mpr fun _ _ => rfl
end Add
namespace Tab
open Mrg Lay
/-! ### patterns and tables -/
/-- a weekday or a day of the year that is free -/
noncomputable def fy (wk : List Int) (yr : List S2) (i : Int) : Bool := wk.contains (i % 7 + 1) || inB yr i
noncomputable def fdL (wk : List Int) (yr : List S2) : List Bool := (List.range 371).map fun i => fy wk yr (i : Nat)
theorem fdL_len (wk : List Int) (yr : List S2) : (fdL wk yr).length = 371 := by unfold fdL; rw [List.length_map, List.length_range]
/-- open ones among the first k -/
noncomputable def opn (bs : List Bool) (k : Nat) : Int := (((bs.take k).filter fun b => !b).length : Nat)
noncomputable def cuL (bs : List Bool) : List Int := (List.range (bs.length + 1)).map fun k => opn bs k
theorem cuL_at (bs : List Bool) {k : Nat} (h : k ≤ bs.length) : (cuL bs)[k]? = some (opn bs k) := by
  unfold cuL
  rw [List.getElem?_map, List.getElem?_range (by omega)]
  rfl
theorem opn_succ {bs : List Bool} {k : Nat} {b : Bool} (h : bs[k]? = some b) : opn bs (k + 1) = if b = true then opn bs k else opn bs k + 1 := by
  unfold opn
  rw [List.take_add_one, h, List.filter_append]
  cases b <;> simp
theorem opn_le (bs : List Bool) (k : Nat) : 0 ≤ opn bs k ∧ opn bs k ≤ bs.length := by
  unfold opn
  have h1 := List.length_filter_le (fun b => !b) (bs.take k)
  have h2 : (bs.take k).length ≤ bs.length := by rw [List.length_take]; omega
  omega
/-- the days of the year that are open -/
noncomputable def odL (bs : List Bool) : List Int := ((List.range bs.length).filter fun i => !(bs.getD i true)).map fun (i : Nat) => (i : Int)
structure OkW (wk : List Int) : Prop where
  len : wk.length ≤ 6
  nd : wk.Nodup
  rng : ∀ x ∈ wk, 1 ≤ x ∧ x ≤ 7
structure OkY (yr : List S2) : Prop where
  len : yr.length ≤ 4
  rng : ∀ r ∈ yr, 0 ≤ r.1 ∧ r.1 ≤ r.2 ∧ r.2 < r.1 + 30 ∧ r.2 < 364
end Tab

namespace Add
open PySem PySem.Spec PyProof.Rows L2
/-! ### range(i, j), i and j of any size -/
section
variable {X : Cx} {tg : Expr}
end
end Add

namespace Rev
open PySem PyProof.Rows
/-! ### list(reversed(list)) -/
set_option maxRecDepth 100000
section
variable {prog : Program} {w : World} {A : Around} {s : Shared} {R : Result → Shared → Prop} {E : Value → Shared → Prop}
variable {I : Addr} {fp wr : List Addr} {G : Array GenState → Array GenState → Prop} {n : Nat} {P : Nat → Value → Prop} {St : Nat → Shared → Prop}
end
end Rev
namespace Add
open PySem PySem.Spec PyProof.Rows L2
/-! ### the rule of list(reversed(list)) -/
section
variable {X : Cx}
end
end Add

namespace Lay
/-! ### runs of days, and the word of a day by its place -/
end Lay

namespace Add
open PySem PySem.Spec PyProof.Rows L2
/-! ### comprehensions whose elements are new tuples -/
end Add

namespace Add
open PySem PySem.Spec PyProof.Rows L2
/-! ### C(e, .., k = v): an own class made with keywords -/
section
variable {X : Cx} {CX : CXT} {k : Nat} {f C : Addr} {fd : FuncData} {ps ks : List Str} {sp : Sp} {E : XK} {x : Str} {p pos : Pos} {e : Expr} {es : List Expr} {kws : List Keyword} {t tk : TA} {g : List Value → List Value → List Value} {gV : List V → List V → List V}
end
theorem bindsN {K : PySem.W.Frag} {fd : FuncData} {ps : List Str} {ds : List Value} {n : Nat} (hn : n + ds.length = ps.length) (h : ∀ us : List Value, us.length = n → ∀ S, PySem.W.peek K S (bindArgs fd ⟨us, []⟩) = some (ps.zip (us ++ ds))) : Binds K fd ps ds :=
  bindsD fun us hl S => h us (Nat.add_right_cancel ((List.length_append.symm.trans hl).trans hn.symm)) S
/-- two given, the third left out (None), the fourth by its name -/
noncomputable def g21 {α : Type} (n : α) : List α → List α → List α
  | [a, b], [c] => [a, b, n, c]
  | _, _ => []
/-! ### != of lists whose items are lists alike, item by item: False -/
noncomputable def cpV : V → Bool
  | .ref _ => true
  | v => flatV v
inductive Cps (H : Hp) : List V → List V → Prop where
  | nil : Cps H [] []
  | cons {p q : Addr} {xs vs us : List V} (hp : H p = some (.lst xs)) (hq : H q = some (.lst xs)) (f : xs.all cpV = true) (t : Cps H vs us) : Cps H (.ref p :: vs) (.ref q :: us)
theorem Cps.length {H : Hp} {vs us : List V} (t : Cps H vs us) : vs.length = us.length := by
  induction t with
  | nil => rfl
  | cons _ _ _ _ ih => rw [List.length_cons, List.length_cons, ih]
theorem Cps.get {H : Hp} {vs us : List V} (t : Cps H vs us) : ∀ {i : Nat} {v : V}, vs[i]? = some v → ∃ p q xs, v = .ref p ∧ us[i]? = some (.ref q) ∧ H p = some (.lst xs) ∧ H q = some (.lst xs) ∧ xs.all cpV = true := by
  induction t with
  | nil => intro i v h; cases i <;> cases h
  | cons hp hq f _ ih =>
    intro i v h
    cases i with
    | zero => cases h; exact ⟨_, _, _, rfl, rfl, hp, hq, f⟩
    | succ i => exact ih (i := i) h
section
variable {X : Cx}
theorem eq_cp {A : Around} {s : Shared} {x : V} {u w : Value} (ru : RelV x u) (rw' : RelV x w) (h : cpV x = true) : SeqAt.EqAt A s u w true := by
  cases x with
  | ref a => cases ru; cases rw'; exact SeqAt.EqAt.same _
  | non => exact (eqV_self (x := .non) h) ▸ eqAt_V ru rw' h h
  | bl b => exact (eqV_self (x := .bl b) h) ▸ eqAt_V ru rw' h h
  | int b => exact (eqV_self (x := .int b) h) ▸ eqAt_V ru rw' h h
  | str b => exact (eqV_self (x := .str b) h) ▸ eqAt_V ru rw' h h
  | byt b => exact (eqV_self (x := .byt b) h) ▸ eqAt_V ru rw' h h
  | flt b => exact (eqV_self (x := .flt b) h) ▸ eqAt_V ru rw' h h
  | ty b => exact (eqV_self (x := .ty b) h) ▸ eqAt_V ru rw' h h
theorem at_of {us : List Value} {u : Value} {j : Nat} (h1 : j < us.toArray.size) (h : us[j]? = some u) : us.toArray[j] = u := by
  rw [List.size_toArray] at h1
  rw [List.getElem?_eq_getElem h1] at h
  simpa using Option.some.inj h
theorem all_true (n : Nat) : (List.range n).all (fun _ => true) = true := by simp
theorem lst_cp {A : Around} {s : Shared} {xs : List V} {us ws : List Value} (r : Vals xs us) (r' : Vals xs ws) (f : xs.all cpV = true) : ∀ j (h1 : j < us.toArray.size) (h2 : j < ws.toArray.size), SeqAt.EqAt A s us.toArray[j] ws.toArray[j] true := by
  intro j h1 h2
  have g1 : j < xs.length := by rw [r.length]; simpa using h1
  obtain ⟨u, hu, ru⟩ := r.get (i := j) (x := xs[j]) (by simp [g1])
  obtain ⟨w, hw, rw'⟩ := r'.get (i := j) (x := xs[j]) (by simp [g1])
  rw [at_of h1 hu, at_of h2 hw]
  exact eq_cp ru rw' (List.all_eq_true.mp f _ (List.getElem_mem g1))
noncomputable def rNeCp (K : PySem.W.Frag) : R2 := fun x y H Q => ∃ a b vs us, x = .ref a ∧ y = .ref b ∧ SqL K H a vs ∧ SqL K H b us ∧ Cps H vs us ∧ Q (.bl false) H
theorem op_neCp (hu : X.A.units + 64 < cLine) : OpR X (compareOp .NotEq) (rNeCp X.K) := by
  intro pins s σ H x y v u Q I rx ry h
  obtain ⟨a, b, vs, us, rfl, rfl, ha, hb, t, q⟩ := h
  cases rx
  cases ry
  obtain ⟨its, r1, p1, _⟩ := I.list ha
  obtain ⟨its2, r2, p2, _⟩ := I.list hb
  have l1 := r1.length
  have l2 := r2.length
  have m := t.length
  refine SeqAt.RcNeAt.lists (e := fun _ => true) p1.isList p2.isList (by rw [List.size_toArray, List.size_toArray]; omega) (by omega) (fun j h1 h2 => ?_) _ _ _ _ ?_
  · have g1 : j < vs.length := by rw [l1]; simpa using h1
    obtain ⟨c, d, xs, e1, e2, e3, e4, f⟩ := t.get (List.getElem?_eq_getElem g1)
    obtain ⟨u1, hu1, ru1⟩ := r1.get (List.getElem?_eq_getElem g1)
    obtain ⟨u2, hu2, ru2⟩ := r2.get e2
    rw [e1] at ru1
    rw [at_of h1 hu1, at_of h2 hu2, rel_ref ru1, rel_ref ru2]
    by_cases hcd : c = d
    · subst hcd
      exact SeqAt.EqAt.same _
    · refine SeqAt.EqAt.of_refs hcd ?_
      obtain ⟨i1, c1, q1, _⟩ := I.list (SqL.of e3)
      obtain ⟨i2, c2, q2, _⟩ := I.list (SqL.of e4)
      have z := SeqAt.RcAt.lists (A := X.A.in1) (e := fun _ => true) q1.isList q2.isList (by rw [List.size_toArray, List.size_toArray, ← c1.length, ← c2.length]) (by have : X.A.in1.units = X.A.units + 1 := rfl; omega) (lst_cp c1 c2 f)
      rw [all_true] at z
      exact z
  · rw [all_true]
    exact ⟨.bl false, H, I, rfl, q⟩
/-! ### (a, b, ..) = a list of that length -/
end
end Add

namespace Add
open PySem PySem.Spec PyProof.Rows L2
/-! ### xs += ys of lists; max of a list of ints; list(d) of a dict -/
section
variable {X : Cx}
end
/-! ### comprehensions whose elements are new objects -/
end Add

namespace Add
open PySem PySem.Spec PyProof.Rows L2
/-! ### o.m(..) where o is an object of one of some classes; isinstance with an own class -/
section
variable {X : Cx} {CX : CXT} {ι : Type} {k : ι → Nat} {f C : ι → Addr} {fd : ι → FuncData} {ps : ι → List Str} {sp : ι → Sp} {dvs : List V} {ds : List Value} {E : XK} {m : Str} {pos apos : Pos} {e o : Expr} {es : List Expr} {ta : TE} {t : TA}
end
section
variable {X : Cx}
end
section
variable {K : PySem.W.Frag} {C : Addr}
end
/-! ### for x in reversed(a list) -/
section
variable {X : Cx} {tg : Expr}
end
end Add

namespace Add
open PySem PySem.Spec PyProof.Rows L2
/-! ### isinstance with a tuple of built-in kinds; sorted of texts -/
section
variable {X : Cx}
theorem strs_are : ∀ {ss : List Str} {its : List Value}, Vals (ss.map V.str) its → StrsAre its ss
  | [], _, .nil => .nil
  | y :: ss, _, .cons a r => by
    obtain ⟨t, rfl⟩ := a
    exact .cons y t (strs_are r)
end
end Add

namespace Add
open PySem PySem.Spec PyProof.Rows L2
/-! ### the place of a text in a list; != of tuples whose items are flat or lists of flat tuples -/
section
variable {X : Cx}
/-- the first place of a text -/
noncomputable def rIndexS : V → List V → Hp → VK → Prop := fun x vs H Q => ∃ (l : Addr) (ss : List Str) (k : Str) (j : Nat), x = .ref l ∧ vs = [.str k] ∧ H l = some (.lst (ss.map V.str)) ∧ ss[j]? = some k ∧ (∀ m, m < j → ss[m]? ≠ some k) ∧ Q (.int (j : Int)) H
theorem are_at {its : List Value} {ss : List Str} (r : StrsAre its ss) : ∀ {m : Nat} {z : Str}, ss[m]? = some z → ∃ t, its[m]? = some (.str z t) := by
  induction r with
  | nil => intro m z h; cases h
  | cons y t _ ih =>
    intro m z h
    cases m with
    | zero => cases h; exact ⟨_, rfl⟩
    | succ m => exact ih h
theorem are_len {its : List Value} {ss : List Str} (r : StrsAre its ss) : its.length = ss.length := by
  induction r with
  | nil => rfl
  | cons _ _ _ ih => rw [List.length_cons, List.length_cons, ih]
theorem mt_indexS : MtR X "list.index" rIndexS := by
  intro pins s σ H x vs v us Q I rx rv h
  obtain ⟨l, ss, k, j, rfl, rfl, hH, hj, hno, q⟩ := h
  cases rx
  obtain ⟨u, rfl, ru⟩ := rv.one
  obtain ⟨t, rfl⟩ := ru
  obtain ⟨z, its, n, r, hl, e⟩ := I.lstM hH
  have sa := strs_are r
  have la := are_len sa
  obtain ⟨hjl, _⟩ := List.getElem?_eq_some_iff.mp hj
  rw [List.length_map, sizeLine_eq] at z
  have at' : ∀ {m : Nat} (hm : m < its.toArray.size) {y : Str}, ss[m]? = some y → isStrOf k its.toArray[m] = (y == k) := fun {m} hm {y} h => by
    obtain ⟨t', e'⟩ := are_at sa h
    have : its.toArray[m] = .str y t' := by
      have h2 : its[m]? = some its[m] := by simp
      rw [h2] at e'
      simpa using Option.some.inj e'
    rw [this]; rfl
  refine call_meets F.slot_list_index ⟨_, e, rfl⟩ F.entry_list_index (F.args_list_index_2 _ _)
    (SeqAt.list_indexAt l its.toArray n _ _ (.str k t) (isStrOf k) j (by rw [List.size_toArray]; omega) (by omega) ?_ ?_) ⟨e, fun y hy => (eq_isStrOf k t sa y (by simpa using hy)).at _ _, ?_⟩
  · rw [at' _ hj]; exact beq_self_eq_true k
  · intro m hm hlt
    obtain ⟨y, hy⟩ : ∃ y, ss[m]? = some y := ⟨_, List.getElem?_eq_getElem (by omega)⟩
    rw [at' hm hy]
    cases eb : y == k with
    | false => rfl
    | true => rw [eq_of_beq eb] at hy; exact absurd hy (hno m hlt)
  · exact ⟨.int (j : Int), H, I.tok _, ⟨_, rfl⟩, q⟩
end
/-! ### a list of new lists, each of one tuple -/
section
end
end Add

namespace Add
open PySem PySem.Spec PyProof.Rows L2
/-! ### for x, y in zip(list, tuple): the steps of zip over any two that are drawn from -/
section
variable {prog : Program} {w : World} {A : Around} {E : Value → Shared → Prop} {s : Shared}
end
section
variable {prog : Program} {w : World} {A : Around} {E : Value → Shared → Prop} {s : Shared} {z TI TO i1 i2 : Addr} {f1 f2 : List Addr} {n n2 k : Nat} {P1 P2 : Nat → Value → Prop} {S1 S2 : Nat → Heap → Prop}
end
section
end
end Add

namespace Add
open PySem PySem.Spec PyProof.Rows L2
/-! ### list(dict.values()); how often a text stands in a list -/
section
variable {X : Cx}
end
end Add

namespace Add
open PySem PySem.Spec PyProof.Rows L2
/-! ### except (C, D, ..): a clause of several classes of which none is the error's -/
section
variable {X : Cx} {t : Expr} {es : List Expr} {c : Value} {us : List Value} {rest : List ExceptHandler} {tr : TH} {body : List Stmt} {pos pos' : Pos}
end
end Add

namespace Add
open PySem PySem.Spec PyProof.Rows L2
/-! ### [f x y for x, y in zip(list, tuple)] -/
end Add

namespace Add
open PySem PySem.Spec PyProof.Rows L2
/-! ### a text as a test; the length of a dict -/
section
variable {X : Cx}
end
end Add

namespace Add
open PySem PySem.Spec PyProof.Rows L2
/-! ### sorted of texts: the same for all lists of the same texts -/
section
variable {X : Cx}
end
end Add

namespace Add
open PySem PySem.Spec PyProof.Rows L2
/-! ### an error raised while another one is being handled -/
theorem entry_unchain : entryFor table "proto.unchain" = some Builtin.«proto.unchain» := entryFor_of_tree (by kernel_rfl)
section
variable {prog : Program} {w : World} {A : Around} {E : Value → Shared → Prop} {s : Shared}
theorem raise_handled {α : Type} {e x : Addr} {ox oe : Obj} {vs es : Array Value} {Q : α → Shared → Prop} (hh : A.handled = some (.ref x)) (ne : x ≠ e) (hx : s.heap.get? x = some ox) (hd : ox.data = .fields vs) (h2 : vs[2]? = some .none) (he : s.heap.get? e = some oe) (hde : oe.data = .fields es) (hz : 2 < es.size)
    (hE : ∀ h', Heap.SameBut e s.heap h' → (∃ o, h'.get? e = some o ∧ o.cls = oe.cls) → E (.ref e) { s with heap := h' }) : wpAny (model prog w) A (raiseNew (.ref e) : Sem α) Q E s := by
  unfold raiseNew
  refine wpAny_bind (wpAny_handled ?_)
  rw [hh]
  dsimp only
  rw [if_pos (show (Value.ref x != Value.ref e) = true by simp [ne])]
  refine wpAny_bind (wpAny_holding (wpAny_runValue (codeAny_builtin entry_unchain ?_)))
  refine wpAny_bind (wpAny_field hx hd h2 ?_)
  rw [if_pos (beq_self_eq_true _)]
  refine wpAny_pure ?_
  show wpAny _ A (updateField e 2 (.ref x) >>= _) _ _ _
  refine wpAny_bind (wpAny_setField he hde hz (wpAny_throw (hE _ (Heap.SameBut.update ..) ⟨_, Heap.get?_update_self _ he (Obj.isFreed_of_fields (Obj.data_mapFields hde _)), Obj.cls_mapFields ..⟩)))
theorem next_listEndH {it l x : Addr} {i : Nat} {items : Array Value} {ox : Obj} {vs : Array Value} {Q : Option Value → Shared → Prop} (hh : A.handled = some (.ref x)) (hi : s.heap.IsListIter it l i) (hl : s.heap.IsList l items) (hn : items[i]? = none) (hx : s.heap.get? x = some ox) (hdx : ox.data = .fields vs) (h2 : vs[2]? = some .none) (nx : x ≠ it)
    (hQ : ∀ h', Heap.ExtBut it s.heap h' → Q none { s with heap := h' }) : wpAny (model prog w) A (pyNext (.ref it)) Q E s := by
  obtain ⟨o, ho, hc, hd⟩ := id hi
  obtain ⟨_, hol, _, _, hdl⟩ := hl
  unfold pyNext
  refine wpAny_bind (wpAny_attempt (wpAny_callSpecial?_slot (name := Str.ofString "__next__") hi.typeIs slot_listiter_next (wpAny_call_entry slot_listiter_next hi.typeIs entry_listiter_next ?_ (args_listiter_next _))))
  show wpAny _ _ (field (.ref it) 0 >>= _) _ _ s
  refine wpAny_bind (wpAny_field ho hd (x := .ref l) rfl ?_)
  show wpAny _ _ (if (Value.ref l == Value.none) = true then _ else _) _ _ s
  rw [if_neg (show ¬ ((Value.ref l == Value.none) = true) from Bool.false_ne_true)]
  show wpAny _ _ (field (.ref it) 1 >>= _) _ _ s
  refine wpAny_bind (wpAny_field ho hd (x := .int i 0) rfl ?_)
  show wpAny _ _ (seqItems? (.ref l) >>= _) _ _ s
  refine wpAny_bind (wpAny_seqItems hol hdl ?_)
  simp only [Int.toNat_natCast, hn]
  refine wpAny_bind (wpAny_rule (wpAny_bind (wpAny_setField ho hd (by simp) ?_)))
  show wpAny _ _ (newExc (.type "StopIteration") [] >>= _) _ _ _
  refine wpAny_bind ?_
  simp only [newExc, newTuple]
  refine wpAny_bind (wpAny_newObj_type (wpAny_bind (m := firstArgMember _ _) (wpAny_of_eq (a := Value.none) (by first | rfl | (simp only [firstArgMember]; rfl)) (wpAny_newObj_type ?_ (by size_fits)))) (by size_fits))
  have sb : Heap.SameBut it s.heap (s.heap.update it (Obj.mapFields (·.setIfInBounds 0 Value.none))) := Heap.SameBut.update ..
  have hx1 := (sb.2 x nx).trans hx
  have up : ∀ b ob, b ≠ it → s.heap.get? b = some ob → (s.heap.update it (Obj.mapFields (·.setIfInBounds 0 Value.none))).get? b = some ob := fun b ob nb e => (sb.2 b nb).trans e
  refine raise_handled (A := A.in1) hh (Nat.ne_of_lt (Heap.lt_size (Heap.get?_push_of_some _ hx1))) (Heap.get?_push_of_some _ (Heap.get?_push_of_some _ hx1)) hdx h2 (Heap.get?_push_size _ rfl) rfl (by simp; omega) fun h' sb' ⟨o', ho', hc'⟩ => ?_
  refine wpAny_bind (wpAny_isInstance (T := "StopIteration") (b := true) ⟨o', ho', hc'⟩ isSubtype_stop ?_)
  refine wpAny_pure (hQ _ fun b ob nb e => ?_)
  have e1 := Heap.get?_push_of_some { cls := .type "tuple", data := .seq #[] } (up b ob nb e)
  exact (sb'.2 b (Nat.ne_of_lt (Heap.lt_size e1))).trans (Heap.get?_push_of_some _ e1)
end
/-! ### defs called while an error is being handled -/
structure RoomH (k : Nat) (A : Around) : Prop where
  dp : A.depth + 3 * k + 5 < recursionLimit
  un : A.units + 16 * k + 200 < cLine
theorem RoomH.deeper {k : Nat} {A : Around} (r : RoomH (k + 1) A) (env : Env) : RoomH k (A.deeper env) :=
  ⟨by have := r.dp; show A.depth + 1 + 3 * k + 5 < _; omega, by have := r.un; show A.units + 3 + 16 * k + 200 < _; omega⟩
theorem RoomH.mono {j k : Nat} {A : Around} (r : RoomH k A) (h : j ≤ k) : RoomH j A := ⟨by have := r.dp; omega, by have := r.un; omega⟩
theorem _root_.L2.Room.hnd {k : Nat} {X : Cx} {e : Value} {W : Value → Shared → Prop} (r : Room k X.A) : RoomH k (X.sup e W).A := ⟨r.dp, r.un⟩
noncomputable abbrev Hd (x : Addr) (H : Hp) : Prop := ∃ C od, H x = some (exO x C od false)
noncomputable abbrev cxH (P : Program) (w : World) (K : PySem.W.Frag) (mg : Str → Option Value) (base : Heap) (N : List Str) (qual : Str) (scope : Scope) (f : Addr) (cd : Value) (A : Around) (outer : List Env) (s : Shared) (H : Hp) : Cx :=
  { cxOf CX0 P w K mg base N qual scope f cd A outer s H E0 with calm := false, xe := fun _ _ => False }
/-- a def that lets no error out, called while the error at x is being handled -/
structure FnH (P : Program) (w : World) (K : PySem.W.Frag) (mg : Str → Option Value) (base : Heap) (k : Nat) (f : Addr) (fd : FuncData) (ps : List Str) (sp : Addr → Sp) : Prop where
  len : ∀ x vs H Q E, sp x vs H Q E → vs.length = ps.length
  run : ∀ (A : Around) (outer : List Env) (s : Shared) (H : Hp) (args : Args) (us : List Value) (vs : List V) (Q : VK) (x : Addr), A.handled = some (.ref x) → RoomH k A → Env0 P w K mg base A outer s H → BindsTo s fd args (ps.zip us) → Vals vs us → sp x vs H Q E0 →
    codeAny (model P w) A (.call (.ref f) args) (CR CX0 outer P w H s Q E0) s
section
variable {P : Program} {w : World} {K : PySem.W.Frag} {mg : Str → Option Value} {base : Heap}
theorem okH {n qual : Str} {st : Stmt} {f : Addr} {fd : FuncData} {N ps : List Str} {k : Nat} {sp : Addr → Sp} (F : Fun K n qual st f fd) (S : FnScope N ps (defScope st)) (len : ∀ x vs H Q E, sp x vs H Q E → vs.length = ps.length)
    (hbody : ∀ (cdv : Value) (A : Around) (outer : List Env) (s : Shared) (H : Hp) (vs : List V) (Q : VK) (x : Addr), A.handled = some (.ref x) → RoomH k (A.deeper (envOfC qual (defScope st) s.heap.objs.size f cdv)) → sp x vs H Q E0 →
      ∃ t, PSs (cxH P w K mg base N qual (defScope st) f cdv A outer s H) (defBody st) t ∧ t { nx := fun _ H' => Q .non H', rt := Q } (start N vs) H) : FnH P w K mg base (k + 1) f fd ps sp := by
  obtain ⟨oc, od, kV, doc, pm, an, cdv, ct, osl, rfl, lk, hcd⟩ := F.ex
  refine ⟨len, fun A outer s H args us vs Q x hh hr e0 hb r hsp => ?_⟩
  have KX : K.In s.heap := e0.mod.kin.keeps fun b o e => (e0.bs b o e).1
  refine codeAny_call_function (by have := hr.dp; omega) (KX _ _ lk) rfl S.co S.gen rfl (PySem.W.codeRec_of KX hcd) (hb _ _ _ _ ?_)
  refine wpAny_newFunctionEnv_cells S.kind (fun ⟨y, v⟩ hy => ?_) fun env he s1 z => ?_
  · rcases S.par y (List.of_mem_zip hy).1 with q | q
    · exact .inl q
    · exact .inr ⟨q, PySem.W.cellsFrom_some _ _ _ (.inl q)⟩
  subst he
  refine ⟨(e0.mod.nolimit.keeps fun b o e => (e0.bs b o e).1).keeps z.toInCall.keep, codeAny_func ?_⟩
  obtain ⟨t, ht, hq⟩ := hbody cdv A outer s H vs Q x hh (hr.deeper _) hsp
  have e1 : Env0 P w K mg base { A with handled := none } outer s H := ⟨e0.frames, e0.mod, e0.bs, e0.bsz, e0.funs, e0.frf, e0.hok, e0.bare⟩
  have I0 := inv_start (CX := CX0) (E := E0) (qual := qual) (f := f) (cd := cdv) S (A := { A with handled := none }) rfl e1 (len _ _ _ _ _ hsp) r z
  have o := I0.ok
  have I : Inv (cxH P w K mg base N qual (defScope st) f cdv A outer s H) [] (start N vs) H s1 :=
    ⟨⟨o.mod, o.kind, o.glob, o.blt, o.above, o.inj, o.has, o.cab, (fun z => nomatch z), Around.frames_deeper e0.frames, o.stk, o.exf, o.bs, o.bsz, o.noex, o.exfs, o.funs, o.frf⟩, I0.os, I0.bare, I0.base, I0.loc, I0.cell, I0.free, I0.freeC, I0.pin, I0.hok, I0.len⟩
  refine wpAny_mono (ht [] s1 (start N vs) H _ I hq) (fun fl s' hs => ?_) fun e s' hs => hs.elim
  cases fl with
  | ret u => obtain ⟨v, σ', H', J, rv, q⟩ := hs; exact ⟨v, H', J.os, J.bare, J.base, J.hok, rv, q⟩
  | next => obtain ⟨σ', H', J, q⟩ := hs; exact ⟨V.non, H', J.os, J.bare, J.base, J.hok, rfl, q⟩
  | brk => obtain ⟨_, _, _, q⟩ := hs; exact False.elim q
  | cont => obtain ⟨_, _, _, q⟩ := hs; exact False.elim q
end
noncomputable def tCallH (sp : Addr → Sp) (x : Addr) (t : TA) : TE := fun σ H Q => t σ H fun vs H1 => sp x vs H1 Q E0
theorem pe_callH {X : Cx} {k : Nat} {f x : Addr} {fd : FuncData} {ps : List Str} {sp : Addr → Sp} {n : Str} {p pos : Pos} {e : Expr} {es : List Expr} {t : TA} (F : FnH X.prog X.w X.K X.mg X.base k f fd ps sp) (hh : X.A.handled = some (.ref x)) (hr : RoomH k X.A) (hg : Gl X n) (hm : X.mg n = some (.ref f)) (hk : PySem.W.keepIn X.K (.ref f) = true) (hb : Binds X.K fd ps [])
    (ha : PA X (e :: es) t) (hdb : (n == ("__debug__" : Str)) = false := by decide) (he : starEach (e :: es) X.env = (false, eval e X.env) :: starEach es X.env := by rfl) (hpl : (backTo pos (starEach es X.env)).any (·.1) = false := by rfl) :
    PE X (.Call (.Name n p) (e :: es) [] pos) (tCallH sp x t) := by
  intro pins s σ H Q I h
  refine wpAny_Call_Name_kw (ld_glob I hg hm ?_ hdb)
  refine PySem.W.callWith_K (h₀ := X.base) I.ok.mod.kin hk (thn (ha pos pins s σ H _ I h) fun us s1 ⟨vs, H1, I1, r, q⟩ => ⟨I1.kIn, ?_⟩) he hpl
  have hl : us.length = ps.length := by rw [← r.length]; exact F.len _ _ _ _ _ q
  have b := hb s1 us I1.kIn (by rw [List.append_nil]; exact hl)
  rw [List.append_nil] at b
  refine wpAny_call (codeAny_mono (F.run X.A X.stack s1 H1 ⟨us, []⟩ us vs Q x hh hr I1.env0 b r q) fun r s' hq => ?_)
  cases r with
  | error e => exact False.elim hq
  | ok fl =>
    cases fl with
    | ret u => exact I1.after hq
    | next => exact False.elim hq
    | brk => exact False.elim hq
    | cont => exact False.elim hq
/-- for over a list while the error at x is being handled -/
noncomputable def tForH (K : PySem.W.Frag) (x : Addr) (tl : TE) (g : TG) (tb : TS) : TS := fun D σ H => tl σ H fun v H1 => ∃ (a : Addr) (xs : List V) (Pv : Nat → L2.St → Hp → Prop), v = .ref a ∧ Pv 0 σ H1 ∧ (∀ i σ H, i ≤ xs.length → Pv i σ H → SqL K H a xs ∧ Hd x H) ∧
  (∀ i y σ H, xs[i]? = some y → Pv i σ H → g y σ H fun σ2 H2 => tb { D with nx := Pv (i + 1), ct := Pv (i + 1), bk := D.nx } σ2 H2) ∧ ∀ σ H, Pv xs.length σ H → D.nx σ H
theorem ps_forH {X : Cx} {x : Addr} {tg iter : Expr} {body : List Stmt} {tl : TE} {g : TG} {tb : TS} {pos : Pos} (hp : PassesOwn (model X.prog X.w) X.A X.env X.xe) (hh : X.A.handled = some (.ref x)) (hi : PE X iter tl) (hg : PG X tg g) (hb : PSs X body tb)
    (hs : ∀ x, foldedSetIterable iter X.env x = pure x := by intro _; rfl) : PS X (.For tg iter body [] pos) (tForH X.K x tl g tb) := by
  intro pins s σ H D I h
  refine wpAny_For (thn (hi pins s σ H _ I h) fun v s1 ⟨v', H1, I1, r1, a, xs, Pv, ev, p0, hl, step, fin⟩ => ?_) hs
  subst ev
  obtain rfl : v = Value.ref a := r1
  obtain ⟨its, rv, p, hz⟩ := I1.list (hl 0 σ H1 (Nat.zero_le _) p0).1
  refine wpAny_pyIter_list p.isList ?_
  have f2 : ∀ {H' : Hp}, H' s1.heap.objs.size = none → FpOk X pins H' s1.heap.objs.size := fun hn => ⟨hn, (I1.fpOk (Nat.le_refl _) (I1.hok.fresh (Nat.le_refl _))).2⟩
  generalize hit : s1.heap.objs.size = it at *
  refine codeAny_forLoop_any (fun n s' => ∃ i σ' H', Inv X pins σ' H' s' ∧ s'.heap.IsListIter it a i ∧ H' it = none ∧ i ≤ xs.length ∧ n = xs.length - i ∧ Pv i σ' H') ?_ xs.length ⟨0, σ, H1, I1.kept (t' := s1.toks) fun b o e => Heap.get?_push_of_some _ e, ⟨_, by rw [← hit]; exact Heap.get?_push_size _ rfl, rfl, rfl⟩, by rw [← hit]; exact I1.hok.fresh (Nat.le_refl _), Nat.zero_le _, rfl, p0⟩
  rintro n s3 ⟨i, σ3, H3, I3, st3, fr3, li, rfl, w3⟩
  obtain ⟨hq, Cx', odx, hx⟩ := hl i σ3 H3 li w3
  obtain ⟨its3, rv3, p3, hz3⟩ := I3.list hq
  have hlen := rv3.length
  obtain ⟨f0, f1, f2', f3, f4, f5⟩ := f2 fr3
  by_cases hlt : i < xs.length
  · obtain ⟨u, hu, ru⟩ := rv3.get (show xs[i]? = some xs[i] by simp [hlt])
    refine wpAny_passesOwn hp (wpAny_pyNext_list_item st3 p3.isList (x := u) (by simpa using hu) fun h' st' sb => ?_)
    have I5 : Inv X pins σ3 H3 { s3 with heap := h' } := I3.turned (t' := s3.toks) (fun b o hb e => (sb.2 b hb).trans e) f0 f1 f3 f4 f5
    obtain ⟨o, e, c, d⟩ := id st'
    refine wpAny_passesOwn hp (go_of (s := { s3 with heap := h' }) e c d (by decide) ?_)
    have I5' : Inv X (pins ++ [(it, o)]) σ3 H3 { s3 with heap := h' } := I5.pins_of fun p hp => (List.mem_append.mp hp).elim (fun z => I5.pin p (List.mem_append_right _ z)) fun z => by
      obtain rfl : p = (it, o) := by simpa using z
      exact ⟨e, fr3, f1, f2', fun v z => by rw [d] at z; cases z⟩
    refine wpAny_passesOwn hp (thn (hg _ _ σ3 H3 xs[i] u _ I5' ru (step i xs[i] σ3 H3 (by simp [hlt]) w3)) fun _ s6 ⟨σ6, H6, I6, q6⟩ => ?_)
    refine wpAny_passesOwn hp (thn (hb _ s6 σ6 H6 _ I6 q6) fun f s7 q7 => ?_)
    have again : ∀ {σ7 : L2.St} {H7 : Hp}, Inv X (pins ++ [(it, o)]) σ7 H7 s7 → Pv (i + 1) σ7 H7 → ∃ m, m < xs.length - i ∧ ∃ i σ' H', Inv X pins σ' H' s7 ∧ s7.heap.IsListIter it a i ∧ H' it = none ∧ i ≤ xs.length ∧ m = xs.length - i ∧ Pv i σ' H' := fun {σ7 H7} I7 n7 => by
      have pp := I7.pin (it, o) (List.mem_append_right _ (List.mem_append_right _ (by simp)))
      exact ⟨xs.length - (i + 1), by omega, i + 1, σ7, H7, I7.unpinned, ⟨o, pp.1, c, d⟩, pp.2.1, hlt, rfl, n7⟩
    cases f with
    | next => obtain ⟨σ7, H7, I7, n7⟩ := q7; exact again I7 n7
    | cont => obtain ⟨σ7, H7, I7, n7⟩ := q7; exact again I7 n7
    | brk => obtain ⟨σ7, H7, I7, q7⟩ := q7; exact ⟨σ7, H7, I7.unpinned, q7⟩
    | ret v => obtain ⟨x7, σ7, H7, I7, r7, q7⟩ := q7; exact ⟨x7, σ7, H7, I7.unpinned, r7, q7⟩
  · obtain rfl : i = xs.length := by omega
    obtain ⟨ws, sl, ex, z6, _⟩ := exO_at I3.hok hx
    have nx : x ≠ it := fun z => by rw [z, fr3] at hx; cases hx
    refine wpAny_passesOwn hp (next_listEndH hh st3 p3.isList (by simp; omega) ex rfl z6.2 nx fun h' eb => ?_)
    exact wpAny_execs_nil ⟨σ3, H3, I3.turned (t' := s3.toks) (fun b o hb e => eb b o hb e) f0 f1 f3 f4 f5, fin σ3 H3 w3⟩
end Add

namespace Add
open PySem PySem.Spec PyProof.Rows L2
/-! ### a def with defaults that may let an error out -/
theorem okXD {P : Program} {w : World} {K : PySem.W.Frag} {mg : Str → Option Value} {base : Heap} {x qual : Str} {st : Stmt} {f : Addr} {fd : FuncData} {N ps : List Str} {k : Nat} {sp : Sp} (F : FunD K x qual st f fd) (S : FnScope N ps (defScope st)) (len : ∀ vs H Q E, sp vs H Q E → vs.length = ps.length)
    (hbody : ∀ (cdv : Value) (A : Around) (outer : List Env) (s : Shared) (H : Hp) (vs : List V) (Q : VK) (E : XK), Room k (A.deeper (envOfC qual (defScope st) s.heap.objs.size f cdv)) → sp vs H Q E →
      ∃ t, PSs (cxOf (CX1 P w) P w K mg base N qual (defScope st) f cdv A outer s H E) (defBody st) t ∧ t { nx := fun _ H' => Q .non H', rt := Q } (start N vs) H) : FnOk P w K mg base (CX1 P w) (k + 1) f fd ps sp := by
  obtain ⟨oc, dV, kV, doc, pm, cdv, ct, od, an, osl, rfl, lk, hcd⟩ := F.ex
  exact fn_of lk hcd S len fun A outer s H vs Q E hr hsp => hbody cdv A outer s H vs Q E hr hsp
/-! ### things of any kind: none, truths, whole numbers, texts, lists -/
inductive Odd (H : Hp) : V → Prop where
  | non : Odd H .non
  | bl (b : Bool) : Odd H (.bl b)
  | int (i : Int) : Odd H (.int i)
  | str (x : Str) : Odd H (.str x)
  | lst {p : Addr} {xs : List V} (h : H p = some (.lst xs)) : Odd H (.ref p)
theorem Odd.same {H H' : Hp} {v : V} (h : Odd H v) (s : Same H H') : Odd H' v := by
  cases h with
  | non => exact .non
  | bl b => exact .bl b
  | int i => exact .int i
  | str x => exact .str x
  | lst h => exact .lst (s _ _ h)
section
variable {X : Cx}
/-- x != 'text' -/
noncomputable def rNeOd : R2 := fun x y H Q => ∃ t, y = .str t ∧ Odd H x ∧ Q (.bl (!decide (x = .str t))) H
theorem op_neOd (hu : X.A.units + 64 < cLine) : OpR X (compareOp .NotEq) rNeOd := by
  intro pins s σ H x y v u Q I rx ry h
  obtain ⟨t, rfl, od, q⟩ := h
  cases od with
  | non => exact op_ne pins s σ H _ _ v u Q I rx ry ⟨rfl, q⟩
  | bl b => exact op_ne pins s σ H _ _ v u Q I rx ry ⟨rfl, q⟩
  | int b => exact op_ne pins s σ H _ _ v u Q I rx ry ⟨rfl, q⟩
  | str b => exact op_ne pins s σ H _ _ v u Q I rx ry ⟨rfl, q⟩
  | @lst p xs hp =>
    cases rx
    obtain ⟨t', rfl⟩ := ry
    obtain ⟨its, r, l, _⟩ := I.list (SqL.of hp)
    refine SeqAt.RcNeAt.list_str t t' l.isList (by omega) _ _ _ _ ?_
    exact fin_bl I q (by simp)
/-- xs != [] -/
noncomputable def rNeNil (K : PySem.W.Frag) : R2 := fun x y H Q => ∃ a b xs, x = .ref a ∧ y = .ref b ∧ SqL K H a xs ∧ SqL K H b [] ∧ Q (.bl (!xs.isEmpty)) H
theorem op_neNil (hu : X.A.units + 64 < cLine) : OpR X (compareOp .NotEq) (rNeNil X.K) := by
  intro pins s σ H x y v u Q I rx ry h
  obtain ⟨a, b, xs, rfl, rfl, ha, hb, q⟩ := h
  cases rx
  cases ry
  obtain ⟨its, r1, p1, _⟩ := I.list ha
  obtain ⟨its2, r2, p2, _⟩ := I.list hb
  have l1 := r1.length
  have l2 := r2.length
  have l2 : 0 = its2.length := l2
  cases xs with
  | nil =>
    have l1 : 0 = its.length := l1
    refine SeqAt.RcNeAt.lists (e := fun _ => true) p1.isList p2.isList (by rw [List.size_toArray, List.size_toArray]; omega) (by omega) (fun j h1 _ => absurd h1 (by rw [List.size_toArray]; omega)) _ _ _ _ ?_
    rw [all_true]
    exact ⟨.bl false, H, I, rfl, q⟩
  | cons z zs =>
    rw [List.length_cons] at l1
    refine SeqAt.RcNeAt.lists_lengths p1.isList p2.isList (bne_iff_ne.mpr (by rw [List.size_toArray, List.size_toArray]; omega)) (by omega) _ _ _ _ ?_
    exact ⟨.bl true, H, I, rfl, q⟩
end
end Add


/-! THE MATHEMATICS of years, weeks and days -/
namespace Cal
noncomputable def lb (y : Int) : Int := (3 * y + 14) / 17
noncomputable def fw (y : Int) : Int := 52 * y + (3 * y + 14) / 17
noncomputable def yo (w : Int) : Int := (17 * w + 2) / 887
noncomputable def wk (y : Int) : Int := if 3 * y % 17 < 3 then 53 else 52
theorem fw_next (y : Int) : fw (y + 1) = fw y + wk y := by
  unfold fw wk
  rw [show 3 * (y + 1) + 14 = 3 * y + 17 by omega, show 52 * (y + 1) = 52 * y + 52 by omega]
  generalize 3 * y = z
  split <;> omega
theorem wk_in (y : Int) : 52 ≤ wk y ∧ wk y ≤ 53 := by unfold wk; split <;> omega
theorem lies (w : Int) : fw (yo w) ≤ w ∧ w < fw (yo w + 1) := by unfold fw yo; omega
/-- a date that is there -/
structure Ok (y w d : Int) : Prop where
  y0 : 0 ≤ y
  w1 : 1 ≤ w
  w2 : w ≤ wk y
  d1 : 1 ≤ d
  d2 : d ≤ 7
/-- the number at a place of the script, nought behind its end -/
noncomputable def cell (ns : List Int) (k : Int) : Int := ns.getD k.toNat 0
end Cal

namespace K27
open PySem L2 Add

theorem arg1 {p : List Value → Prop} (h : ∀ x0, p [x0]) : ∀ us, us.length = 1 → p us := fun us hl => by obtain ⟨x, rfl⟩ := List.length_eq_one_iff.mp hl; exact h x
theorem argS {p : List Value → Prop} {n : Nat} (h : ∀ x t, t.length = n → p (x :: t)) : ∀ us, us.length = n + 1 → p us := fun us hl => by obtain ⟨x, t, rfl⟩ := List.exists_cons_of_length_eq_add_one hl; exact h x t (Nat.succ.inj hl)
theorem arg2 {p : List Value → Prop} (h : ∀ x0 x1, p [x0, x1]) : ∀ us, us.length = 2 → p us := argS fun x => arg1 (h x)
theorem arg3 {p : List Value → Prop} (h : ∀ x0 x1 x2, p [x0, x1, x2]) : ∀ us, us.length = 3 → p us := argS fun x => arg2 (h x)
theorem arg4 {p : List Value → Prop} (h : ∀ x0 x1 x2 x3, p [x0, x1, x2, x3]) : ∀ us, us.length = 4 → p us := argS fun x => arg3 (h x)
theorem arg5 {p : List Value → Prop} (h : ∀ x0 x1 x2 x3 x4, p [x0, x1, x2, x3, x4]) : ∀ us, us.length = 5 → p us := argS fun x => arg4 (h x)
theorem nm {α β : Type} {t : β} {f : α → β} {P : α → Prop} {v : α} (e : t = f v) (h : P v) : ∃ v, t = f v ∧ P v := ⟨v, e, h⟩
theorem ii {α β γ δ : Type} {x : γ} {y : δ} {f : α → γ} {g : β → δ} {P : α → β → Prop} {i : α} {j : β} (e : x = f i) (e' : y = g j) (h : P i j) : ∃ i j, x = f i ∧ y = g j ∧ P i j := ⟨i, j, e, e', h⟩
theorem ic {α β γ δ : Type} {x : γ} {y : δ} {f : α → γ} {g : β → δ} {C P : α → β → Prop} {i : α} {j : β} (e : x = f i) (e' : y = g j) (c : C i j) (h : P i j) : ∃ i j, x = f i ∧ y = g j ∧ C i j ∧ P i j := ⟨i, j, e, e', c, h⟩
theorem lx {K : PySem.W.Frag} {H : Hp} {p : Addr} {xs : List V} {i : Int} {v : V} {P : V → Prop} (s : SqL K H p xs) (e : atI xs i = some v) (h : P v) : ∃ p' xs' i' v', V.ref p = .ref p' ∧ V.int i = .int i' ∧ SqL K H p' xs' ∧ atI xs' i' = some v' ∧ P v' := ⟨p, xs, i, v, rfl, rfl, s, e, h⟩
theorem tx {K : PySem.W.Frag} {H : Hp} {p : Addr} {xs : List V} {i : Int} {v : V} {P : V → Prop} (s : SqT K H p xs) (e : atI xs i = some v) (h : P v) : ∃ p' xs' i' v', V.ref p = .ref p' ∧ V.int i = .int i' ∧ SqT K H p' xs' ∧ atI xs' i' = some v' ∧ P v' := ⟨p, xs, i, v, rfl, rfl, s, e, h⟩
theorem fl {H : Hp} {a C dx : Addr} {fs : List (Str × V)} {v : V} {A B : Addr → Prop} {L : List (Str × V) → V → Prop} {P : V → Prop} (h : H a = some (.ins C dx fs)) (c : A C) (n : B C) (l : L fs v) (q : P v) : ∃ a' C' dx' fs' v', V.ref a = .ref a' ∧ H a' = some (.ins C' dx' fs') ∧ A C' ∧ B C' ∧ L fs' v' ∧ P v' := ⟨a, C, dx, fs, v, rfl, h, c, n, l, q⟩

/-! the text by places -/
noncomputable def top (i : Nat) : Stmt := PySem.Challenge.pw_termcourt_k27_tables_refused.main.body.getD i (.Pass ⟨0, 0, 0, 0⟩)
noncomputable abbrev sIsWhole : Stmt := top 17
noncomputable abbrev sLongBefore : Stmt := top 19
noncomputable abbrev sFirstWeek : Stmt := top 20
noncomputable abbrev sYearOf : Stmt := top 21
noncomputable abbrev sWeekday : Stmt := top 23
noncomputable abbrev sDateOf : Stmt := top 22
noncomputable abbrev sIsStretchOf : Stmt := top 25
noncomputable abbrev sPlace : Stmt := top 26
noncomputable abbrev sJoined : Stmt := top 29
noncomputable abbrev sLaidOver : Stmt := top 28
noncomputable abbrev sOverlay : Stmt := top 27
noncomputable abbrev sDayOfYear : Stmt := top 37
noncomputable abbrev sIsFreeWithin : Stmt := top 38
noncomputable abbrev sCountedUp : Stmt := top 39
noncomputable abbrev sNoTableInit : Stmt := inClass (top 6) 0
noncomputable abbrev sIsWeekday : Stmt := top 41
noncomputable abbrev sRefuseWeek : Stmt := top 40
noncomputable abbrev sIsYearly : Stmt := top 43
noncomputable abbrev sRefuseYearly : Stmt := top 42
noncomputable abbrev sListOrEmpty : Stmt := top 49
noncomputable abbrev sIsRow : Stmt := top 51
noncomputable abbrev sRefuseRows : Stmt := top 50
noncomputable abbrev sLawCell : Stmt := top 53
noncomputable abbrev sLawWhole : Stmt := top 54
noncomputable abbrev sLawOdd : Stmt := top 55
noncomputable abbrev sLawWeek : Stmt := top 56
noncomputable abbrev sLawYearly : Stmt := top 57
noncomputable abbrev sLawRows : Stmt := top 58
noncomputable abbrev sLawPair : Stmt := top 59
noncomputable abbrev sLawDue : Stmt := top 60
noncomputable abbrev sLawAlone : Stmt := top 61
noncomputable abbrev sPatternInit : Stmt := inClass (top 36) 0
noncomputable abbrev sPatternBeforeYear : Stmt := inClass (top 36) 3
noncomputable abbrev sPatternBefore : Stmt := inClass (top 36) 2
noncomputable abbrev sTableShift : Stmt := inClass (top 48) 1
noncomputable abbrev sTableInit : Stmt := inClass (top 48) 0
noncomputable abbrev sLawTable : Stmt := top 62
noncomputable abbrev sLawPattern : Stmt := top 63
noncomputable abbrev sLawSame : Stmt := top 64
noncomputable abbrev sPatternIsFree : Stmt := inClass (top 36) 1
noncomputable abbrev sTableIsFree : Stmt := inClass (top 48) 2
noncomputable abbrev sLaw : Stmt := top 65
structure DefAt (K : PySem.W.Frag) (mg : Str → Option Value) (x : Str) (st : Stmt) (ps : List Str) (f : Addr) (fd : FuncData) : Prop where
  fn : Fun K x x st f fd
  mgx : mg x = some (.ref f)
  bd : Binds K fd ps []
noncomputable abbrev Pd (K : PySem.W.Frag) (x : Str) (st : Stmt) (f : Addr) : Prop := ∃ (oc : Value) (od : Option Addr) (kV doc pm : Value) (an : Option Addr) (cdv ct : Value) (osl : Array (Option Value)), PySem.W.nsIn K mainGlobals x = some (some (.ref f)) ∧ K.lookup f = some ⟨oc, od, .func (PySem.W.fnOf x x (defArgs st) (defBody st) (defScope st) .none kV doc pm an cdv ct), osl⟩ ∧ PySem.W.codeIn K cdv x = true ∧ PySem.W.keepIn K (.ref f) = true
noncomputable abbrev Pm (K : PySem.W.Frag) (C : Addr) (x q : Str) (st : Stmt) (f : Addr) : Prop := ∃ (oc : Value) (od : Option Addr) (kV doc pm : Value) (an : Option Addr) (cdv ct : Value) (osl : Array (Option Value)), PySem.W.findIn K (.ref C) x = some (some (.ref f)) ∧ PySem.W.typeIn K (.ref f) = some (.type "function") ∧ K.lookup f = some ⟨oc, od, .func (PySem.W.fnOf x q (defArgs st) (defBody st) (defScope st) .none kV doc pm an cdv ct), osl⟩ ∧ PySem.W.codeIn K cdv q = true ∧ PySem.W.keepIn K (.ref f) = true
theorem pd_of {K : PySem.W.Frag} {x : Str} {st : Stmt} {f : Addr} {oc : Value} {od : Option Addr} {kV doc pm : Value} {an : Option Addr} {cdv ct : Value} {osl : Array (Option Value)} (a : PySem.W.nsIn K mainGlobals x = some (some (.ref f))) (l : K.lookup f = some ⟨oc, od, .func (PySem.W.fnOf x x (defArgs st) (defBody st) (defScope st) .none kV doc pm an cdv ct), osl⟩) (c : PySem.W.codeIn K cdv x = true) (k : PySem.W.keepIn K (.ref f) = true) : Pd K x st f := ⟨oc, od, kV, doc, pm, an, cdv, ct, osl, a, l, c, k⟩
theorem pm_of {K : PySem.W.Frag} {C : Addr} {x q : Str} {st : Stmt} {f : Addr} {oc : Value} {od : Option Addr} {kV doc pm : Value} {an : Option Addr} {cdv ct : Value} {osl : Array (Option Value)} (a : PySem.W.findIn K (.ref C) x = some (some (.ref f))) (t : PySem.W.typeIn K (.ref f) = some (.type "function")) (l : K.lookup f = some ⟨oc, od, .func (PySem.W.fnOf x q (defArgs st) (defBody st) (defScope st) .none kV doc pm an cdv ct), osl⟩) (c : PySem.W.codeIn K cdv q = true) (k : PySem.W.keepIn K (.ref f) = true) : Pm K C x q st f := ⟨oc, od, kV, doc, pm, an, cdv, ct, osl, a, t, l, c, k⟩
theorem pd_mk {K : PySem.W.Frag} {h : Heap} {mg : Str → Option Value} {x : Str} {st : Stmt} {f : Addr} (X : K.In h) (G : h.Ns mainGlobals mg) (p : Pd K x st f) {ps : List Str} (b : ∀ (kV doc pm : Value) (an : Option Addr) (cdv ct : Value) (us : List Value), us.length = ps.length → bindArgs (PySem.W.fnOf x x (defArgs st) (defBody st) (defScope st) .none kV doc pm an cdv ct) ⟨us, []⟩ = pure (ps.zip us)) : ∃ fd, DefAt K mg x st ps f fd := by
  obtain ⟨oc, od, kV, doc, pm, an, cdv, ct, osl, a, l, c, k⟩ := p
  have F := fun_mk (st := st) l c k
  exact ⟨_, F, PySem.W.mg_of X G a, F.binds b⟩
theorem pm_mk {K : PySem.W.Frag} {C : Addr} {x q : Str} {st : Stmt} {f : Addr} (p : Pm K C x q st f) {ps : List Str} (b : ∀ (kV doc pm : Value) (an : Option Addr) (cdv ct : Value) (us : List Value), us.length = ps.length → bindArgs (PySem.W.fnOf x q (defArgs st) (defBody st) (defScope st) .none kV doc pm an cdv ct) ⟨us, []⟩ = pure (ps.zip us)) : ∃ fd, MethAt K x q st ps f fd := by
  obtain ⟨oc, od, kV, doc, pm, an, cdv, ct, osl, a, t, l, c, k⟩ := p
  have F := fun_mk (st := st) l c k
  exact ⟨_, F, F.binds b, t⟩
set_option genInjectivity false
set_option genSizeOf false
set_option genSizeOfSpec false
structure Adr where
  fIsWhole : Addr
  gIsWhole : FuncData
  fLongBefore : Addr
  gLongBefore : FuncData
  fFirstWeek : Addr
  gFirstWeek : FuncData
  fYearOf : Addr
  gYearOf : FuncData
  fWeekday : Addr
  gWeekday : FuncData
  fDateOf : Addr
  gDateOf : FuncData
  fIsStretchOf : Addr
  gIsStretchOf : FuncData
  fPlace : Addr
  gPlace : FuncData
  fJoined : Addr
  gJoined : FuncData
  fLaidOver : Addr
  gLaidOver : FuncData
  fOverlay : Addr
  gOverlay : FuncData
  fDayOfYear : Addr
  gDayOfYear : FuncData
  fIsFreeWithin : Addr
  gIsFreeWithin : FuncData
  fCountedUp : Addr
  gCountedUp : FuncData
  fNoTableInit : Addr
  gNoTableInit : FuncData
  fIsWeekday : Addr
  gIsWeekday : FuncData
  fRefuseWeek : Addr
  gRefuseWeek : FuncData
  fIsYearly : Addr
  gIsYearly : FuncData
  fRefuseYearly : Addr
  gRefuseYearly : FuncData
  fListOrEmpty : Addr
  gListOrEmpty : FuncData
  fIsRow : Addr
  gIsRow : FuncData
  fRefuseRows : Addr
  gRefuseRows : FuncData
  fLawCell : Addr
  gLawCell : FuncData
  fLawWhole : Addr
  gLawWhole : FuncData
  fLawOdd : Addr
  gLawOdd : FuncData
  fLawWeek : Addr
  gLawWeek : FuncData
  fLawYearly : Addr
  gLawYearly : FuncData
  fLawRows : Addr
  gLawRows : FuncData
  fLawPair : Addr
  gLawPair : FuncData
  fLawDue : Addr
  gLawDue : FuncData
  fLawAlone : Addr
  gLawAlone : FuncData
  fPatternInit : Addr
  gPatternInit : FuncData
  fPatternBeforeYear : Addr
  gPatternBeforeYear : FuncData
  fPatternBefore : Addr
  gPatternBefore : FuncData
  fTableShift : Addr
  gTableShift : FuncData
  fTableInit : Addr
  gTableInit : FuncData
  fLawTable : Addr
  gLawTable : FuncData
  fLawPattern : Addr
  gLawPattern : FuncData
  fLawSame : Addr
  gLawSame : FuncData
  fPatternIsFree : Addr
  gPatternIsFree : FuncData
  fTableIsFree : Addr
  gTableIsFree : FuncData
  fLaw : Addr
  gLaw : FuncData
  cAdrift : Addr
  cCourtError : Addr
  cFull : Addr
  cNoAct : Addr
  cNoDay : Addr
  cNoName : Addr
  cNoRow : Addr
  cNoRule : Addr
  cNoTable : Addr
  cNoTerm : Addr
  cParted : Addr
  cPattern : Addr
  cRing : Addr
  cTable : Addr
  cTwice : Addr
  cUnfit : Addr
  tWORDS : Addr
structure Txt (K : PySem.W.Frag) (mg : Str → Option Value) (a : Adr) : Prop where
  dIsWhole : DefAt K mg "is_whole" sIsWhole ["thing"] a.fIsWhole a.gIsWhole
  dLongBefore : DefAt K mg "long_before" sLongBefore ["year"] a.fLongBefore a.gLongBefore
  dFirstWeek : DefAt K mg "first_week" sFirstWeek ["year"] a.fFirstWeek a.gFirstWeek
  dYearOf : DefAt K mg "year_of" sYearOf ["week"] a.fYearOf a.gYearOf
  dWeekday : DefAt K mg "weekday" sWeekday ["day"] a.fWeekday a.gWeekday
  dDateOf : DefAt K mg "date_of" sDateOf ["day"] a.fDateOf a.gDateOf
  dIsStretchOf : DefAt K mg "is_stretch_of" sIsStretchOf ["first", "last", "most"] a.fIsStretchOf a.gIsStretchOf
  dPlace : DefAt K mg "place" sPlace ["stretches", "day"] a.fPlace a.gPlace
  dJoined : DefAt K mg "joined" sJoined ["laid"] a.fJoined a.gJoined
  dLaidOver : DefAt K mg "laid_over" sLaidOver ["laid", "first", "last", "word"] a.fLaidOver a.gLaidOver
  dOverlay : DefAt K mg "overlay" sOverlay ["rows"] a.fOverlay a.gOverlay
  dDayOfYear : DefAt K mg "day_of_year" sDayOfYear ["day"] a.fDayOfYear a.gDayOfYear
  dIsFreeWithin : DefAt K mg "is_free_within" sIsFreeWithin ["within", "week", "yearly"] a.fIsFreeWithin a.gIsFreeWithin
  dCountedUp : DefAt K mg "counted_up" sCountedUp ["free_days"] a.fCountedUp a.gCountedUp
  dNoTableInit : MethAt K "__init__" "NoTable.__init__" sNoTableInit ["self", "part", "at"] a.fNoTableInit a.gNoTableInit
  dIsWeekday : DefAt K mg "is_weekday" sIsWeekday ["thing"] a.fIsWeekday a.gIsWeekday
  dRefuseWeek : DefAt K mg "refuse_week" sRefuseWeek ["week"] a.fRefuseWeek a.gRefuseWeek
  dIsYearly : DefAt K mg "is_yearly" sIsYearly ["thing"] a.fIsYearly a.gIsYearly
  dRefuseYearly : DefAt K mg "refuse_yearly" sRefuseYearly ["yearly"] a.fRefuseYearly a.gRefuseYearly
  dListOrEmpty : DefAt K mg "list_or_empty" sListOrEmpty ["things"] a.fListOrEmpty a.gListOrEmpty
  dIsRow : DefAt K mg "is_row" sIsRow ["row"] a.fIsRow a.gIsRow
  dRefuseRows : DefAt K mg "refuse_rows" sRefuseRows ["rows"] a.fRefuseRows a.gRefuseRows
  dLawCell : DefAt K mg "_law_cell" sLawCell ["_law_script", "_law_k"] a.fLawCell a.gLawCell
  dLawWhole : DefAt K mg "_law_whole" sLawWhole ["_law_found"] a.fLawWhole a.gLawWhole
  dLawOdd : DefAt K mg "_law_odd" sLawOdd ["_law_cell_here", "_law_other"] a.fLawOdd a.gLawOdd
  dLawWeek : DefAt K mg "_law_week" sLawWeek ["_law_script"] a.fLawWeek a.gLawWeek
  dLawYearly : DefAt K mg "_law_yearly" sLawYearly ["_law_script"] a.fLawYearly a.gLawYearly
  dLawRows : DefAt K mg "_law_rows" sLawRows ["_law_script"] a.fLawRows a.gLawRows
  dLawPair : DefAt K mg "_law_pair" sLawPair ["_law_first", "_law_last", "_law_least", "_law_most", "_law_days"] a.fLawPair a.gLawPair
  dLawDue : DefAt K mg "_law_due" sLawDue ["_law_week_here", "_law_yearly_here", "_law_rows_here"] a.fLawDue a.gLawDue
  dLawAlone : DefAt K mg "_law_alone" sLawAlone ["_law_e"] a.fLawAlone a.gLawAlone
  dPatternInit : MethAt K "__init__" "Pattern.__init__" sPatternInit ["self", "week", "yearly"] a.fPatternInit a.gPatternInit
  dPatternBeforeYear : MethAt K "before_year" "Pattern.before_year" sPatternBeforeYear ["self", "year"] a.fPatternBeforeYear a.gPatternBeforeYear
  dPatternBefore : MethAt K "before" "Pattern.before" sPatternBefore ["self", "day"] a.fPatternBefore a.gPatternBefore
  dTableShift : MethAt K "shift" "Table.shift" sTableShift ["self", "row", "end"] a.fTableShift a.gTableShift
  dTableInit : MethD K "__init__" "Table.__init__" sTableInit ["self", "week", "yearly", "rows"] a.fTableInit a.gTableInit
  dLawTable : DefAt K mg "_law_table" sLawTable ["_law_week_here", "_law_yearly_here", "_law_rows_here"] a.fLawTable a.gLawTable
  dLawPattern : DefAt K mg "_law_pattern" sLawPattern ["_law_week_here", "_law_yearly_here"] a.fLawPattern a.gLawPattern
  dLawSame : DefAt K mg "_law_same" sLawSame ["_law_told", "_law_due_here"] a.fLawSame a.gLawSame
  dPatternIsFree : MethAt K "is_free" "Pattern.is_free" sPatternIsFree ["self", "day"] a.fPatternIsFree a.gPatternIsFree
  dTableIsFree : MethAt K "is_free" "Table.is_free" sTableIsFree ["self", "day"] a.fTableIsFree a.gTableIsFree
  dLaw : DefAt K mg "law" sLaw ["_law_script"] a.fLaw a.gLaw
  m_Adrift : mg "Adrift" = some (.ref a.cAdrift)
  m_CourtError : mg "CourtError" = some (.ref a.cCourtError)
  b_CourtError : XBase K a.cCourtError
  m_Full : mg "Full" = some (.ref a.cFull)
  m_NoAct : mg "NoAct" = some (.ref a.cNoAct)
  m_NoDay : mg "NoDay" = some (.ref a.cNoDay)
  m_NoName : mg "NoName" = some (.ref a.cNoName)
  m_NoRow : mg "NoRow" = some (.ref a.cNoRow)
  m_NoRule : mg "NoRule" = some (.ref a.cNoRule)
  m_NoTable : mg "NoTable" = some (.ref a.cNoTable)
  x_NoTable : XA K a.cNoTable (some (.ref a.fNoTableInit))
  n_NoTable : xNo K a.cNoTable ["free_days", "open_days", "open_before", "pattern", "rows", "shifts", "part", "at"] = true
  k_NoTable : xKits K a.cNoTable [Value.ref a.cCourtError, Value.type "ValueError", Value.ref a.cNoTable, Value.ref a.cAdrift, Value.ref a.cFull, Value.ref a.cNoAct, Value.ref a.cNoDay, Value.ref a.cNoName, Value.ref a.cNoRow, Value.ref a.cNoRule, Value.ref a.cNoTerm, Value.ref a.cParted, Value.ref a.cRing, Value.ref a.cTwice, Value.ref a.cUnfit] [true, true, true, false, false, false, false, false, false, false, false, false, false, false, false] = true
  m_NoTerm : mg "NoTerm" = some (.ref a.cNoTerm)
  m_Parted : mg "Parted" = some (.ref a.cParted)
  m_Pattern : mg "Pattern" = some (.ref a.cPattern)
  c_Pattern : Cls K a.cPattern
  k_Pattern : Mk K a.cPattern a.fPatternInit
  n_Pattern : xNo K a.cPattern ["free_days", "open_days", "open_before", "pattern", "rows", "shifts", "part", "at"] = true
  t_dPatternBeforeYear : Meth K a.cPattern "before_year" a.fPatternBeforeYear
  t_dPatternBefore : Meth K a.cPattern "before" a.fPatternBefore
  t_dPatternIsFree : Meth K a.cPattern "is_free" a.fPatternIsFree
  m_Ring : mg "Ring" = some (.ref a.cRing)
  m_Table : mg "Table" = some (.ref a.cTable)
  c_Table : Cls K a.cTable
  k_Table : Mk K a.cTable a.fTableInit
  n_Table : xNo K a.cTable ["free_days", "open_days", "open_before", "pattern", "rows", "shifts", "part", "at"] = true
  t_dTableShift : Meth K a.cTable "shift" a.fTableShift
  t_dTableIsFree : Meth K a.cTable "is_free" a.fTableIsFree
  m_Twice : mg "Twice" = some (.ref a.cTwice)
  m_Unfit : mg "Unfit" = some (.ref a.cUnfit)
  r_NoTable : XRaise K a.cNoTable
  h_NoTable_CourtError : PySem.W.exmOne K (.ref a.cNoTable) (.ref a.cCourtError) = some true
  h_NoTable_NoTable : PySem.W.exmOne K (.ref a.cNoTable) (.ref a.cNoTable) = some true
  n_ValueError : mg "ValueError" = none
  n_any : mg "any" = none
  n_bool : mg "bool" = none
  n_enumerate : mg "enumerate" = none
  n_int : mg "int" = none
  n_isinstance : mg "isinstance" = none
  n_len : mg "len" = none
  n_list : mg "list" = none
  n_min : mg "min" = none
  n_range : mg "range" = none
  n_str : mg "str" = none
  n_tuple : mg "tuple" = none
  g_MOST_WEEKDAYS : ∃ t, mg "MOST_WEEKDAYS" = some (.int 6 t)
  g_MOST_YEARLY : ∃ t, mg "MOST_YEARLY" = some (.int 4 t)
  g_MOST_YEARLY_DAYS : ∃ t, mg "MOST_YEARLY_DAYS" = some (.int 30 t)
  g_SHORT_YEAR : ∃ t, mg "SHORT_YEAR" = some (.int 364 t)
  g_LONG_YEAR : ∃ t, mg "LONG_YEAR" = some (.int 371 t)
  g_MOST_ROWS : ∃ t, mg "MOST_ROWS" = some (.int 12 t)
  g_MOST_ROW_DAYS : ∃ t, mg "MOST_ROW_DAYS" = some (.int 40 t)
  g_WORDS : mg "WORDS" = some (.ref a.tWORDS)
  s_WORDS : ∀ H, SqT K H a.tWORDS [.str (Str.ofString "free"), .str (Str.ofString "open")]
theorem boot_ValueError : bootBuiltins "ValueError" = some (.type "ValueError") := by decide +kernel
theorem boot_any : bootBuiltins "any" = some (.builtin "any") := by decide +kernel
theorem boot_bool : bootBuiltins "bool" = some (.type "bool") := by decide +kernel
theorem boot_int : bootBuiltins "int" = some (.type "int") := by decide +kernel
theorem boot_isinstance : bootBuiltins "isinstance" = some (.builtin "isinstance") := by decide +kernel
theorem boot_len : bootBuiltins "len" = some (.builtin "len") := by decide +kernel
theorem boot_list : bootBuiltins "list" = some (.type "list") := by decide +kernel
theorem boot_min : bootBuiltins "min" = some (.builtin "min") := by decide +kernel
theorem boot_str : bootBuiltins "str" = some (.type "str") := by decide +kernel
theorem boot_tuple : bootBuiltins "tuple" = some (.type "tuple") := by decide +kernel
theorem scIsWhole : FnScope ["thing"] ["thing"] (defScope sIsWhole) := ⟨rfl, rfl, rfl, by decide +kernel, rfl, by decide +kernel, by decide +kernel⟩
theorem scLongBefore : FnScope ["year"] ["year"] (defScope sLongBefore) := ⟨rfl, rfl, rfl, by decide +kernel, rfl, by decide +kernel, by decide +kernel⟩
theorem scFirstWeek : FnScope ["year"] ["year"] (defScope sFirstWeek) := ⟨rfl, rfl, rfl, by decide +kernel, rfl, by decide +kernel, by decide +kernel⟩
theorem scYearOf : FnScope ["week"] ["week"] (defScope sYearOf) := ⟨rfl, rfl, rfl, by decide +kernel, rfl, by decide +kernel, by decide +kernel⟩
theorem scWeekday : FnScope ["day"] ["day"] (defScope sWeekday) := ⟨rfl, rfl, rfl, by decide +kernel, rfl, by decide +kernel, by decide +kernel⟩
theorem scDateOf : FnScope ["day", "day_in_week", "week", "year"] ["day"] (defScope sDateOf) := ⟨rfl, rfl, rfl, by decide +kernel, rfl, by decide +kernel, by decide +kernel⟩
theorem scIsStretchOf : FnScope ["first", "last", "most"] ["first", "last", "most"] (defScope sIsStretchOf) := ⟨rfl, rfl, rfl, by decide +kernel, rfl, by decide +kernel, by decide +kernel⟩
theorem scPlace : FnScope ["stretches", "day", "low", "high", "middle"] ["stretches", "day"] (defScope sPlace) := ⟨rfl, rfl, rfl, by decide +kernel, rfl, by decide +kernel, by decide +kernel⟩
theorem scJoined : FnScope ["laid", "told", "first", "last", "word"] ["laid"] (defScope sJoined) := ⟨rfl, rfl, rfl, by decide +kernel, rfl, by decide +kernel, by decide +kernel⟩
theorem scLaidOver : FnScope ["laid", "first", "last", "word", "begin", "end", "told"] ["laid", "first", "last", "word"] (defScope sLaidOver) := ⟨rfl, rfl, rfl, by decide +kernel, rfl, by decide +kernel, by decide +kernel⟩
theorem scOverlay : FnScope ["rows", "laid", "first", "last", "word"] ["rows"] (defScope sOverlay) := ⟨rfl, rfl, rfl, by decide +kernel, rfl, by decide +kernel, by decide +kernel⟩
theorem scDayOfYear : FnScope ["day", "date"] ["day"] (defScope sDayOfYear) := ⟨rfl, rfl, rfl, by decide +kernel, rfl, by decide +kernel, by decide +kernel⟩
theorem scIsFreeWithin : FnScope ["within", "week", "yearly"] ["within", "week", "yearly"] (defScope sIsFreeWithin) := ⟨rfl, rfl, rfl, by decide +kernel, rfl, by decide +kernel, by decide +kernel⟩
theorem scCountedUp : FnScope ["free_days", "counts", "free"] ["free_days"] (defScope sCountedUp) := ⟨rfl, rfl, rfl, by decide +kernel, rfl, by decide +kernel, by decide +kernel⟩
theorem scNoTableInit : FnScope ["self", "part", "at"] ["self", "part", "at"] (defScope sNoTableInit) := ⟨rfl, rfl, rfl, by decide +kernel, rfl, by decide +kernel, by decide +kernel⟩
theorem scIsWeekday : FnScope ["thing"] ["thing"] (defScope sIsWeekday) := ⟨rfl, rfl, rfl, by decide +kernel, rfl, by decide +kernel, by decide +kernel⟩
theorem scRefuseWeek : FnScope ["week", "at", "thing"] ["week"] (defScope sRefuseWeek) := ⟨rfl, rfl, rfl, by decide +kernel, rfl, by decide +kernel, by decide +kernel⟩
theorem scIsYearly : FnScope ["thing"] ["thing"] (defScope sIsYearly) := ⟨rfl, rfl, rfl, by decide +kernel, rfl, by decide +kernel, by decide +kernel⟩
theorem scRefuseYearly : FnScope ["yearly", "at", "thing"] ["yearly"] (defScope sRefuseYearly) := ⟨rfl, rfl, rfl, by decide +kernel, rfl, by decide +kernel, by decide +kernel⟩
theorem scListOrEmpty : FnScope ["things"] ["things"] (defScope sListOrEmpty) := ⟨rfl, rfl, rfl, by decide +kernel, rfl, by decide +kernel, by decide +kernel⟩
theorem scIsRow : FnScope ["row"] ["row"] (defScope sIsRow) := ⟨rfl, rfl, rfl, by decide +kernel, rfl, by decide +kernel, by decide +kernel⟩
theorem scRefuseRows : FnScope ["rows", "at", "row"] ["rows"] (defScope sRefuseRows) := ⟨rfl, rfl, rfl, by decide +kernel, rfl, by decide +kernel, by decide +kernel⟩
theorem scLawCell : FnScope ["_law_script", "_law_k"] ["_law_script", "_law_k"] (defScope sLawCell) := ⟨rfl, rfl, rfl, by decide +kernel, rfl, by decide +kernel, by decide +kernel⟩
theorem scLawWhole : FnScope ["_law_found"] ["_law_found"] (defScope sLawWhole) := ⟨rfl, rfl, rfl, by decide +kernel, rfl, by decide +kernel, by decide +kernel⟩
theorem scLawOdd : FnScope ["_law_cell_here", "_law_other", "_law_odd_here"] ["_law_cell_here", "_law_other"] (defScope sLawOdd) := ⟨rfl, rfl, rfl, by decide +kernel, rfl, by decide +kernel, by decide +kernel⟩
theorem scLawWeek : FnScope ["_law_script", "_law_week_here", "_law_day", "_law_k", "_law_cell_here"] ["_law_script"] (defScope sLawWeek) := ⟨rfl, rfl, rfl, by decide +kernel, rfl, by decide +kernel, by decide +kernel⟩
theorem scLawYearly : FnScope ["_law_script", "_law_yearly_here", "_law_k", "_law_cell_here", "_law_first", "_law_size", "_law_at", "_law_one", "_law_bad"] ["_law_script"] (defScope sLawYearly) := ⟨rfl, rfl, rfl, by decide +kernel, rfl, by decide +kernel, by decide +kernel⟩
theorem scLawRows : FnScope ["_law_script", "_law_rows_here", "_law_k", "_law_cell_here", "_law_first", "_law_size", "_law_at", "_law_one", "_law_bad", "_law_way"] ["_law_script"] (defScope sLawRows) := ⟨rfl, rfl, rfl, by decide +kernel, rfl, by decide +kernel, by decide +kernel⟩
theorem scLawPair : FnScope ["_law_first", "_law_last", "_law_least", "_law_most", "_law_days"] ["_law_first", "_law_last", "_law_least", "_law_most", "_law_days"] (defScope sLawPair) := ⟨rfl, rfl, rfl, by decide +kernel, rfl, by decide +kernel, by decide +kernel⟩
theorem scLawDue : FnScope ["_law_week_here", "_law_yearly_here", "_law_rows_here", "_law_at", "_law_one"] ["_law_week_here", "_law_yearly_here", "_law_rows_here"] (defScope sLawDue) := ⟨rfl, rfl, rfl, by decide +kernel, rfl, by decide +kernel, by decide +kernel⟩
theorem scLawAlone : FnScope ["_law_e", "_law_bad"] ["_law_e"] (defScope sLawAlone) := ⟨rfl, rfl, rfl, by decide +kernel, rfl, by decide +kernel, by decide +kernel⟩
theorem scPatternInit : FnScope ["self", "week", "yearly"] ["self", "week", "yearly"] (defScope sPatternInit) := ⟨rfl, rfl, rfl, by decide +kernel, rfl, by decide +kernel, by decide +kernel⟩
theorem scPatternBeforeYear : FnScope ["self", "year", "in_last_week"] ["self", "year"] (defScope sPatternBeforeYear) := ⟨rfl, rfl, rfl, by decide +kernel, rfl, by decide +kernel, by decide +kernel⟩
theorem scPatternBefore : FnScope ["self", "day", "year"] ["self", "day"] (defScope sPatternBefore) := ⟨rfl, rfl, rfl, by decide +kernel, rfl, by decide +kernel, by decide +kernel⟩
theorem scTableShift : FnScope ["self", "row", "end", "by_pattern", "by_row"] ["self", "row", "end"] (defScope sTableShift) := ⟨rfl, rfl, rfl, by decide +kernel, rfl, by decide +kernel, by decide +kernel⟩
theorem scTableInit : FnScope ["self", "week", "yearly", "rows", "row"] ["self", "week", "yearly", "rows"] (defScope sTableInit) := ⟨rfl, rfl, rfl, by decide +kernel, rfl, by decide +kernel, by decide +kernel⟩
theorem scLawTable : FnScope ["_law_week_here", "_law_yearly_here", "_law_rows_here", "_law_told", "_law_e"] ["_law_week_here", "_law_yearly_here", "_law_rows_here"] (defScope sLawTable) := ⟨rfl, rfl, rfl, by decide +kernel, rfl, by decide +kernel, by decide +kernel⟩
theorem scLawPattern : FnScope ["_law_week_here", "_law_yearly_here", "_law_told", "_law_e"] ["_law_week_here", "_law_yearly_here"] (defScope sLawPattern) := ⟨rfl, rfl, rfl, by decide +kernel, rfl, by decide +kernel, by decide +kernel⟩
theorem scLawSame : FnScope ["_law_told", "_law_due_here"] ["_law_told", "_law_due_here"] (defScope sLawSame) := ⟨rfl, rfl, rfl, by decide +kernel, rfl, by decide +kernel, by decide +kernel⟩
theorem scPatternIsFree : FnScope ["self", "day"] ["self", "day"] (defScope sPatternIsFree) := ⟨rfl, rfl, rfl, by decide +kernel, rfl, by decide +kernel, by decide +kernel⟩
theorem scTableIsFree : FnScope ["self", "day", "at"] ["self", "day"] (defScope sTableIsFree) := ⟨rfl, rfl, rfl, by decide +kernel, rfl, by decide +kernel, by decide +kernel⟩
theorem scLaw : FnScope ["_law_script", "_law_week_here", "_law_yearly_here", "_law_rows_here", "_law_handed", "_law_parts", "_law_turn", "_law_due_here", "_law_at", "_law_table_here"] ["_law_script"] (defScope sLaw) := ⟨rfl, rfl, rfl, by decide +kernel, rfl, by decide +kernel, by decide +kernel⟩

seal PySem.Sem.wp

open Add Lay Mrg Tab Cal
noncomputable abbrev Rw := Row Str
noncomputable def enc (r : Rw) : List V := [.int r.1, .int r.2.1, .str r.2.2]
theorem use {p G R : Prop} (m : (p → G) → R) (l : p → G) : R := m l
theorem useH {p G : Hp → Prop} {R : Prop} (m : (∀ x, p x → G x) → R) (l : ∀ x, p x → G x) : R := m l
theorem use2 {S T : Type} {p G : S → T → Prop} {R : Prop} (m : (∀ x y, p x y → G x y) → R) (l : ∀ x y, p x y → G x y) : R := m l
theorem iteD {c A B : Prop} [Decidable c] (hc : c) (h : A) : if decide c = true then A else B := by rw [if_pos (decide_eq_true hc)]; exact h
theorem iteDn {c A B : Prop} [Decidable c] (hc : ¬ c) (h : B) : if decide c = true then A else B := by rw [decide_eq_false hc]; exact h
theorem iteND {c A B : Prop} [Decidable c] (hc : c) (h : B) : if (!decide c) = true then A else B := by rw [decide_eq_true hc]; exact h
theorem same_upd {H : Hp} {p : Addr} {o : HO} (hp : H p = none) : Same H (upd H p o) := fun b u e => by rw [upd_ne (ne_of_none e hp)]; exact e
theorem fits {n : Nat} (h : n ≤ 100000) : n ≤ sizeLine := by rw [sizeLine_eq]; omega
theorem lt1000 {xs : List V} (h : xs.length ≤ 90000) : xs.length < sizeLine := by rw [sizeLine_eq]; omega
theorem fit0 : ([] : List V).length ≤ sizeLine := fits (by decide)
theorem fit2 (x y : V) : [x, y].length ≤ sizeLine := fits (show 2 ≤ 100000 by decide)
theorem fit3 (x y z : V) : [x, y, z].length ≤ sizeLine := fits (show 3 ≤ 100000 by decide)
noncomputable def spPlace : Sp := fun vs H Q _ => ∃ (p : Addr) (us : List V) (ts : List (List V)) (es : List Int) (d : Int), vs = [.ref p, .int d] ∧ H p = some (.lst us) ∧ Tups H us ts ∧ (∀ (i : Nat) (e : Int), es[i]? = some e → ∃ t : List V, ts[i]? = some t ∧ atI t 1 = some (V.int e)) ∧ ts.length = es.length ∧ es.Pairwise (· < ·) ∧ Q (.int (cnt es d : Nat)) H
theorem enc_ends {rs : List Rw} {i : Nat} {e : Int} (h : (ends rs)[i]? = some e) : ∃ t, (rs.map enc)[i]? = some t ∧ atI t 1 = some (.int e) := by
  rw [List.getElem?_map] at h ⊢
  cases q : rs[i]? with
  | none => rw [q] at h; cases h
  | some r => rw [q] at h; cases h; exact ⟨_, rfl, rfl⟩
/-- a list of rows that lies at p -/
noncomputable def At (H : Hp) (p : Addr) (rs : List Rw) : Prop := ∃ us, H p = some (.lst us) ∧ Tups H us (rs.map enc)
noncomputable def spOver : Sp := fun vs H Q _ => ∃ (p : Addr) (rs : List Rw) (f l : Int) (w : Str), vs = [.ref p, .int f, .int l, .str w] ∧ At H p rs ∧ Dis rs ∧ f ≤ l ∧ rs.length ≤ 1000 ∧ ∀ q H', H q = none → Same H H' → At H' q (over rs f l w) → Q (.ref q) H'
theorem lenI {us : List V} {rs : List Rw} {n : Nat} (lu : us.length = rs.length) (h : n < rs.length) : (n : Int) < (us.length : Int) := Int.ofNat_lt.mpr (lu ▸ h)
theorem sn1 {us : List V} {v : V} (h : us.length ≤ 1000) : (us ++ [v]).length ≤ 1200 := by rw [List.length_append]; exact Nat.le_trans (Nat.add_le_add_right h 1) (by decide)
theorem sn15 {us : List V} {v : V} (h : us.length ≤ 1200) : (us ++ [v]).length ≤ 1500 := by rw [List.length_append]; exact Nat.le_trans (Nat.add_le_add_right h 1) (by decide)
theorem sn2 {us : List V} {v : V} (h : us.length ≤ 1500) : (us ++ [v]).length ≤ 2000 := by rw [List.length_append]; exact Nat.le_trans (Nat.add_le_add_right h 1) (by decide)
theorem tn_lt {a b : Int} (h : a < b) (h0 : 0 < b) : a.toNat < b.toNat := by omega
theorem mid {lo hi : Int} (h0 : 0 ≤ lo) (h : lo < hi) : ∃ j : Nat, (lo + hi) / 2 = (j : Int) ∧ lo ≤ (j : Int) ∧ (j : Int) < hi := ⟨((lo + hi) / 2).toNat, by omega⟩
noncomputable def encG {W : Type} (e : W → V) (r : Row W) : List V := [.int r.1, .int r.2.1, e r.2.2]
noncomputable def AtG {W : Type} (e : W → V) (H : Hp) (p : Addr) (rs : List (Row W)) : Prop := ∃ us, H p = some (.lst us) ∧ Tups H us (rs.map (encG e))
theorem AtG.len {W : Type} {e : W → V} {H : Hp} {rs : List (Row W)} {us : List V} (t : Tups H us (rs.map (encG e))) : us.length = rs.length := by rw [t.length, List.length_map]
theorem AtG.row {W : Type} {e : W → V} {H : Hp} {rs : List (Row W)} {us : List V} (t : Tups H us (rs.map (encG e))) {i : Nat} {r : Row W} (h : rs[i]? = some r) : ∃ a, us[i]? = some (.ref a) ∧ H a = some (.tup (encG e r)) := t.get (by rw [List.getElem?_map, h]; rfl)
theorem map_getG {W : Type} {e : W → V} {rs : List (Row W)} {i : Nat} {t : List V} (h : (rs.map (encG e))[i]? = some t) : ∃ r, rs[i]? = some r ∧ t = encG e r := by
  rw [List.getElem?_map] at h
  cases q : rs[i]? with
  | none => rw [q] at h; cases h
  | some r => rw [q] at h; cases h; exact ⟨r, rfl, rfl⟩
noncomputable def spJoin : Sp := fun vs H Q _ => ∃ (W : Type) (dq : DecidableEq W) (e : W → V) (p : Addr) (rs : List (Row W)), vs = [.ref p] ∧ (∀ x y, e x = e y → x = y) ∧ (∀ x y, scal (e x) (e y) = true) ∧ AtG e H p rs ∧ rs.length ≤ 1000 ∧ ∀ q H', H q = none → Same H H' → AtG e H' q (jn rs) → Q (.ref q) H'
noncomputable def spOv : Sp := fun vs H Q _ => ∃ (p : Addr) (rs : List Rw), vs = [.ref p] ∧ At H p rs ∧ (∀ r ∈ rs, r.1 ≤ r.2.1) ∧ rs.length ≤ 100 ∧ ∀ q H', H q = none → Same H H' → At H' q (ov rs) → Q (.ref q) H'
theorem atI_of {vs : List V} {k : Int} {j : Nat} {v : V} (h : vs[j]? = some v) (e : k = (j : Int)) : atI vs k = some v := by rw [e]; exact atI_nat h
theorem cut_take (vs : List V) (b : Nat) (h : b ≤ vs.length) : cutV vs none (some (b : Int)) = vs.take b := by
  unfold cutV
  have e1 : HT.sIx vs.length 0 none = 0 := rfl
  have e2 : HT.sIx vs.length vs.length (some (b : Int)) = b := by
    simp only [HT.sIx]
    split <;> omega
  rw [e1, e2]
  simp
theorem cut_drop (vs : List V) (b : Nat) (h : b ≤ vs.length) : cutV vs (some (b : Int)) none = vs.drop b := by
  unfold cutV
  have e1 : HT.sIx vs.length vs.length none = vs.length := rfl
  have e2 : HT.sIx vs.length 0 (some (b : Int)) = b := by
    simp only [HT.sIx]
    split <;> omega
  rw [e1, e2]
  rw [List.take_of_length_le (by rw [List.length_drop]; omega)]
theorem cnt_mono {es : List Int} {a b : Int} (h : a ≤ b) : cnt es a ≤ cnt es b := by
  induction es with
  | nil => exact Nat.le_refl _
  | cons e es ih => rw [cnt_cons, cnt_cons]; split <;> split <;> omega
theorem over_len {rs : List Rw} {f l : Int} (w : Str) (h : Dis rs) (hf : f ≤ l) : (over rs f l w).length ≤ rs.length + 3 := by
  have h1 : (left rs f).length ≤ cnt (ends rs) f + 1 := by
    rw [left_code f h, List.length_append, List.length_take]
    cases rs[cnt (ends rs) f]? with
    | none => exact Nat.le_succ_of_le (Nat.min_le_left _ _)
    | some r =>
      show min _ _ + (if r.1 < f then [(r.1, f - 1, r.2.2)] else ([] : List (Row Str))).length ≤ _
      split
      · exact Nat.succ_le_succ (Nat.min_le_left _ _)
      · exact Nat.le_succ_of_le (Nat.min_le_left _ _)
  have h2 : (right rs l).length ≤ rs.length - cnt (ends rs) (l + 1) + 1 := by
    rw [right_code l h]
    cases rs[cnt (ends rs) (l + 1)]? with
    | none => exact Nat.zero_le _
    | some r =>
      show (if r.1 ≤ l then ((l + 1, r.2.1, r.2.2) : Rw) :: rs.drop (cnt (ends rs) (l + 1) + 1) else rs.drop (cnt (ends rs) (l + 1))).length ≤ _
      split
      · rw [List.length_cons, List.length_drop]; exact Nat.succ_le_succ (Nat.sub_le_sub_left (Nat.le_succ _) _)
      · rw [List.length_drop]; exact Nat.le_succ _
  have h3 := cnt_mono (es := ends rs) (Int.le_add_one hf)
  have h4 := cnt_le (ends rs) (l + 1)
  rw [List.length_map] at h4
  unfold over
  rw [List.length_append, List.length_cons]
  omega
theorem lay_len {rs : List Rw} (h : ∀ r ∈ rs, r.1 ≤ r.2.1) : (lay rs).length ≤ 3 * rs.length := by
  have step : ∀ (ss laid : List Rw), (∀ r ∈ ss, r.1 ≤ r.2.1) → Dis laid → (ss.foldl (fun laid r => over laid r.1 r.2.1 r.2.2) laid).length ≤ laid.length + 3 * ss.length := by
    intro ss
    induction ss with
    | nil => intro laid _ _; exact Nat.le_refl _
    | cons r ss ih =>
      intro laid h0 h1
      have hr := h0 r List.mem_cons_self
      have := ih (over laid r.1 r.2.1 r.2.2) (fun s hs => h0 s (List.mem_cons_of_mem _ hs)) (over_dis _ h1 hr)
      have := over_len r.2.2 h1 hr
      rw [List.foldl_cons, List.length_cons]
      omega
  have := step rs [] h ⟨(fun _ h => absurd h List.not_mem_nil), List.Pairwise.nil⟩
  simpa [lay] using this
theorem jn1_len {W : Type} [DecidableEq W] (told : List (Row W)) (r : Row W) : (jn1 told r).length ≤ told.length + 1 := by
  rcases List.eq_nil_or_concat told with rfl | ⟨rs, t, rfl⟩
  · exact Nat.le_refl _
  · rw [List.concat_eq_append, jn1_snoc]
    split <;> simp
theorem jn_len {W : Type} [DecidableEq W] (rs : List (Row W)) : (jn rs).length ≤ rs.length := by
  have step : ∀ (ss told : List (Row W)), (ss.foldl jn1 told).length ≤ told.length + ss.length := by
    intro ss
    induction ss with
    | nil => intro told; exact Nat.le_refl _
    | cons r ss ih =>
      intro told
      have := ih (jn1 told r)
      have := jn1_len told r
      rw [List.foldl_cons, List.length_cons]
      omega
  have := step rs []
  simpa [jn] using this
theorem jn_snoc {W : Type} [DecidableEq W] (rs : List (Row W)) (r : Row W) : jn (rs ++ [r]) = jn1 (jn rs) r := by unfold jn; rw [List.foldl_append]; rfl
theorem take_snoc {α : Type} {xs : List α} {i : Nat} {x : α} (h : xs[i]? = some x) : xs.take (i + 1) = xs.take i ++ [x] := by rw [List.take_add_one, h]; rfl
theorem map_get {rs : List Rw} {i : Nat} {t : List V} (h : (rs.map enc)[i]? = some t) : ∃ r, rs[i]? = some r ∧ t = enc r := by
  rw [List.getElem?_map] at h
  cases q : rs[i]? with
  | none => rw [q] at h; cases h
  | some r => rw [q] at h; cases h; exact ⟨r, rfl, rfl⟩
theorem At.len {H : Hp} {rs : List Rw} {us : List V} (t : Tups H us (rs.map enc)) : us.length = rs.length := by rw [t.length, List.length_map]
theorem At.row {H : Hp} {rs : List Rw} {us : List V} (t : Tups H us (rs.map enc)) {i : Nat} {r : Rw} (h : rs[i]? = some r) : ∃ a, us[i]? = some (.ref a) ∧ H a = some (.tup (enc r)) := t.get (by rw [List.getElem?_map, h]; rfl)
theorem lay_take {rs : List Rw} (h : ∀ r ∈ rs, r.1 ≤ r.2.1) (i : Nat) : ∀ r ∈ rs.take i, r.1 ≤ r.2.1 := fun r hr => h r (List.mem_of_mem_take hr)
theorem set_last (us : List V) (x v : V) : (us ++ [x]).set us.length v = us ++ [v] := by simp
theorem ix_last (us : List V) (x : V) : ixN (us ++ [x]).length (-1) = some us.length := by
  unfold ixN
  rw [List.length_append, List.length_singleton, if_neg (by decide), if_pos (by omega)]
  congr 1
  omega
noncomputable def sp1 (g : Int → V) : Sp := fun vs H Q _ => ∃ y : Int, vs = [.int y] ∧ Q (g y) H
noncomputable def spWeekday : Sp := fun vs H Q _ => ∃ n : Int, vs = [.int n] ∧ 0 ≤ n ∧ Q (.int (n % 7 + 1)) H
noncomputable def spDateOf : Sp := fun vs H Q _ => ∃ n : Int, vs = [.int n] ∧ 0 ≤ n ∧ ∀ p, H p = none → Q (.ref p) (upd H p (.tup [.int (yo (n / 7)), .int (n / 7 - fw (yo (n / 7)) + 1), .int (n % 7 + 1)]))

noncomputable def doy (n : Int) : Int := n - 7 * fw (yo (n / 7))
theorem doy_in {n : Int} (h : 0 ≤ n) : 0 ≤ doy n ∧ doy n < 371 := by
  have h1 := lies (n / 7)
  have h2 := fw_next (yo (n / 7))
  have h3 := wk_in (yo (n / 7))
  unfold doy
  omega
noncomputable def spDoy : Sp := fun vs H Q _ => ∃ n : Int, vs = [.int n] ∧ 0 ≤ n ∧ ∀ H', Same H H' → Q (.int (doy n)) H'
noncomputable def AtP (H : Hp) (p : Addr) (rs : List S2) : Prop := ∃ us, H p = some (.lst us) ∧ Tups H us (rs.map encP)
theorem AtP.same {H H' : Hp} {p : Addr} {rs : List S2} (h : AtP H p rs) (s : Same H H') : AtP H' p rs := by
  obtain ⟨us, h1, h2⟩ := h
  exact ⟨us, s _ _ h1, h2.same s⟩
noncomputable def OkR (r : Rw) : Prop := 0 ≤ r.1 ∧ r.1 ≤ r.2.1 ∧ r.2.1 < r.1 + 40 ∧ (r.2.2 = Str.ofString "free" ∨ r.2.2 = Str.ofString "open")
noncomputable def spFyw : Sp := fun vs H Q _ => ∃ (i : Int) (pw py : Addr) (wk : List Int) (yr : List S2), vs = [.int i, .ref pw, .ref py] ∧ H pw = some (.lst (wk.map V.int)) ∧ AtP H py yr ∧ yr.length ≤ 100 ∧ ∀ H', Same H H' → Q (.bl (fy wk yr i)) H'
noncomputable def spCu : Sp := fun vs H Q _ => ∃ (p : Addr) (bs : List Bool), vs = [.ref p] ∧ H p = some (.lst (bs.map V.bl)) ∧ bs.length ≤ 1000 ∧ ∀ q H', H q = none → Same H H' → H' q = some (.lst ((cuL bs).map V.int)) → Q (.ref q) H'
theorem map_getP {rs : List S2} {i : Nat} {t : List V} (h : (rs.map encP)[i]? = some t) : ∃ r, rs[i]? = some r ∧ t = encP r := by
  rw [List.getElem?_map] at h
  cases q : rs[i]? with
  | none => rw [q] at h; cases h
  | some r => rw [q] at h; cases h; exact ⟨r, rfl, rfl⟩
/-- what a pattern's object holds -/
noncomputable abbrev pfs (a1 a2 a3 : Addr) : List (Str × V) := [(Str.ofString "free_days", .ref a1), (Str.ofString "open_days", .ref a2), (Str.ofString "open_before", .ref a3)]
theorem put1 (f : Str) (u : V) : putF f u [] = [(f, u)] := rfl
theorem put2 {f g : Str} (u v : V) (h : f ≠ g) : putF g v [(f, u)] = [(f, u), (g, v)] := by unfold putF; rw [if_neg h]; rfl
theorem put3 {f g e : Str} (u v x : V) (h : f ≠ e) (h2 : g ≠ e) : putF e x [(f, u), (g, v)] = [(f, u), (g, v), (e, x)] := by
  show (if f = e then _ else (f, u) :: (if g = e then _ else (g, v) :: putF e x [])) = _
  rw [if_neg h, if_neg h2]; rfl
noncomputable def PatAt (C : Addr) (H : Hp) (p : Addr) (bs : List Bool) : Prop := ∃ (dx a1 a2 a3 : Addr), H p = some (.ins C dx (pfs a1 a2 a3)) ∧ H a1 = some (.lst (bs.map V.bl)) ∧ H a2 = some (.lst ((odL bs).map V.int)) ∧ H a3 = some (.lst ((cuL bs).map V.int)) ∧ bs.length = 371
theorem PatAt.same {C : Addr} {H H' : Hp} {p : Addr} {bs : List Bool} (h : PatAt C H p bs) (s : Same H H') : PatAt C H' p bs := by
  obtain ⟨dx, a1, a2, a3, h1, h5, h6, h7, h8⟩ := h
  exact ⟨dx, a1, a2, a3, s _ _ h1, s _ _ h5, s _ _ h6, s _ _ h7, h8⟩
theorem PatAt.upd {C : Addr} {H : Hp} {p d a1 a2 a3 z : Addr} {bs : List Bool} {o : HO} (h1 : H p = some (.ins C d (pfs a1 a2 a3))) (h2 : H a1 = some (.lst (bs.map V.bl))) (h3 : H a2 = some (.lst ((odL bs).map V.int))) (h4 : H a3 = some (.lst ((cuL bs).map V.int))) (n0 : p ≠ z) (n1 : a1 ≠ z) (n2 : a2 ≠ z) (n3 : a3 ≠ z) :
    L2.upd H z o p = some (.ins C d (pfs a1 a2 a3)) ∧ L2.upd H z o a1 = some (.lst (bs.map V.bl)) ∧ L2.upd H z o a2 = some (.lst ((odL bs).map V.int)) ∧ L2.upd H z o a3 = some (.lst ((cuL bs).map V.int)) :=
  ⟨(upd_ne n0).trans h1, (upd_ne n1).trans h2, (upd_ne n2).trans h3, (upd_ne n3).trans h4⟩
/-- all but x stays -/
noncomputable def SameBut (x : Addr) (H H' : Hp) : Prop := ∀ b o, b ≠ x → H b = some o → H' b = some o
theorem SameBut.of {x : Addr} {H H' : Hp} (s : Same H H') : SameBut x H H' := fun b o _ e => s b o e
theorem SameBut.trans {x : Addr} {H H1 H2 : Hp} (a : SameBut x H H1) (b : SameBut x H1 H2) : SameBut x H H2 := fun c o n e => b c o n (a c o n e)
theorem SameBut.set {x : Addr} {H H' : Hp} {o : HO} (a : SameBut x H H') : SameBut x H (upd H' x o) := fun b u n e => by rw [upd_ne n]; exact a b u n e
theorem SameBut.made {x dx : Addr} {H H' : Hp} {o u : HO} (a : SameBut x (upd (upd H dx u) x o) H') (hx : H x = none) (hd : H dx = none) : Same H H' := fun b v e =>
  a b v (ne_of_none e hx) (by rw [upd_ne (ne_of_none e hx), upd_ne (ne_of_none e hd)]; exact e)
noncomputable def spPFree (a : Adr) : Sp := fun vs H Q _ => ∃ (x : Addr) (bs : List Bool) (n : Int), vs = [.ref x, .int n] ∧ PatAt a.cPattern H x bs ∧ 0 ≤ n ∧ ∀ H', Same H H' → Q (.bl (bs.getD (doy n).toNat true)) H'
noncomputable def pby (bs : List Bool) (y : Int) : Int := y * opn bs 364 + lb y * (opn bs 371 - opn bs 364)
noncomputable def pbef (bs : List Bool) (n : Int) : Int := pby bs (yo (n / 7)) + opn bs (doy n).toNat
noncomputable def spPBy (a : Adr) : Sp := fun vs H Q _ => ∃ (x : Addr) (bs : List Bool) (y : Int), vs = [.ref x, .int y] ∧ PatAt a.cPattern H x bs ∧ Q (.int (pby bs y)) H
noncomputable def spPBef (a : Adr) : Sp := fun vs H Q _ => ∃ (x : Addr) (bs : List Bool) (n : Int), vs = [.ref x, .int n] ∧ PatAt a.cPattern H x bs ∧ 0 ≤ n ∧ ∀ H', Same H H' → Q (.int (pbef bs n)) H'
noncomputable def spOr : Sp := fun vs H Q _ => (vs = [.non] ∧ ∀ q, H q = none → Q (.ref q) (upd H q (.lst []))) ∨ ∃ p, vs = [.ref p] ∧ Q (.ref p) H
/-- how many more open days a row makes -/
noncomputable def shf (bs : List Bool) (r : Rw) (e : Int) : Int := (if r.2.2 = Str.ofString "open" then e - r.1 else 0) - (pbef bs e - pbef bs r.1)
noncomputable def shL (bs : List Bool) (rs : List Rw) : List Int := (List.range (rs.length + 1)).map fun k => ((rs.take k).map fun r => shf bs r (r.2.1 + 1)).sum
/-- what a table's object holds: bs by the pattern, rs the rows laid over one another -/
noncomputable abbrev tfs (p q z : Addr) : List (Str × V) := [(Str.ofString "pattern", .ref p), (Str.ofString "rows", .ref q), (Str.ofString "shifts", .ref z)]
noncomputable def TabAt (Cp C : Addr) (H : Hp) (t : Addr) (bs : List Bool) (rs : List Rw) : Prop := ∃ (dx p q z : Addr), H t = some (.ins C dx (tfs p q z)) ∧ PatAt Cp H p bs ∧ At H q rs ∧ H z = some (.lst ((shL bs rs).map V.int))
theorem over_nn {rs : List Rw} {f l : Int} {w : Str} (h : ∀ r ∈ rs, 0 ≤ r.1) (hf : 0 ≤ f) : ∀ r ∈ over rs f l w, 0 ≤ r.1 := fun r hr => by
  rcases List.mem_append.mp hr with hr | hr
  · obtain ⟨s, hs, e⟩ := List.mem_filterMap.mp hr
    have := h s hs
    split at e
    · injection e with e; subst e; exact this
    · cases e
  · rcases List.mem_cons.mp hr with rfl | hr
    · exact hf
    · obtain ⟨s, hs, e⟩ := List.mem_filterMap.mp hr
      have := h s hs
      split at e
      · injection e with e; subst e; show 0 ≤ max s.1 (l + 1); omega
      · cases e
theorem lay_nn {rs : List Rw} (h : ∀ r ∈ rs, 0 ≤ r.1) : ∀ r ∈ lay rs, 0 ≤ r.1 := by
  have step : ∀ (ss laid : List Rw), (∀ r ∈ ss, 0 ≤ r.1) → (∀ r ∈ laid, 0 ≤ r.1) → ∀ r ∈ ss.foldl (fun laid r => over laid r.1 r.2.1 r.2.2) laid, 0 ≤ r.1 := by
    intro ss
    induction ss with
    | nil => intro laid _ h1; exact h1
    | cons r ss ih => intro laid h0 h1; exact ih _ (fun s hs => h0 s (List.mem_cons_of_mem _ hs)) (over_nn h1 (h0 r List.mem_cons_self))
  exact step rs [] h fun _ h => absurd h List.not_mem_nil
theorem jn_nn {rs : List Rw} (h : ∀ r ∈ rs, 0 ≤ r.1) : ∀ r ∈ jn rs, 0 ≤ r.1 := by
  have one : ∀ (told : List Rw) (r : Rw), (∀ t ∈ told, 0 ≤ t.1) → 0 ≤ r.1 → ∀ t ∈ jn1 told r, 0 ≤ t.1 := fun told r h1 h2 => by
    rcases List.eq_nil_or_concat told with rfl | ⟨rs, t, rfl⟩
    · intro z hz
      have : z = r := by simpa [jn1] using hz
      rw [this]; exact h2
    · rw [List.concat_eq_append] at h1 ⊢
      rw [jn1_snoc]
      intro z hz
      split at hz
      · rcases List.mem_append.mp hz with hz | hz
        · exact h1 z (List.mem_append_left _ hz)
        · rw [List.mem_singleton.mp hz]; exact h1 t (by simp)
      · rcases List.mem_append.mp hz with hz | hz
        · exact h1 z hz
        · rw [List.mem_singleton.mp hz]; exact h2
  have step : ∀ (ss told : List Rw), (∀ r ∈ ss, 0 ≤ r.1) → (∀ r ∈ told, 0 ≤ r.1) → ∀ r ∈ ss.foldl jn1 told, 0 ≤ r.1 := by
    intro ss
    induction ss with
    | nil => intro told _ h1; exact h1
    | cons r ss ih => intro told h0 h1; exact ih _ (fun s hs => h0 s (List.mem_cons_of_mem _ hs)) (one _ _ h1 (h0 r List.mem_cons_self))
  exact step rs [] h fun _ h => absurd h List.not_mem_nil
theorem ov_nn {rs : List Rw} (h : ∀ r ∈ rs, 0 ≤ r.1) : ∀ r ∈ ov rs, 0 ≤ r.1 := jn_nn (lay_nn h)
/-- tuples stay where all but an object stays -/
theorem tups_but {H H' : Hp} {x C dx : Addr} {fs : List (Str × V)} {us : List V} {ts : List (List V)} (b : SameBut x H H') (hx : H x = some (.ins C dx fs)) (t : Tups H us ts) : Tups H' us ts := by
  induction t with
  | nil => exact .nil
  | cons h _ ih => exact .cons (b _ _ (fun z => by rw [z, hx] at h; cases h) h) ih
noncomputable def spShift (a : Adr) : Sp := fun vs H Q _ => ∃ (x p q z y dx : Addr) (bs : List Bool) (r : Rw) (e : Int), vs = [.ref x, .ref y, .int e] ∧ H x = some (.ins a.cTable dx (tfs p q z)) ∧ PatAt a.cPattern H p bs ∧ H y = some (.tup (enc r)) ∧ 0 ≤ r.1 ∧ 0 ≤ e ∧
  ∀ H', Same H H' → Q (.int (shf bs r e)) H'
/-- free by the table -/
noncomputable def tfr (bs : List Bool) (rs : List Rw) (n : Int) : Bool := match rs[cnt (ends rs) n]? with
  | some r => if r.1 ≤ n then decide (r.2.2 = Str.ofString "free") else bs.getD (doy n).toNat true
  | none => bs.getD (doy n).toNat true
noncomputable def spTFree (a : Adr) : Sp := fun vs H Q _ => ∃ (x : Addr) (bs : List Bool) (rs : List Rw) (n : Int), vs = [.ref x, .int n] ∧ TabAt a.cPattern a.cTable H x bs rs ∧ Ap rs ∧ 0 ≤ n ∧ ∀ H', Same H H' → Q (.bl (tfr bs rs n)) H'

theorem opB {bs : List Bool} (hl : bs.length = 371) : -(2 ^ 64) < opn bs 364 ∧ opn bs 364 < 2 ^ 64 := by have := opn_le bs 364; omega
theorem opD {bs : List Bool} (hl : bs.length = 371) : -(2 ^ 64) < opn bs 371 - opn bs 364 ∧ opn bs 371 - opn bs 364 < 2 ^ 64 := by have := opn_le bs 364; have := opn_le bs 371; omega

noncomputable def cell (ns : List Int) (k : Int) : Int := ns.getD k.toNat 0
theorem atI_cell {ns : List Int} {k : Int} (h0 : 0 ≤ k) (h : k < ((ns.map V.int).length : Int)) : atI (ns.map V.int) k = some (V.int (cell ns k)) := by
  rw [List.length_map] at h
  have hk : k.toNat < ns.length := (Int.toNat_lt h0).mpr h
  refine atI_of (j := k.toNat) ?_ (Int.toNat_of_nonneg h0).symm
  rw [List.getElem?_map, List.getElem?_eq_getElem hk]
  unfold cell
  rw [List.getD_eq_getElem?_getD, List.getElem?_eq_getElem hk]
  rfl
theorem cell_out {ns : List Int} {k : Int} (h : ¬ k < ((ns.map V.int).length : Int)) : cell ns k = 0 := by
  rw [List.length_map] at h
  unfold cell
  rw [List.getD_eq_getElem?_getD, List.getElem?_eq_none (Int.ofNat_le.mp (Int.le_trans (Int.not_lt.mp h) (Int.self_le_toNat k)))]
  rfl
noncomputable def spCell (K : PySem.W.Frag) : Sp := fun vs H Q _ => ∃ (a : Addr) (ns : List Int) (k : Int), vs = [.ref a, .int k] ∧ SqL K H a (ns.map V.int) ∧ 0 ≤ k ∧ Q (.int (cell ns k)) H
theorem cl {K : PySem.W.Frag} {H : Hp} {vs : List V} {a : Addr} {ns : List Int} {k : Int} {P : List Int → Int → Prop} (e : vs = [.ref a, .int k]) (s : SqL K H a (ns.map V.int)) (h : 0 ≤ k) (q : P ns k) : ∃ a' ns' k', vs = [.ref a', .int k'] ∧ SqL K H a' (List.map V.int ns') ∧ 0 ≤ k' ∧ P ns' k' := ⟨a, ns, k, e, s, h, q⟩
theorem iteNN {c A B : Prop} [Decidable c] (hc : ¬ c) (h : A) : if (!decide c) = true then A else B := by rw [decide_eq_false hc]; exact h
theorem rb {n : Nat} (h : n ≤ 1000) : -2 ^ 62 ≤ (n : Int) ∧ (n : Int) < 2 ^ 62 := by omega
theorem useF {p G : Int → Prop} {R : Prop} (m : (∀ F, p F → G F) → R) (l : ∀ F, p F → G F) : R := m l
theorem rmod (c : Int) {m : Int} (h : 0 < m) (h' : m ≤ 1000) : -2 ^ 62 ≤ c % m ∧ c % m < 2 ^ 62 := by
  have := Int.emod_nonneg c (Int.ne_of_gt h)
  have := Int.emod_lt_of_pos c h
  omega
theorem nn2 (i : Nat) {k : Int} (h : 0 ≤ k) : 0 ≤ k + (0 + (i : Int)) := by omega
theorem atW (k : Int) : ∃ w : Str, atI [V.str (Str.ofString "free"), V.str (Str.ofString "open")] (k % 2) = some (V.str w) ∧ (w = Str.ofString "free" ∨ w = Str.ofString "open") := by
  rcases (by omega : k % 2 = 0 ∨ k % 2 = 1) with e | e <;> rw [e]
  · exact ⟨_, rfl, .inl rfl⟩
  · exact ⟨_, rfl, .inr rfl⟩

noncomputable def spLaw (K : PySem.W.Frag) : Sp := fun vs H Q _ => ∃ (a : Addr) (ns : List Int), vs = [.ref a] ∧ SqL K H a (ns.map V.int) ∧ ns.length ≤ 63 ∧ ∀ H', Q (.bl true) H'
theorem inV_strs (x : Str) (xs : List Str) : inV (.str x) (xs.map V.str) = xs.contains x := by
  unfold inV
  rw [List.any_map, List.contains_eq_any_beq]
  congr 1
  funext y
  show (y == x) = (x == y)
  rw [Bool.eq_iff_iff, beq_iff_eq, beq_iff_eq]
  exact eq_comm
noncomputable def wh : V → Bool
  | .int _ => true
  | _ => false
noncomputable def spWh : Sp := fun vs H Q _ => ∃ v : V, vs = [v] ∧ Odd H v ∧ Q (.bl (wh v)) H
theorem wh_int {v : V} (h : wh v = true) : ∃ i : Int, v = .int i := by
  cases v <;> first | exact ⟨_, rfl⟩ | cases h
noncomputable def WdG (v : V) : Prop := ∃ n : Int, v = .int n ∧ 1 ≤ n ∧ n ≤ 7
noncomputable def StG (x y : V) (m : Int) : Prop := ∃ f l : Int, x = .int f ∧ y = .int l ∧ 0 ≤ f ∧ f ≤ l ∧ l < f + m
noncomputable def YrG (x y : V) : Prop := ∃ f l : Int, x = .int f ∧ y = .int l ∧ 0 ≤ f ∧ f ≤ l ∧ l < f + 30 ∧ l < 364
noncomputable def RwG (x y z : V) : Prop := StG x y 40 ∧ (z = .str (Str.ofString "free") ∨ z = .str (Str.ofString "open"))
noncomputable def spWd7 : Sp := fun vs H Q _ => ∃ v : V, vs = [v] ∧ Odd H v ∧ (WdG v → Q (.bl true) H) ∧ (¬ WdG v → Q (.bl false) H)
noncomputable def spStr7 : Sp := fun vs H Q _ => ∃ (x y : V) (m : Int), vs = [x, y, .int m] ∧ Odd H x ∧ Odd H y ∧ (StG x y m → Q (.bl true) H) ∧ (¬ StG x y m → Q (.bl false) H)
noncomputable def spYr7 : Sp := fun vs H Q _ => ∃ (p : Addr) (x y : V), vs = [.ref p] ∧ H p = some (.tup [x, y]) ∧ Odd H x ∧ Odd H y ∧ (YrG x y → Q (.bl true) H) ∧ (¬ YrG x y → Q (.bl false) H)
noncomputable def spRw7 : Sp := fun vs H Q _ => ∃ (p : Addr) (x y z : V), vs = [.ref p] ∧ H p = some (.tup [x, y, z]) ∧ Odd H x ∧ Odd H y ∧ Odd H z ∧ (RwG x y z → Q (.bl true) H) ∧ (¬ RwG x y z → Q (.bl false) H)
/-! the first bad place -/
noncomputable def gW (ws : List V) (i : Nat) : Prop := i < 6 ∧ ∃ v, ws[i]? = some v ∧ WdG v ∧ v ∉ ws.take i
noncomputable def gY (ys : List (List V)) (i : Nat) : Prop := i < 4 ∧ ∃ x y, ys[i]? = some [x, y] ∧ YrG x y
noncomputable def gR (rs : List (List V)) (i : Nat) : Prop := i < 12 ∧ ∃ x y z, rs[i]? = some [x, y, z] ∧ RwG x y z
noncomputable def Fst (g : Nat → Prop) (n : Nat) : Option Nat → Prop
  | none => ∀ i < n, g i
  | some i => i < n ∧ ¬ g i ∧ ∀ j < i, g j
theorem Fst.det {g : Nat → Prop} {n : Nat} : ∀ {o o' : Option Nat}, Fst g n o → Fst g n o' → o = o'
  | none, none, _, _ => rfl
  | none, some i, h, h' => absurd (h i h'.1) h'.2.1
  | some i, none, h, h' => absurd (h' i h.1) h.2.1
  | some i, some j, h, h' => by
    rcases Nat.lt_trichotomy i j with z | z | z
    · exact absurd (h'.2.2 i z) h.2.1
    · rw [z]
    · exact absurd (h.2.2 j z) h'.2.1
theorem Fst.ex (g : Nat → Prop) : ∀ n, ∃ o, Fst g n o
  | 0 => ⟨none, fun i hi => absurd hi (Nat.not_lt_zero _)⟩
  | n + 1 => by
    obtain ⟨o, h⟩ := Fst.ex g n
    cases o with
    | some i => exact ⟨some i, Nat.lt_succ_of_lt h.1, h.2⟩
    | none =>
      by_cases c : g n
      · exact ⟨none, fun i hi => by
          by_cases z : i = n
          · rw [z]; exact c
          · exact h i (by omega)⟩
      · exact ⟨some n, Nat.lt_succ_self n, c, h⟩
inductive Due (ws : List V) (ys rs : List (List V)) : Option (Str × Nat) → Prop where
  | week (i : Nat) (h : Fst (gW ws) ws.length (some i)) : Due ws ys rs (some (Str.ofString "week", i))
  | yearly (i : Nat) (h0 : Fst (gW ws) ws.length none) (h : Fst (gY ys) ys.length (some i)) : Due ws ys rs (some (Str.ofString "yearly", i))
  | rows (i : Nat) (h0 : Fst (gW ws) ws.length none) (h1 : Fst (gY ys) ys.length none) (h : Fst (gR rs) rs.length (some i)) : Due ws ys rs (some (Str.ofString "rows", i))
  | good (h0 : Fst (gW ws) ws.length none) (h1 : Fst (gY ys) ys.length none) (h : Fst (gR rs) rs.length none) : Due ws ys rs none
theorem Due.det {ws : List V} {ys rs : List (List V)} {o o' : Option (Str × Nat)} (a : Due ws ys rs o) (b : Due ws ys rs o') : o = o' := by
  cases a with
  | week i h =>
    cases b with
    | week j h' => cases h.det h'; rfl
    | yearly j h' _ => cases h.det h'
    | rows j h' _ _ => cases h.det h'
    | good h' _ _ => cases h.det h'
  | yearly i h0 h =>
    cases b with
    | week j h' => cases h0.det h'
    | yearly j _ h' => cases h.det h'; rfl
    | rows j _ h' _ => cases h.det h'
    | good _ h' _ => cases h.det h'
  | rows i h0 h1 h =>
    cases b with
    | week j h' => cases h0.det h'
    | yearly j _ h' => cases h1.det h'
    | rows j _ _ h' => cases h.det h'; rfl
    | good _ _ h' => cases h.det h'
  | good h0 h1 h =>
    cases b with
    | week j h' => cases h0.det h'
    | yearly j _ h' => cases h1.det h'
    | rows j _ _ h' => cases h.det h'
    | good _ _ _ => rfl
theorem Due.ex (ws : List V) (ys rs : List (List V)) : ∃ o, Due ws ys rs o := by
  obtain ⟨o1, h1⟩ := Fst.ex (gW ws) ws.length
  cases o1 with
  | some i => exact ⟨_, .week i h1⟩
  | none =>
    obtain ⟨o2, h2⟩ := Fst.ex (gY ys) ys.length
    cases o2 with
    | some i => exact ⟨_, .yearly i h1 h2⟩
    | none =>
      obtain ⟨o3, h3⟩ := Fst.ex (gR rs) rs.length
      cases o3 with
      | some i => exact ⟨_, .rows i h1 h2 h3⟩
      | none => exact ⟨_, .good h1 h2 h3⟩
/-- tuples of n things of any kind -/
structure OT (n : Nat) (H : Hp) (us : List V) (ts : List (List V)) : Prop where
  tu : Tups H us ts
  ln : ∀ t ∈ ts, t.length = n
  od : ∀ t ∈ ts, ∀ v ∈ t, Odd H v
theorem OT.same {n : Nat} {H H' : Hp} {us : List V} {ts : List (List V)} (h : OT n H us ts) (s : Same H H') : OT n H' us ts := ⟨h.tu.same s, h.ln, fun t ht v hv => (h.od t ht v hv).same s⟩
theorem OT.len {n : Nat} {H : Hp} {us : List V} {ts : List (List V)} (h : OT n H us ts) : us.length = ts.length := h.tu.length
theorem OT.two {H : Hp} {us : List V} {ts : List (List V)} (h : OT 2 H us ts) {i : Nat} {v : V} (e : us[i]? = some v) : ∃ (p : Addr) (x y : V), v = .ref p ∧ ts[i]? = some [x, y] ∧ H p = some (.tup [x, y]) ∧ Odd H x ∧ Odd H y := by
  obtain ⟨p, t, rfl, h1, h2⟩ := h.tu.get' e
  have hm := List.mem_of_getElem? h1
  have l := h.ln t hm
  match t, l with
  | [x, y], _ => exact ⟨p, x, y, rfl, h1, h2, h.od _ hm x (by simp), h.od _ hm y (by simp)⟩
theorem OT.three {H : Hp} {us : List V} {ts : List (List V)} (h : OT 3 H us ts) {i : Nat} {v : V} (e : us[i]? = some v) : ∃ (p : Addr) (x y z : V), v = .ref p ∧ ts[i]? = some [x, y, z] ∧ H p = some (.tup [x, y, z]) ∧ Odd H x ∧ Odd H y ∧ Odd H z := by
  obtain ⟨p, t, rfl, h1, h2⟩ := h.tu.get' e
  have hm := List.mem_of_getElem? h1
  have l := h.ln t hm
  match t, l with
  | [x, y, z], _ => exact ⟨p, x, y, z, rfl, h1, h2, h.od _ hm x (by simp), h.od _ hm y (by simp), h.od _ hm z (by simp)⟩
/-- a NoTable is let out -/
noncomputable def OutT (a : Adr) (part : Str) (i : Nat) (H : Hp) (E : XK) : Prop := ∀ (x d : Addr) (H' : Hp), Same H H' → H' x = some (exO x a.cNoTable (some d) false) → H' d = some (exD d [("part", .str part), ("at", .int (i : Int))]) → E (.ref x) (some d) H'
theorem OutT.same {a : Adr} {part : Str} {i : Nat} {H H' : Hp} {E : XK} (o : OutT a part i H E) (s : Same H H') : OutT a part i H' E := fun x d H2 z => o x d H2 (s.trans z)
/-- the same, where all but y stays -/
noncomputable def OutB (a : Adr) (y : Addr) (part : Str) (i : Nat) (H : Hp) (E : XK) : Prop := ∀ (x d : Addr) (H' : Hp), SameBut y H H' → H' x = some (exO x a.cNoTable (some d) false) → H' d = some (exD d [("part", .str part), ("at", .int (i : Int))]) → E (.ref x) (some d) H'
theorem OutB.t {a : Adr} {y : Addr} {part : Str} {i : Nat} {H H' : Hp} {E : XK} (o : OutB a y part i H E) (b : SameBut y H H') : OutT a part i H' E := fun x d H2 z => o x d H2 (b.trans (SameBut.of z))
theorem keep_same {H H' : Hp} {x : Addr} {o0 : HO} (hx : H x = none) (keep : ∀ b o, b ≠ x → upd H x o0 b = some o → H' b = some o) : Same H H' := fun b o e => keep b o (ne_of_none e hx) (by rw [upd_ne (ne_of_none e hx)]; exact e)
theorem ints_of {ws : List V} {i : Nat} (h : ∀ j < i, gW ws j) : ∃ wk : List Int, ws.take i = wk.map V.int ∧ OkW wk ∧ wk.length = i := by
  induction i with
  | zero => exact ⟨[], by rw [List.take_zero]; rfl, ⟨by decide, .nil, fun _ h => absurd h List.not_mem_nil⟩, rfl⟩
  | succ i ih =>
    obtain ⟨wk, e, ok, hl⟩ := ih fun j hj => h j (Nat.lt_succ_of_lt hj)
    obtain ⟨i6, v, hv, ⟨n, rfl, n1, n7⟩, nm⟩ := h i (Nat.lt_succ_self i)
    refine ⟨wk ++ [n], by rw [take_snoc hv, e, List.map_append]; rfl, ⟨by rw [List.length_append, hl]; exact i6, ?_, fun x hx => ?_⟩, by rw [List.length_append, hl]; rfl⟩
    · rw [List.nodup_append]
      refine ⟨ok.nd, List.nodup_cons.mpr ⟨List.not_mem_nil, .nil⟩, fun a ha b hb z => nm ?_⟩
      rw [e, ← List.mem_singleton.mp hb, ← z]
      exact List.mem_map.mpr ⟨a, ha, rfl⟩
    · rcases List.mem_append.mp hx with z | z
      · exact ok.rng x z
      · rw [List.mem_singleton.mp z]; exact ⟨n1, n7⟩
theorem wk_of {ws : List V} (h : Fst (gW ws) ws.length none) : ∃ wk : List Int, ws = wk.map V.int ∧ OkW wk := by
  obtain ⟨wk, e, ok, _⟩ := ints_of (ws := ws) (i := ws.length) h
  rw [List.take_length] at e
  exact ⟨wk, e, ok⟩
theorem yr_of {ys : List (List V)} (h : Fst (gY ys) ys.length none) : ∃ yr : List S2, ys = yr.map encP ∧ OkY yr := by
  have w : ∀ i, i ≤ ys.length → ∃ yr : List S2, ys.take i = yr.map encP ∧ OkY yr ∧ yr.length = i := by
    intro i
    induction i with
    | zero => exact fun _ => ⟨[], by rw [List.take_zero]; rfl, ⟨by decide, fun _ h => absurd h List.not_mem_nil⟩, rfl⟩
    | succ i ih =>
      intro hi
      obtain ⟨yr, e, ok, hl⟩ := ih (by omega)
      obtain ⟨i4, x, y, hv, ⟨f, l, rfl, rfl, g⟩⟩ := h i (by omega)
      refine ⟨yr ++ [(f, l)], by rw [take_snoc hv, e, List.map_append]; rfl, ⟨by rw [List.length_append, hl]; exact i4, fun r hr => ?_⟩, by rw [List.length_append, hl]; rfl⟩
      rcases List.mem_append.mp hr with z | z
      · exact ok.rng r z
      · rw [List.mem_singleton.mp z]; exact g
  obtain ⟨yr, e, ok, _⟩ := w _ (Nat.le_refl _)
  rw [List.take_length] at e
  exact ⟨yr, e, ok⟩
theorem rs_of {rs : List (List V)} (h : Fst (gR rs) rs.length none) : ∃ ro : List Rw, rs = ro.map enc ∧ ro.length ≤ 12 ∧ ∀ r ∈ ro, OkR r := by
  have w : ∀ i, i ≤ rs.length → ∃ ro : List Rw, rs.take i = ro.map enc ∧ (∀ r ∈ ro, OkR r) ∧ ro.length = i ∧ i ≤ 12 := by
    intro i
    induction i with
    | zero => exact fun _ => ⟨[], by rw [List.take_zero]; rfl, fun _ h => absurd h List.not_mem_nil, rfl, by decide⟩
    | succ i ih =>
      intro hi
      obtain ⟨ro, e, ok, hl, _⟩ := ih (by omega)
      obtain ⟨i4, x, y, z, hv, ⟨f, l, rfl, rfl, g1, g2, g3⟩, g4⟩ := h i (by omega)
      have fin : ∀ w : Str, z = .str w → (w = Str.ofString "free" ∨ w = Str.ofString "open") → ∃ ro : List Rw, rs.take (i + 1) = ro.map enc ∧ (∀ r ∈ ro, OkR r) ∧ ro.length = i + 1 ∧ i + 1 ≤ 12 := fun w ew hw => by
        subst ew
        refine ⟨ro ++ [(f, l, w)], by rw [take_snoc hv, e, List.map_append]; rfl, fun r hr => ?_, by rw [List.length_append, hl]; rfl, i4⟩
        rcases List.mem_append.mp hr with q | q
        · exact ok r q
        · rw [List.mem_singleton.mp q]; exact ⟨g1, g2, g3, hw⟩
      rcases g4 with q | q
      · exact fin _ q (.inl rfl)
      · exact fin _ q (.inr rfl)
  obtain ⟨ro, e, ok, hl, h12⟩ := w _ (Nat.le_refl _)
  rw [List.take_length] at e
  exact ⟨ro, e, hl ▸ h12, ok⟩
noncomputable def spRefW7 (a : Adr) : Sp := fun vs H Q E => ∃ (p : Addr) (ws : List V), vs = [.ref p] ∧ H p = some (.lst ws) ∧ (∀ v ∈ ws, Odd H v) ∧ (Fst (gW ws) ws.length none → ∀ H', Same H H' → Q .non H') ∧ ∀ i, Fst (gW ws) ws.length (some i) → OutT a (Str.ofString "week") i H E
noncomputable def spRefY7 (a : Adr) : Sp := fun vs H Q E => ∃ (p : Addr) (us : List V) (ys : List (List V)), vs = [.ref p] ∧ H p = some (.lst us) ∧ OT 2 H us ys ∧ (Fst (gY ys) ys.length none → ∀ H', Same H H' → Q .non H') ∧ ∀ i, Fst (gY ys) ys.length (some i) → OutT a (Str.ofString "yearly") i H E
noncomputable def spRefR7 (a : Adr) : Sp := fun vs H Q E => ∃ (p : Addr) (us : List V) (rs : List (List V)), vs = [.ref p] ∧ H p = some (.lst us) ∧ OT 3 H us rs ∧ (Fst (gR rs) rs.length none → ∀ H', Same H H' → Q .non H') ∧ ∀ i, Fst (gR rs) rs.length (some i) → OutT a (Str.ofString "rows") i H E
noncomputable def spPInit7 (a : Adr) : Sp := fun vs H Q E => ∃ (x dx pw py : Addr) (ws uy : List V) (ys : List (List V)), vs = [.ref x, .ref pw, .ref py] ∧ H x = some (.ins a.cPattern dx []) ∧ H pw = some (.lst ws) ∧ (∀ v ∈ ws, Odd H v) ∧ H py = some (.lst uy) ∧ OT 2 H uy ys ∧
  (Fst (gW ws) ws.length none → Fst (gY ys) ys.length none → ∀ H' bs, SameBut x H H' → PatAt a.cPattern H' x bs → Q .non H') ∧ ∀ p i, Due ws ys [] (some (p, i)) → OutT a p i H E
noncomputable def spTInit7 (a : Adr) : Sp := fun vs H Q E => ∃ (x dx pw py pr : Addr) (ws uy ur : List V) (ys rs : List (List V)), vs = [.ref x, .ref pw, .ref py, .ref pr] ∧ H x = some (.ins a.cTable dx []) ∧ H pw = some (.lst ws) ∧ (∀ v ∈ ws, Odd H v) ∧ H py = some (.lst uy) ∧ OT 2 H uy ys ∧ H pr = some (.lst ur) ∧ OT 3 H ur rs ∧
  (Due ws ys rs none → ∀ H' bs ro, SameBut x H H' → TabAt a.cPattern a.cTable H' x bs ro → Ap ro → Q .non H') ∧ ∀ p i, Due ws ys rs (some (p, i)) → OutB a x p i H E
noncomputable def spI2 (K : PySem.W.Frag) : Sp := fun vs H Q _ => ∃ (x C : Addr) (y z : V) (ini : Option Value), vs = [.ref x, y, z] ∧ H x = some (exO x C none true) ∧ XA K C ini ∧ PySem.W.findIn K (.ref C) "part" = some none ∧ PySem.W.findIn K (.ref C) "at" = some none ∧
  ∀ (dx : Addr) (H' : Hp), H dx = none → (∀ b o, b ≠ x → H b = some o → H' b = some o) → H' x = some (exO x C (some dx) true) → H' dx = some (exD dx [("part", y), ("at", z)]) → Q .non H'

noncomputable def spWhH (_ : Addr) : Sp := fun vs H Q _ => ∃ i : Int, vs = [.int i] ∧ Q (.bl true) H
noncomputable def spAlH (a : Adr) (x : Addr) : Sp := fun vs H Q _ => ∃ (d : Addr) (p : Str) (i : Int), vs = [.ref x] ∧ H x = some (exO x a.cNoTable (some d) false) ∧ H d = some (exD d [("part", .str p), ("at", .int i)]) ∧ ∀ H', Same H H' → Q (.bl true) H'
noncomputable def Told (H : Hp) : Option (Str × Nat) → V → Prop
  | none, v => v = .non
  | some (p, i), v => ∃ b, v = .ref b ∧ H b = some (.tup [.str p, .int (i : Int), .bl true])
noncomputable def Duv (H : Hp) : Option (Str × Nat) → V → Prop
  | none, v => v = .non
  | some (p, i), v => ∃ b, v = .ref b ∧ H b = some (.tup [.str p, .int (i : Int)])
theorem Told.same {H H' : Hp} {o : Option (Str × Nat)} {v : V} (h : Told H o v) (s : Same H H') : Told H' o v := by
  rcases o with _ | ⟨p, i⟩
  · exact h
  · obtain ⟨b, e, h⟩ := h; exact ⟨b, e, s _ _ h⟩
noncomputable def spTb : Sp := fun vs H Q _ => ∃ (pw py pr : Addr) (ws uy ur : List V) (ys rs : List (List V)) (o : Option (Str × Nat)), vs = [.ref pw, .ref py, .ref pr] ∧ H pw = some (.lst ws) ∧ (∀ v ∈ ws, Odd H v) ∧ H py = some (.lst uy) ∧ OT 2 H uy ys ∧ H pr = some (.lst ur) ∧ OT 3 H ur rs ∧ Due ws ys rs o ∧ ∀ t H', Same H H' → Told H' o t → Q t H'
noncomputable def spPt : Sp := fun vs H Q _ => ∃ (pw py : Addr) (ws uy : List V) (ys : List (List V)) (o : Option (Str × Nat)), vs = [.ref pw, .ref py] ∧ H pw = some (.lst ws) ∧ (∀ v ∈ ws, Odd H v) ∧ H py = some (.lst uy) ∧ OT 2 H uy ys ∧ Due ws ys [] o ∧ ∀ t H', Same H H' → Told H' o t → Q t H'
noncomputable def spDue : Sp := fun vs H Q _ => ∃ (pw py pr : Addr) (ws uy ur : List V) (ys rs : List (List V)) (o : Option (Str × Nat)), vs = [.ref pw, .ref py, .ref pr] ∧ H pw = some (.lst ws) ∧ (∀ v ∈ ws, Odd H v) ∧ H py = some (.lst uy) ∧ OT 2 H uy ys ∧ H pr = some (.lst ur) ∧ OT 3 H ur rs ∧ ws.length ≤ 100 ∧ uy.length ≤ 100 ∧ ur.length ≤ 100 ∧ Due ws ys rs o ∧ ∀ t H', Same H H' → Duv H' o t → Q t H'
noncomputable def spSm : Sp := fun vs H Q _ => ∃ (t d : V) (o : Option (Str × Nat)), vs = [t, d] ∧ Told H o t ∧ Duv H o d ∧ ∀ H', Same H H' → Q (.bl true) H'
noncomputable def encI : Option Int → V
  | none => .non
  | some m => .int m
noncomputable def PrG (x y : V) (lo : Int) (mo : Option Int) (d : Int) : Prop := ∃ f l : Int, x = .int f ∧ y = .int l ∧ lo ≤ f ∧ (∀ m, mo = some m → l ≤ m) ∧ f ≤ l ∧ l - f < d
noncomputable def spPr : Sp := fun vs H Q _ => ∃ (x y : V) (lo : Int) (mo : Option Int) (d : Int), vs = [x, y, .int lo, encI mo, .int d] ∧ Odd H x ∧ Odd H y ∧ (PrG x y lo mo d → Q (.bl true) H) ∧ (¬ PrG x y lo mo d → Q (.bl false) H)
noncomputable def spOd7 : Sp := fun vs H Q _ => ∃ c o : Int, vs = [.int c, .int o] ∧ ∀ v H', Same H H' → Odd H' v → Q v H'
noncomputable def spWk7 (K : PySem.W.Frag) : Sp := fun vs H Q _ => ∃ (a : Addr) (ns : List Int), vs = [.ref a] ∧ SqL K H a (ns.map V.int) ∧ ∀ (q : Addr) (H' : Hp) (ws : List V), H q = none → Same H H' → H' q = some (.lst ws) → (∀ v ∈ ws, Odd H' v) → ws.length ≤ 100 → Q (.ref q) H'
noncomputable def spTs7 (n : Nat) (K : PySem.W.Frag) : Sp := fun vs H Q _ => ∃ (a : Addr) (ns : List Int), vs = [.ref a] ∧ SqL K H a (ns.map V.int) ∧ ∀ (q : Addr) (H' : Hp) (us : List V) (ts : List (List V)), H q = none → Same H H' → H' q = some (.lst us) → OT n H' us ts → us.length ≤ 100 → Q (.ref q) H'
theorem hcl_true {K : PySem.W.Frag} {c : Value} {suite rest : TH} {D : Ends} {σ : L2.St} {x C : Addr} {od : Option Addr} {H : Hp} (e : PySem.W.exmOne K (.ref C) c = some true) (h : suite D σ x C od H) : hCl K c suite rest D σ x C od H := by
  unfold hCl; rw [e]; exact h
theorem at_mem {xs : List V} {k : Int} (h0 : 0 ≤ k) (h1 : k < (xs.length : Int)) : ∃ v ∈ xs, atI xs k = some v := by
  have hk : k.toNat < xs.length := by omega
  exact ⟨xs[k.toNat], List.getElem_mem hk, atI_of (j := k.toNat) (List.getElem?_eq_getElem hk) (by omega)⟩
theorem pickI (L : List Int) {k : Int} (h0 : 0 ≤ k) (h1 : k < (L.length : Int)) : ∃ m : Int, atI (L.map V.int) k = some (.int m) := by
  obtain ⟨v, hv, e⟩ := at_mem (xs := L.map V.int) h0 (by rw [List.length_map]; exact h1)
  obtain ⟨m, _, rfl⟩ := List.mem_map.mp hv
  exact ⟨m, e⟩
theorem _root_.Add.Odd.upd {H : Hp} {v : V} {p : Addr} {xs ys : List V} (o : Odd H v) (e : H p = some (.lst xs)) : Odd (upd H p (.lst ys)) v := by
  cases o with
  | non => exact .non
  | bl b => exact .bl b
  | int i => exact .int i
  | str x => exact .str x
  | @lst q zs h =>
    by_cases c : q = p
    · exact .lst (p := q) (xs := ys) (by rw [c]; exact upd_same)
    · exact .lst (by rw [upd_ne c]; exact h)
theorem OT.upd {n : Nat} {H : Hp} {us : List V} {ts : List (List V)} {p : Addr} {xs ys : List V} (h : OT n H us ts) (e : H p = some (.lst xs)) : OT n (L2.upd H p (.lst ys)) us ts := ⟨h.tu.upd e, h.ln, fun t ht v hv => (h.od t ht v hv).upd e⟩
theorem OT.take {n : Nat} {H : Hp} {us : List V} {ts : List (List V)} (h : OT n H us ts) (k : Nat) : OT n H (us.take k) (ts.take k) := by
  refine ⟨?_, fun t ht => h.ln t (List.mem_of_mem_take ht), fun t ht => h.od t (List.mem_of_mem_take ht)⟩
  have w : ∀ {us : List V} {ts : List (List V)}, Tups H us ts → ∀ k, Tups H (us.take k) (ts.take k) := by
    intro us ts t
    induction t with
    | nil => intro k; rw [List.take_nil, List.take_nil]; exact .nil
    | cons h _ ih =>
      intro k
      cases k with
      | zero => exact .nil
      | succ k => exact .cons h (ih k)
  exact w h.tu k
theorem OT.set {n : Nat} {H : Hp} {us : List V} {ts : List (List V)} (h : OT n H us ts) (j : Nat) {p : Addr} {t : List V} (e : H p = some (.tup t)) (l : t.length = n) (o : ∀ v ∈ t, Odd H v) : OT n H (us.set j (.ref p)) (ts.set j t) := by
  refine ⟨?_, fun t' ht => ?_, fun t' ht => ?_⟩
  · have w : ∀ {us : List V} {ts : List (List V)}, Tups H us ts → ∀ j, Tups H (us.set j (.ref p)) (ts.set j t) := by
      intro us ts t
      induction t with
      | nil => intro k; exact .nil
      | cons h t ih =>
        intro k
        cases k with
        | zero => exact .cons e t
        | succ k => exact .cons h (ih k)
    exact w h.tu j
  · rcases List.mem_or_eq_of_mem_set ht with z | z
    · exact h.ln t' z
    · rw [z]; exact l
  · rcases List.mem_or_eq_of_mem_set ht with z | z
    · exact h.od t' z
    · rw [z]; exact o
theorem all3 {H : Hp} {x y z : V} (a : Odd H x) (b : Odd H y) (c : Odd H z) : ∀ v ∈ [x, y, z], Odd H v := fun v hv => by
  rcases List.mem_cons.mp hv with rfl | hv
  · exact a
  · rcases List.mem_cons.mp hv with rfl | hv
    · exact b
    · rw [List.mem_singleton.mp hv]; exact c
theorem all2 {H : Hp} {x y : V} (a : Odd H x) (b : Odd H y) : ∀ v ∈ [x, y], Odd H v := fun v hv => by
  rcases List.mem_cons.mp hv with rfl | hv
  · exact a
  · rw [List.mem_singleton.mp hv]; exact b
theorem ixm {n : Nat} {c : Int} (h : 1 ≤ n) : ∃ j : Nat, c % (n : Int) = (j : Int) ∧ j < n ∧ ixN n (c % (n : Int)) = some j := by
  have z0 := Int.emod_nonneg c (show ((n : Nat) : Int) ≠ 0 by omega)
  have z1 := Int.emod_lt_of_pos c (show (0 : Int) < (n : Nat) by omega)
  refine ⟨(c % (n : Int)).toNat, by omega, by omega, ?_⟩
  unfold ixN
  rw [if_pos z0, if_pos (by omega)]
theorem gY_pr {ys : List (List V)} {i : Nat} {x y : V} (e : ys[i]? = some [x, y]) : gY ys i ↔ i < 4 ∧ PrG x y 0 (some 363) 30 := by
  constructor
  · rintro ⟨h4, x', y', e', f, l, e1, e2, h0, h1, h2, h3⟩
    rw [e] at e'; cases e'
    exact ⟨h4, f, l, e1, e2, h0, fun m em => by cases em; omega, h1, by omega⟩
  · rintro ⟨h4, f, l, e1, e2, h0, h3, h1, h2⟩
    exact ⟨h4, x, y, e, f, l, e1, e2, h0, h1, by omega, by have := h3 363 rfl; omega⟩
theorem gR_pr {rs : List (List V)} {i : Nat} {x y z : V} (e : rs[i]? = some [x, y, z]) : gR rs i ↔ i < 12 ∧ PrG x y 0 none 40 ∧ (z = .str (Str.ofString "free") ∨ z = .str (Str.ofString "open")) := by
  constructor
  · rintro ⟨h4, x', y', z', e', ⟨f, l, e1, e2, h0, h1, h2⟩, h3⟩
    rw [e] at e'; cases e'
    exact ⟨h4, ⟨f, l, e1, e2, h0, (fun m em => nomatch em), h1, by omega⟩, h3⟩
  · rintro ⟨h4, ⟨f, l, e1, e2, h0, _, h1, h2⟩, h3⟩
    exact ⟨h4, x, y, z, e, ⟨f, l, e1, e2, h0, h1, by omega⟩, h3⟩

theorem OT.snoc {n : Nat} {H : Hp} {us : List V} {ts : List (List V)} (h : OT n H us ts) {p : Addr} {t : List V} (e : H p = some (.tup t)) (l : t.length = n) (o : ∀ v ∈ t, Odd H v) : OT n H (us ++ [.ref p]) (ts ++ [t]) :=
  ⟨h.tu.snoc e, fun t' ht => by
    rcases List.mem_append.mp ht with z | z
    · exact h.ln t' z
    · rw [List.mem_singleton.mp z]; exact l, fun t' ht => by
    rcases List.mem_append.mp ht with z | z
    · exact h.od t' z
    · rw [List.mem_singleton.mp z]; exact o⟩
theorem OT.nil (n : Nat) (H : Hp) : OT n H [] [] := ⟨.nil, fun _ h => absurd h List.not_mem_nil, fun _ h => absurd h List.not_mem_nil⟩
theorem pick4 (k : Int) {H : Hp} {t1 t2 t3 t4 : Addr} {x1 x2 x3 x4 y1 y2 y3 y4 : V} (h1 : H t1 = some (.tup [x1, y1])) (h2 : H t2 = some (.tup [x2, y2])) (h3 : H t3 = some (.tup [x3, y3])) (h4 : H t4 = some (.tup [x4, y4])) (o1 : Odd H x1) (o2 : Odd H x2) (o3 : Odd H x3) (o4 : Odd H x4) (p1 : Odd H y1) (p2 : Odd H y2) (p3 : Odd H y3) (p4 : Odd H y4) :
    ∃ (t : Addr) (x y : V), atI [V.ref t1, V.ref t2, V.ref t3, V.ref t4] (k % 4) = some (.ref t) ∧ H t = some (.tup [x, y]) ∧ Odd H x ∧ Odd H y := by
  rcases (by omega : k % 4 = 0 ∨ k % 4 = 1 ∨ k % 4 = 2 ∨ k % 4 = 3) with e | e | e | e <;> rw [e]
  · exact ⟨_, _, _, rfl, h1, o1, p1⟩
  · exact ⟨_, _, _, rfl, h2, o2, p2⟩
  · exact ⟨_, _, _, rfl, h3, o3, p3⟩
  · exact ⟨_, _, _, rfl, h4, o4, p4⟩

structure Tri (H : Hp) (pw py pr : Addr) (ws uy ur : List V) (ys rs : List (List V)) : Prop where
  hw : H pw = some (.lst ws)
  ow : ∀ v ∈ ws, Odd H v
  hy : H py = some (.lst uy)
  oy : OT 2 H uy ys
  hr : H pr = some (.lst ur)
  oz : OT 3 H ur rs
  lw : ws.length ≤ 100
  ly : uy.length ≤ 100
  lr : ur.length ≤ 100
theorem Tri.same {H H' : Hp} {pw py pr : Addr} {ws uy ur : List V} {ys rs : List (List V)} (t : Tri H pw py pr ws uy ur ys rs) (s : Same H H') : Tri H' pw py pr ws uy ur ys rs :=
  ⟨s _ _ t.hw, fun v hv => (t.ow v hv).same s, s _ _ t.hy, t.oy.same s, s _ _ t.hr, t.oz.same s, t.lw, t.ly, t.lr⟩
structure Pts (H : Hp) (pp pw py pr : Addr) (ws uy ur : List V) (ys rs : List (List V)) : Prop where
  hp : H pp = some (.lst [.ref pw, .ref py, .ref pr])
  nw : pw ≠ pp
  ny : py ≠ pp
  nr : pr ≠ pp
  tr : Tri H pw py pr ws uy ur ys rs
theorem Pts.same {H H' : Hp} {pp pw py pr : Addr} {ws uy ur : List V} {ys rs : List (List V)} (t : Pts H pp pw py pr ws uy ur ys rs) (s : Same H H') : Pts H' pp pw py pr ws uy ur ys rs := ⟨s _ _ t.hp, t.nw, t.ny, t.nr, t.tr.same s⟩
theorem Pts.over {H : Hp} {pp pw py pr qw qy qr : Addr} {ws uy ur : List V} {ys rs : List (List V)} (t : Pts H pp pw py pr ws uy ur ys rs) (nw : qw ≠ pp) (ny : qy ≠ pp) (nr : qr ≠ pp) {ws' uy' ur' : List V} {ys' rs' : List (List V)} (g : Tri H qw qy qr ws' uy' ur' ys' rs') : Pts (upd H pp (.lst [.ref qw, .ref qy, .ref qr])) pp qw qy qr ws' uy' ur' ys' rs' :=
  ⟨upd_same, nw, ny, nr, ⟨(upd_ne nw).trans g.hw, fun v hv => (g.ow v hv).upd t.hp, (upd_ne ny).trans g.hy, g.oy.upd t.hp, (upd_ne nr).trans g.hr, g.oz.upd t.hp, g.lw, g.ly, g.lr⟩⟩
noncomputable def Bd (ws : List V) (ys rs : List (List V)) (m : Nat) : Prop := ∃ o1 o2 o3, Fst (gW ws) ws.length o1 ∧ Fst (gY ys) ys.length o2 ∧ Fst (gR rs) rs.length o3 ∧ o1.toList.length + o2.toList.length + o3.toList.length ≤ m
theorem optl (o : Option Nat) : o.toList.length ≤ 1 := by cases o <;> simp
theorem Bd.any (ws : List V) (ys rs : List (List V)) : Bd ws ys rs 3 := by
  obtain ⟨o1, h1⟩ := Fst.ex (gW ws) ws.length
  obtain ⟨o2, h2⟩ := Fst.ex (gY ys) ys.length
  obtain ⟨o3, h3⟩ := Fst.ex (gR rs) rs.length
  have := optl o1; have := optl o2; have := optl o3
  exact ⟨o1, o2, o3, h1, h2, h3, by omega⟩
theorem fst_cutW {ws : List V} {i : Nat} (h : Fst (gW ws) ws.length (some i)) : Fst (gW (ws.take i)) (ws.take i).length none := fun j hj => by
  rw [List.length_take] at hj
  obtain ⟨h6, v, hv, g, nm⟩ := h.2.2 j (by omega)
  refine ⟨h6, v, by rw [List.getElem?_take_of_lt (by omega)]; exact hv, g, ?_⟩
  rw [List.take_take, Nat.min_eq_left (by omega)]; exact nm
theorem fst_cutY {ys : List (List V)} {i : Nat} (h : Fst (gY ys) ys.length (some i)) : Fst (gY (ys.take i)) (ys.take i).length none := fun j hj => by
  rw [List.length_take] at hj
  obtain ⟨h6, x, y, hv, g⟩ := h.2.2 j (by omega)
  exact ⟨h6, x, y, by rw [List.getElem?_take_of_lt (by omega)]; exact hv, g⟩
theorem fst_cutR {rs : List (List V)} {i : Nat} (h : Fst (gR rs) rs.length (some i)) : Fst (gR (rs.take i)) (rs.take i).length none := fun j hj => by
  rw [List.length_take] at hj
  obtain ⟨h6, x, y, z, hv, g⟩ := h.2.2 j (by omega)
  exact ⟨h6, x, y, z, by rw [List.getElem?_take_of_lt (by omega)]; exact hv, g⟩
theorem Bd.w {ws : List V} {ys rs : List (List V)} {m i : Nat} (b : Bd ws ys rs (m + 1)) (h : Fst (gW ws) ws.length (some i)) : Bd (ws.take i) ys rs m := by
  obtain ⟨o1, o2, o3, h1, h2, h3, le⟩ := b
  cases h1.det h
  exact ⟨none, o2, o3, fst_cutW h, h2, h3, by have e : (some i).toList.length = 1 := rfl; have e' : (none : Option Nat).toList.length = 0 := rfl; omega⟩
theorem Bd.y {ws : List V} {ys rs : List (List V)} {m i : Nat} (b : Bd ws ys rs (m + 1)) (h : Fst (gY ys) ys.length (some i)) : Bd ws (ys.take i) rs m := by
  obtain ⟨o1, o2, o3, h1, h2, h3, le⟩ := b
  cases h2.det h
  exact ⟨o1, none, o3, h1, fst_cutY h, h3, by have e : (some i).toList.length = 1 := rfl; have e' : (none : Option Nat).toList.length = 0 := rfl; omega⟩
theorem Bd.r {ws : List V} {ys rs : List (List V)} {m i : Nat} (b : Bd ws ys rs (m + 1)) (h : Fst (gR rs) rs.length (some i)) : Bd ws ys (rs.take i) m := by
  obtain ⟨o1, o2, o3, h1, h2, h3, le⟩ := b
  cases h3.det h
  exact ⟨o1, o2, none, h1, h2, fst_cutR h, by have e : (some i).toList.length = 1 := rfl; have e' : (none : Option Nat).toList.length = 0 := rfl; omega⟩
theorem Bd.fin {ws : List V} {ys rs : List (List V)} (b : Bd ws ys rs 0) : Due ws ys rs none := by
  obtain ⟨o1, o2, o3, h1, h2, h3, le⟩ := b
  rcases o1 with _ | i
  · rcases o2 with _ | i
    · rcases o3 with _ | i
      · exact .good h1 h2 h3
      · have e : (some i).toList.length = 1 := rfl; omega
    · have e : (some i).toList.length = 1 := rfl; omega
  · have e : (some i).toList.length = 1 := rfl; omega
theorem Bd.of {ws : List V} {ys rs : List (List V)} (h1 : Fst (gW ws) ws.length none) (h2 : Fst (gY ys) ys.length none) (h3 : Fst (gR rs) rs.length none) (m : Nat) : Bd ws ys rs m := ⟨_, _, _, h1, h2, h3, Nat.zero_le _⟩
theorem odd_cp {H : Hp} {ws : List V} (o : ∀ v ∈ ws, Odd H v) : ws.all cpV = true := List.all_eq_true.mpr fun v hv => by
  have := o v hv
  cases this <;> rfl
theorem tups_cp {H : Hp} {us : List V} {ts : List (List V)} (t : Tups H us ts) : us.all cpV = true := by
  induction t with
  | nil => rfl
  | cons _ _ ih => rw [List.all_cons, ih]; rfl

theorem spWh_elim {vs : List V} {H : Hp} {Q : VK} {E : XK} {P : List V → Prop} (h : spWh vs H Q E) (mm' : ∀ (v : V), (Odd H v) → (Q (.bl (wh v)) H) → P [v]) : P vs := by
  obtain ⟨v, rfl, c0', c1'⟩ := h
  exact mm' v c0' c1'
theorem sp1_elim {g : Int → V} {vs : List V} {H : Hp} {Q : VK} {E : XK} {P : List V → Prop} (h : sp1 g vs H Q E) (mm' : ∀ (y : Int), (Q (g y) H) → P [.int y]) : P vs := by
  obtain ⟨y, rfl, c0'⟩ := h
  exact mm' y c0'
theorem spWeekday_elim {vs : List V} {H : Hp} {Q : VK} {E : XK} {P : List V → Prop} (h : spWeekday vs H Q E) (mm' : ∀ (n : Int), (0 ≤ n) → (Q (.int (n % 7 + 1)) H) → P [.int n]) : P vs := by
  obtain ⟨n, rfl, c0', c1'⟩ := h
  exact mm' n c0' c1'
theorem spDateOf_elim {vs : List V} {H : Hp} {Q : VK} {E : XK} {P : List V → Prop} (h : spDateOf vs H Q E) (mm' : ∀ (n : Int), (0 ≤ n) → (∀ p, H p = none → Q (.ref p) (upd H p (.tup [.int (yo (n / 7)), .int (n / 7 - fw (yo (n / 7)) + 1), .int (n % 7 + 1)]))) → P [.int n]) : P vs := by
  obtain ⟨n, rfl, c0', c1'⟩ := h
  exact mm' n c0' c1'
theorem spStr7_elim {vs : List V} {H : Hp} {Q : VK} {E : XK} {P : List V → Prop} (h : spStr7 vs H Q E) (mm' : ∀ (x y : V) (m : Int), (Odd H x) → (Odd H y) → ((StG x y m → Q (.bl true) H)) → ((¬ StG x y m → Q (.bl false) H)) → P [x, y, .int m]) : P vs := by
  obtain ⟨x, y, m, rfl, c0', c1', c2', c3'⟩ := h
  exact mm' x y m c0' c1' c2' c3'
theorem spPlace_elim {vs : List V} {H : Hp} {Q : VK} {E : XK} {P : List V → Prop} (h : spPlace vs H Q E) (mm' : ∀ (p : Addr) (us : List V) (ts : List (List V)) (es : List Int) (d : Int), (H p = some (.lst us)) → (Tups H us ts) → ((∀ (i : Nat) (e : Int), es[i]? = some e → ∃ t : List V, ts[i]? = some t ∧ atI t 1 = some (V.int e))) → (ts.length = es.length) → (es.Pairwise (· < ·)) → (Q (.int (cnt es d : Nat)) H) → P [.ref p, .int d]) : P vs := by
  obtain ⟨p, us, ts, es, d, rfl, c0', c1', c2', c3', c4', c5'⟩ := h
  exact mm' p us ts es d c0' c1' c2' c3' c4' c5'
theorem spJoin_elim {vs : List V} {H : Hp} {Q : VK} {E : XK} {P : List V → Prop} (h : spJoin vs H Q E) (mm' : ∀ (W : Type) (dq : DecidableEq W) (e : W → V) (p : Addr) (rs : List (Row W)), ((∀ x y, e x = e y → x = y)) → ((∀ x y, scal (e x) (e y) = true)) → ∀ us, H p = some (.lst us) → Tups H us (rs.map (encG e)) → (rs.length ≤ 1000) → (∀ q H', H q = none → Same H H' → AtG e H' q (jn rs) → Q (.ref q) H') → P [.ref p]) : P vs := by
  obtain ⟨W, dq, e, p, rs, rfl, c0', c1', ⟨u2', d2', e2'⟩, c3', c4'⟩ := h
  exact mm' W dq e p rs c0' c1' u2' d2' e2' c3' c4'
theorem spOver_elim {vs : List V} {H : Hp} {Q : VK} {E : XK} {P : List V → Prop} (h : spOver vs H Q E) (mm' : ∀ (p : Addr) (rs : List Rw) (f l : Int) (w : Str), ∀ us, H p = some (.lst us) → Tups H us (rs.map enc) → (Dis rs) → (f ≤ l) → (rs.length ≤ 1000) → (∀ q H', H q = none → Same H H' → At H' q (over rs f l w) → Q (.ref q) H') → P [.ref p, .int f, .int l, .str w]) : P vs := by
  obtain ⟨p, rs, f, l, w, rfl, ⟨u0', d0', e0'⟩, c1', c2', c3', c4'⟩ := h
  exact mm' p rs f l w u0' d0' e0' c1' c2' c3' c4'
theorem spOv_elim {vs : List V} {H : Hp} {Q : VK} {E : XK} {P : List V → Prop} (h : spOv vs H Q E) (mm' : ∀ (p : Addr) (rs : List Rw), ∀ us, H p = some (.lst us) → Tups H us (rs.map enc) → ((∀ r ∈ rs, r.1 ≤ r.2.1)) → (rs.length ≤ 100) → (∀ q H', H q = none → Same H H' → At H' q (ov rs) → Q (.ref q) H') → P [.ref p]) : P vs := by
  obtain ⟨p, rs, rfl, ⟨u0', d0', e0'⟩, c1', c2', c3'⟩ := h
  exact mm' p rs u0' d0' e0' c1' c2' c3'
theorem spDoy_elim {vs : List V} {H : Hp} {Q : VK} {E : XK} {P : List V → Prop} (h : spDoy vs H Q E) (mm' : ∀ (n : Int), (0 ≤ n) → (∀ H', Same H H' → Q (.int (doy n)) H') → P [.int n]) : P vs := by
  obtain ⟨n, rfl, c0', c1'⟩ := h
  exact mm' n c0' c1'
theorem spFyw_elim {vs : List V} {H : Hp} {Q : VK} {E : XK} {P : List V → Prop} (h : spFyw vs H Q E) (mm' : ∀ (i : Int) (pw py : Addr) (wk : List Int) (yr : List S2), (H pw = some (.lst (wk.map V.int))) → ∀ us, H py = some (.lst us) → Tups H us (yr.map encP) → (yr.length ≤ 100) → (∀ H', Same H H' → Q (.bl (fy wk yr i)) H') → P [.int i, .ref pw, .ref py]) : P vs := by
  obtain ⟨i, pw, py, wk, yr, rfl, c0', ⟨u1', d1', e1'⟩, c2', c3'⟩ := h
  exact mm' i pw py wk yr c0' u1' d1' e1' c2' c3'
theorem spCu_elim {vs : List V} {H : Hp} {Q : VK} {E : XK} {P : List V → Prop} (h : spCu vs H Q E) (mm' : ∀ (p : Addr) (bs : List Bool), (H p = some (.lst (bs.map V.bl))) → (bs.length ≤ 1000) → (∀ q H', H q = none → Same H H' → H' q = some (.lst ((cuL bs).map V.int)) → Q (.ref q) H') → P [.ref p]) : P vs := by
  obtain ⟨p, bs, rfl, c0', c1', c2'⟩ := h
  exact mm' p bs c0' c1' c2'
theorem spI2_elim {K : PySem.W.Frag} {vs : List V} {H : Hp} {Q : VK} {E : XK} {P : List V → Prop} (h : spI2 K vs H Q E) (mm' : ∀ (x C : Addr) (y z : V) (ini : Option Value), (H x = some (exO x C none true)) → (XA K C ini) → (PySem.W.findIn K (.ref C) "part" = some none) → (PySem.W.findIn K (.ref C) "at" = some none) → (∀ (dx : Addr) (H' : Hp), H dx = none → (∀ b o, b ≠ x → H b = some o → H' b = some o) → H' x = some (exO x C (some dx) true) → H' dx = some (exD dx [("part", y), ("at", z)]) → Q .non H') → P [.ref x, y, z]) : P vs := by
  obtain ⟨x, C, y, z, ini, rfl, c0', c1', c2', c3', c4'⟩ := h
  exact mm' x C y z ini c0' c1' c2' c3' c4'
theorem spWd7_elim {vs : List V} {H : Hp} {Q : VK} {E : XK} {P : List V → Prop} (h : spWd7 vs H Q E) (mm' : ∀ (v : V), (Odd H v) → ((WdG v → Q (.bl true) H)) → ((¬ WdG v → Q (.bl false) H)) → P [v]) : P vs := by
  obtain ⟨v, rfl, c0', c1', c2'⟩ := h
  exact mm' v c0' c1' c2'
theorem spRefW7_elim {a : Adr} {vs : List V} {H : Hp} {Q : VK} {E : XK} {P : List V → Prop} (h : spRefW7 a vs H Q E) (mm' : ∀ (p : Addr) (ws : List V), (H p = some (.lst ws)) → ((∀ v ∈ ws, Odd H v)) → ((Fst (gW ws) ws.length none → ∀ H', Same H H' → Q .non H')) → (∀ i, Fst (gW ws) ws.length (some i) → OutT a (Str.ofString "week") i H E) → P [.ref p]) : P vs := by
  obtain ⟨p, ws, rfl, c0', c1', c2', c3'⟩ := h
  exact mm' p ws c0' c1' c2' c3'
theorem spYr7_elim {vs : List V} {H : Hp} {Q : VK} {E : XK} {P : List V → Prop} (h : spYr7 vs H Q E) (mm' : ∀ (p : Addr) (x y : V), (H p = some (.tup [x, y])) → (Odd H x) → (Odd H y) → ((YrG x y → Q (.bl true) H)) → ((¬ YrG x y → Q (.bl false) H)) → P [.ref p]) : P vs := by
  obtain ⟨p, x, y, rfl, c0', c1', c2', c3', c4'⟩ := h
  exact mm' p x y c0' c1' c2' c3' c4'
theorem spRefY7_elim {a : Adr} {vs : List V} {H : Hp} {Q : VK} {E : XK} {P : List V → Prop} (h : spRefY7 a vs H Q E) (mm' : ∀ (p : Addr) (us : List V) (ys : List (List V)), (H p = some (.lst us)) → (OT 2 H us ys) → ((Fst (gY ys) ys.length none → ∀ H', Same H H' → Q .non H')) → (∀ i, Fst (gY ys) ys.length (some i) → OutT a (Str.ofString "yearly") i H E) → P [.ref p]) : P vs := by
  obtain ⟨p, us, ys, rfl, c0', c1', c2', c3'⟩ := h
  exact mm' p us ys c0' c1' c2' c3'
theorem spRw7_elim {vs : List V} {H : Hp} {Q : VK} {E : XK} {P : List V → Prop} (h : spRw7 vs H Q E) (mm' : ∀ (p : Addr) (x y z : V), (H p = some (.tup [x, y, z])) → (Odd H x) → (Odd H y) → (Odd H z) → ((RwG x y z → Q (.bl true) H)) → ((¬ RwG x y z → Q (.bl false) H)) → P [.ref p]) : P vs := by
  obtain ⟨p, x, y, z, rfl, c0', c1', c2', c3', c4', c5'⟩ := h
  exact mm' p x y z c0' c1' c2' c3' c4' c5'
theorem spRefR7_elim {a : Adr} {vs : List V} {H : Hp} {Q : VK} {E : XK} {P : List V → Prop} (h : spRefR7 a vs H Q E) (mm' : ∀ (p : Addr) (us : List V) (rs : List (List V)), (H p = some (.lst us)) → (OT 3 H us rs) → ((Fst (gR rs) rs.length none → ∀ H', Same H H' → Q .non H')) → (∀ i, Fst (gR rs) rs.length (some i) → OutT a (Str.ofString "rows") i H E) → P [.ref p]) : P vs := by
  obtain ⟨p, us, rs, rfl, c0', c1', c2', c3'⟩ := h
  exact mm' p us rs c0' c1' c2' c3'
theorem spCell_elim {K : PySem.W.Frag} {vs : List V} {H : Hp} {Q : VK} {E : XK} {P : List V → Prop} (h : spCell K vs H Q E) (mm' : ∀ (a : Addr) (ns : List Int) (k : Int), (SqL K H a (ns.map V.int)) → (0 ≤ k) → (Q (.int (cell ns k)) H) → P [.ref a, .int k]) : P vs := by
  obtain ⟨a, ns, k, rfl, c0', c1', c2'⟩ := h
  exact mm' a ns k c0' c1' c2'
theorem spOd7_elim {vs : List V} {H : Hp} {Q : VK} {E : XK} {P : List V → Prop} (h : spOd7 vs H Q E) (mm' : ∀ (c o : Int), (∀ v H', Same H H' → Odd H' v → Q v H') → P [.int c, .int o]) : P vs := by
  obtain ⟨c, o, rfl, c0'⟩ := h
  exact mm' c o c0'
theorem spWk7_elim {K : PySem.W.Frag} {vs : List V} {H : Hp} {Q : VK} {E : XK} {P : List V → Prop} (h : spWk7 K vs H Q E) (mm' : ∀ (a : Addr) (ns : List Int), (SqL K H a (ns.map V.int)) → (∀ (q : Addr) (H' : Hp) (ws : List V), H q = none → Same H H' → H' q = some (.lst ws) → (∀ v ∈ ws, Odd H' v) → ws.length ≤ 100 → Q (.ref q) H') → P [.ref a]) : P vs := by
  obtain ⟨a, ns, rfl, c0', c1'⟩ := h
  exact mm' a ns c0' c1'
theorem spTs7_elim {n : Nat} {K : PySem.W.Frag} {vs : List V} {H : Hp} {Q : VK} {E : XK} {P : List V → Prop} (h : spTs7 n K vs H Q E) (mm' : ∀ (a : Addr) (ns : List Int), (SqL K H a (ns.map V.int)) → (∀ (q : Addr) (H' : Hp) (us : List V) (ts : List (List V)), H q = none → Same H H' → H' q = some (.lst us) → OT n H' us ts → us.length ≤ 100 → Q (.ref q) H') → P [.ref a]) : P vs := by
  obtain ⟨a, ns, rfl, c0', c1'⟩ := h
  exact mm' a ns c0' c1'
theorem spPr_elim {vs : List V} {H : Hp} {Q : VK} {E : XK} {P : List V → Prop} (h : spPr vs H Q E) (mm' : ∀ (x y : V) (lo : Int) (mo : Option Int) (d : Int), (Odd H x) → (Odd H y) → ((PrG x y lo mo d → Q (.bl true) H)) → ((¬ PrG x y lo mo d → Q (.bl false) H)) → P [x, y, .int lo, encI mo, .int d]) : P vs := by
  obtain ⟨x, y, lo, mo, d, rfl, c0', c1', c2', c3'⟩ := h
  exact mm' x y lo mo d c0' c1' c2' c3'
theorem spDue_elim {vs : List V} {H : Hp} {Q : VK} {E : XK} {P : List V → Prop} (h : spDue vs H Q E) (mm' : ∀ (pw py pr : Addr) (ws uy ur : List V) (ys rs : List (List V)) (o : Option (Str × Nat)), (H pw = some (.lst ws)) → ((∀ v ∈ ws, Odd H v)) → (H py = some (.lst uy)) → (OT 2 H uy ys) → (H pr = some (.lst ur)) → (OT 3 H ur rs) → (ws.length ≤ 100) → (uy.length ≤ 100) → (ur.length ≤ 100) → (Due ws ys rs o) → (∀ t H', Same H H' → Duv H' o t → Q t H') → P [.ref pw, .ref py, .ref pr]) : P vs := by
  obtain ⟨pw, py, pr, ws, uy, ur, ys, rs, o, rfl, c0', c1', c2', c3', c4', c5', c6', c7', c8', c9', c10'⟩ := h
  exact mm' pw py pr ws uy ur ys rs o c0' c1' c2' c3' c4' c5' c6' c7' c8' c9' c10'
theorem spPInit7_elim {a : Adr} {vs : List V} {H : Hp} {Q : VK} {E : XK} {P : List V → Prop} (h : spPInit7 a vs H Q E) (mm' : ∀ (x dx pw py : Addr) (ws uy : List V) (ys : List (List V)), (H x = some (.ins a.cPattern dx [])) → (H pw = some (.lst ws)) → ((∀ v ∈ ws, Odd H v)) → (H py = some (.lst uy)) → (OT 2 H uy ys) → ((Fst (gW ws) ws.length none → Fst (gY ys) ys.length none → ∀ H' bs, SameBut x H H' → PatAt a.cPattern H' x bs → Q .non H')) → (∀ p i, Due ws ys [] (some (p, i)) → OutT a p i H E) → P [.ref x, .ref pw, .ref py]) : P vs := by
  obtain ⟨x, dx, pw, py, ws, uy, ys, rfl, c0', c1', c2', c3', c4', c5', c6'⟩ := h
  exact mm' x dx pw py ws uy ys c0' c1' c2' c3' c4' c5' c6'
theorem spPBy_elim {a : Adr} {vs : List V} {H : Hp} {Q : VK} {E : XK} {P : List V → Prop} (h : spPBy a vs H Q E) (mm' : ∀ (x : Addr) (bs : List Bool) (y : Int), (PatAt a.cPattern H x bs) → (Q (.int (pby bs y)) H) → P [.ref x, .int y]) : P vs := by
  obtain ⟨x, bs, y, rfl, c0', c1'⟩ := h
  exact mm' x bs y c0' c1'
theorem spPBef_elim {a : Adr} {vs : List V} {H : Hp} {Q : VK} {E : XK} {P : List V → Prop} (h : spPBef a vs H Q E) (mm' : ∀ (x : Addr) (bs : List Bool) (n : Int), (PatAt a.cPattern H x bs) → (0 ≤ n) → (∀ H', Same H H' → Q (.int (pbef bs n)) H') → P [.ref x, .int n]) : P vs := by
  obtain ⟨x, bs, n, rfl, c0', c1', c2'⟩ := h
  exact mm' x bs n c0' c1' c2'
theorem spShift_elim {a : Adr} {vs : List V} {H : Hp} {Q : VK} {E : XK} {P : List V → Prop} (h : spShift a vs H Q E) (mm' : ∀ (x p q z y dx : Addr) (bs : List Bool) (r : Rw) (e : Int), (H x = some (.ins a.cTable dx (tfs p q z))) → (PatAt a.cPattern H p bs) → (H y = some (.tup (enc r))) → (0 ≤ r.1) → (0 ≤ e) → (∀ H', Same H H' → Q (.int (shf bs r e)) H') → P [.ref x, .ref y, .int e]) : P vs := by
  obtain ⟨x, p, q, z, y, dx, bs, r, e, rfl, c0', c1', c2', c3', c4', c5'⟩ := h
  exact mm' x p q z y dx bs r e c0' c1' c2' c3' c4' c5'
theorem spTInit7_elim {a : Adr} {vs : List V} {H : Hp} {Q : VK} {E : XK} {P : List V → Prop} (h : spTInit7 a vs H Q E) (mm' : ∀ (x dx pw py pr : Addr) (ws uy ur : List V) (ys rs : List (List V)), (H x = some (.ins a.cTable dx [])) → (H pw = some (.lst ws)) → ((∀ v ∈ ws, Odd H v)) → (H py = some (.lst uy)) → (OT 2 H uy ys) → (H pr = some (.lst ur)) → (OT 3 H ur rs) → ((Due ws ys rs none → ∀ H' bs ro, SameBut x H H' → TabAt a.cPattern a.cTable H' x bs ro → Ap ro → Q .non H')) → (∀ p i, Due ws ys rs (some (p, i)) → OutB a x p i H E) → P [.ref x, .ref pw, .ref py, .ref pr]) : P vs := by
  obtain ⟨x, dx, pw, py, pr, ws, uy, ur, ys, rs, rfl, c0', c1', c2', c3', c4', c5', c6', c7', c8'⟩ := h
  exact mm' x dx pw py pr ws uy ur ys rs c0' c1' c2' c3' c4' c5' c6' c7' c8'
theorem spTb_elim {vs : List V} {H : Hp} {Q : VK} {E : XK} {P : List V → Prop} (h : spTb vs H Q E) (mm' : ∀ (pw py pr : Addr) (ws uy ur : List V) (ys rs : List (List V)) (o : Option (Str × Nat)), (H pw = some (.lst ws)) → ((∀ v ∈ ws, Odd H v)) → (H py = some (.lst uy)) → (OT 2 H uy ys) → (H pr = some (.lst ur)) → (OT 3 H ur rs) → (Due ws ys rs o) → (∀ t H', Same H H' → Told H' o t → Q t H') → P [.ref pw, .ref py, .ref pr]) : P vs := by
  obtain ⟨pw, py, pr, ws, uy, ur, ys, rs, o, rfl, c0', c1', c2', c3', c4', c5', c6', c7'⟩ := h
  exact mm' pw py pr ws uy ur ys rs o c0' c1' c2' c3' c4' c5' c6' c7'
theorem spPt_elim {vs : List V} {H : Hp} {Q : VK} {E : XK} {P : List V → Prop} (h : spPt vs H Q E) (mm' : ∀ (pw py : Addr) (ws uy : List V) (ys : List (List V)) (o : Option (Str × Nat)), (H pw = some (.lst ws)) → ((∀ v ∈ ws, Odd H v)) → (H py = some (.lst uy)) → (OT 2 H uy ys) → (Due ws ys [] o) → (∀ t H', Same H H' → Told H' o t → Q t H') → P [.ref pw, .ref py]) : P vs := by
  obtain ⟨pw, py, ws, uy, ys, o, rfl, c0', c1', c2', c3', c4', c5'⟩ := h
  exact mm' pw py ws uy ys o c0' c1' c2' c3' c4' c5'
theorem spSm_elim {vs : List V} {H : Hp} {Q : VK} {E : XK} {P : List V → Prop} (h : spSm vs H Q E) (mm' : ∀ (t d : V) (o : Option (Str × Nat)), (Told H o t) → (Duv H o d) → (∀ H', Same H H' → Q (.bl true) H') → P [t, d]) : P vs := by
  obtain ⟨t, d, o, rfl, c0', c1', c2'⟩ := h
  exact mm' t d o c0' c1' c2'
theorem spPFree_elim {a : Adr} {vs : List V} {H : Hp} {Q : VK} {E : XK} {P : List V → Prop} (h : spPFree a vs H Q E) (mm' : ∀ (x : Addr) (bs : List Bool) (n : Int), (PatAt a.cPattern H x bs) → (0 ≤ n) → (∀ H', Same H H' → Q (.bl (bs.getD (doy n).toNat true)) H') → P [.ref x, .int n]) : P vs := by
  obtain ⟨x, bs, n, rfl, c0', c1', c2'⟩ := h
  exact mm' x bs n c0' c1' c2'
theorem spTFree_elim {a : Adr} {vs : List V} {H : Hp} {Q : VK} {E : XK} {P : List V → Prop} (h : spTFree a vs H Q E) (mm' : ∀ (x : Addr) (bs : List Bool) (rs : List Rw) (n : Int), (TabAt a.cPattern a.cTable H x bs rs) → (Ap rs) → (0 ≤ n) → (∀ H', Same H H' → Q (.bl (tfr bs rs n)) H') → P [.ref x, .int n]) : P vs := by
  obtain ⟨x, bs, rs, n, rfl, c0', c1', c2', c3'⟩ := h
  exact mm' x bs rs n c0' c1' c2' c3'
theorem spLaw_elim {K : PySem.W.Frag} {vs : List V} {H : Hp} {Q : VK} {E : XK} {P : List V → Prop} (h : spLaw K vs H Q E) (mm' : ∀ (a : Addr) (ns : List Int), (SqL K H a (ns.map V.int)) → (ns.length ≤ 63) → (∀ H', Q (.bl true) H') → P [.ref a]) : P vs := by
  obtain ⟨a, ns, rfl, c0', c1', c2'⟩ := h
  exact mm' a ns c0' c1' c2'
section
variable {P : Program} {w : World} {K : PySem.W.Frag} {mg : Str → Option Value} {base : Heap} {a : Adr}
set_option maxHeartbeats 4000000 in
theorem okIsWhole (T : Txt K mg a) : FnOk P w K mg base CX0 1 a.fIsWhole a.gIsWhole ["thing"] spWh := by
  refine T.dIsWhole.fn.ok scIsWhole (fun vs H Q E h => ?_) (fun cdv A outer s H vs Q E hr h => ?_)
  · exact spWh_elim (P := fun vs => vs.length = _) h fun _ _ _ => rfl
  · refine spWh_elim (P := fun vs => ∃ t, PSs _ _ t ∧ t _ (L2.start _ vs) H) h fun v od k => ?_
    refine ⟨_, (pss_one (ps_ret (pe_and (pe_callB call_isi (by rfl) T.n_isinstance boot_isinstance (pa_cons (pv 0) (pa_cons (pe_bltn (v := .ty "int") rfl T.n_int boot_int rfl) pa_nil star_nam) star_nam)) (pe_one (pe_not (pe_callB call_isi (by rfl) T.n_isinstance boot_isinstance (pa_cons (pv 0) (pa_cons (pe_bltn (v := .ty "bool") rfl T.n_bool boot_bool rfl) pa_nil star_nam) star_nam))))))), ?_⟩
    cases od with
    | non => exact (nm rfl ⟨_, _, _, _, rfl, .non, kit_non_int, (nm rfl (iteF k))⟩)
    | bl b => exact (nm rfl ⟨_, _, _, _, rfl, .bl _, kit_bool_int, (nm rfl (iteT (nm rfl ⟨_, _, _, _, rfl, .bl _, kit_bool_bool, (nm rfl k)⟩)))⟩)
    | int b => exact (nm rfl ⟨_, _, _, _, rfl, .int _, kit_int_int, (nm rfl (iteT (nm rfl ⟨_, _, _, _, rfl, .int _, kit_int_bool, (nm rfl k)⟩)))⟩)
    | str b => exact (nm rfl ⟨_, _, _, _, rfl, .str _, kit_str_int, (nm rfl (iteF k))⟩)
    | lst h => exact (nm rfl ⟨_, _, _, _, rfl, .lst h, kit_lst_int, (nm rfl (iteF k))⟩)
set_option maxHeartbeats 4000000 in
theorem okLongBefore (T : Txt K mg a) : FnOk P w K mg base CX0 1 a.fLongBefore a.gLongBefore ["year"] (sp1 fun y => .int ((3 * y + 14) / 17)) := by
  refine T.dLongBefore.fn.ok scLongBefore (fun vs H Q E h => ?_) (fun cdv A outer s H vs Q E hr h => ?_)
  · exact sp1_elim (P := fun vs => vs.length = _) h fun _ _ => rfl
  · refine sp1_elim (P := fun vs => ∃ t, PSs _ _ t ∧ t _ (L2.start _ vs) H) h fun y k => ?_
    refine ⟨_, (pss_one (ps_ret (pe_op op_fdiv (pe_op op_add (pe_op op_mul pe_int (pv 0)) pe_int) pe_int))), ?_⟩
    exact (nm rfl (ic rfl rfl (mulL (by decide) (by decide)) (ii rfl rfl (ic rfl rfl ⟨by decide, by decide⟩ k))))
set_option maxHeartbeats 4000000 in
theorem okFirstWeek (T : Txt K mg a) : FnOk P w K mg base CX0 2 a.fFirstWeek a.gFirstWeek ["year"] (sp1 fun y => .int (fw y)) := by
  refine T.dFirstWeek.fn.ok scFirstWeek (fun vs H Q E h => ?_) (fun cdv A outer s H vs Q E hr h => ?_)
  · exact sp1_elim (P := fun vs => vs.length = _) h fun _ _ => rfl
  · refine sp1_elim (P := fun vs => ∃ t, PSs _ _ t ∧ t _ (L2.start _ vs) H) h fun y k => ?_
    refine ⟨_, (pss_one (ps_ret (pe_op op_add (pe_op op_mul pe_int (pv 0)) (pe_call (okLongBefore T) (hr.mono (by decide)) rfl T.dLongBefore.mgx T.dLongBefore.fn.kp T.dLongBefore.bd .nil pass0 (pa_cons (pv 0) pa_nil star_nam))))), ?_⟩
    exact (nm rfl (ic rfl rfl (mulL (by decide) (by decide)) (nm rfl (nm rfl (ii rfl rfl k)))))
set_option maxHeartbeats 4000000 in
theorem okYearOf (T : Txt K mg a) : FnOk P w K mg base CX0 1 a.fYearOf a.gYearOf ["week"] (sp1 fun y => .int (yo y)) := by
  refine T.dYearOf.fn.ok scYearOf (fun vs H Q E h => ?_) (fun cdv A outer s H vs Q E hr h => ?_)
  · exact sp1_elim (P := fun vs => vs.length = _) h fun _ _ => rfl
  · refine sp1_elim (P := fun vs => ∃ t, PSs _ _ t ∧ t _ (L2.start _ vs) H) h fun y k => ?_
    refine ⟨_, (pss_one (ps_ret (pe_op op_fdiv (pe_op op_add (pe_op op_mul pe_int (pv 0)) pe_int) pe_int))), ?_⟩
    exact (nm rfl (ic rfl rfl (mulL (by decide) (by decide)) (ii rfl rfl (ic rfl rfl ⟨by decide, by decide⟩ k))))
set_option maxHeartbeats 4000000 in
theorem okWeekday (T : Txt K mg a) : FnOk P w K mg base CX0 2 a.fWeekday a.gWeekday ["day"] spWeekday := by
  refine T.dWeekday.fn.ok scWeekday (fun vs H Q E h => ?_) (fun cdv A outer s H vs Q E hr h => ?_)
  · exact spWeekday_elim (P := fun vs => vs.length = _) h fun _ _ _ => rfl
  · refine spWeekday_elim (P := fun vs => ∃ t, PSs _ _ t ∧ t _ (L2.start _ vs) H) h fun n h0 k => ?_
    refine ⟨_, (pss_cons (ps_if (pt_not (PW.pt (pw_and (pt_val (pe_call (okIsWhole T) (hr.mono (by decide)) rfl T.dIsWhole.mgx T.dIsWhole.fn.kp T.dIsWhole.bd .nil pass0 (pa_cons (pv 0) pa_nil star_nam))) (pw_and1 (pt_cmpR op_ge (pv 0) pe_int (nomark _)))))) (pss_one ps_never) pss_nil)
      (pss_one (ps_ret (pe_op op_add (pe_op op_mod (pv 0) pe_int) pe_int)))), ?_⟩
    refine (nm rfl ⟨_, rfl, .int n, (nm rfl (iteT (nm rfl (ii rfl rfl (nm rfl (iteNS h0 ?_))))))⟩)
    exact (nm rfl (ic rfl rfl (pos (by decide)) (ii rfl rfl k)))
set_option maxHeartbeats 4000000 in
theorem okDateOf (T : Txt K mg a) : FnOk P w K mg base CX0 3 a.fDateOf a.gDateOf ["day"] spDateOf := by
  refine T.dDateOf.fn.ok scDateOf (fun vs H Q E h => ?_) (fun cdv A outer s H vs Q E hr h => ?_)
  · exact spDateOf_elim (P := fun vs => vs.length = _) h fun _ _ _ => rfl
  · refine spDateOf_elim (P := fun vs => ∃ t, PSs _ _ t ∧ t _ (L2.start _ vs) H) h fun n h0 k => ?_
    refine ⟨_, (pss_cons (ps_set (i := 1) scDateOf.nd rfl (Or.inl rfl) (pe_call (okWeekday T) (hr.mono (by decide)) rfl T.dWeekday.mgx T.dWeekday.fn.kp T.dWeekday.bd .nil pass0 (pa_cons (pv 0) pa_nil star_nam)))
      (pss_cons (ps_set (i := 2) scDateOf.nd rfl (Or.inl rfl) (pe_op op_fdiv (pv 0) pe_int))
      (pss_cons (ps_set (i := 3) scDateOf.nd rfl (Or.inl rfl) (pe_call (okYearOf T) (hr.mono (by decide)) rfl T.dYearOf.mgx T.dYearOf.fn.kp T.dYearOf.bd .nil pass0 (pa_cons (pv 2) pa_nil star_nam)))
      (pss_one (ps_ret (pe_tup (pa_cons (pv 3) (pa_cons (pe_op op_add (pe_op op_sub (pv 2) (pe_call (okFirstWeek T) (hr.mono (by decide)) rfl T.dFirstWeek.mgx T.dFirstWeek.fn.kp T.dFirstWeek.bd .nil pass0 (pa_cons (pv 3) pa_nil star_nam))) pe_int) (pa_cons (pv 1) pa_nil star_nam) star_bin) star_nam))))))), ?_⟩
    exact (nm rfl ⟨_, rfl, h0, (nm rfl (ic rfl rfl ⟨by decide, by decide⟩ (nm rfl (nm rfl (nm rfl (nm rfl (nm rfl (nm rfl (ii rfl rfl (ii rfl rfl (nm rfl ⟨fit3 _ _ _, fun p hp => k p hp⟩)))))))))))⟩)
set_option maxHeartbeats 4000000 in
theorem okIsStretchOf (T : Txt K mg a) : FnOk P w K mg base CX0 2 a.fIsStretchOf a.gIsStretchOf ["first", "last", "most"] spStr7 := by
  refine T.dIsStretchOf.fn.ok scIsStretchOf (fun vs H Q E h => ?_) (fun cdv A outer s H vs Q E hr h => ?_)
  · exact spStr7_elim (P := fun vs => vs.length = _) h fun _ _ _ _ _ _ _ => rfl
  · refine spStr7_elim (P := fun vs => ∃ t, PSs _ _ t ∧ t _ (L2.start _ vs) H) h fun x y m ox oy k kn => ?_
    refine ⟨_, (pss_cons (ps_if (pt_not (PW.pt (pw_and (pt_val (pe_call (okIsWhole T) (hr.mono (by decide)) rfl T.dIsWhole.mgx T.dIsWhole.fn.kp T.dIsWhole.bd .nil pass0 (pa_cons (pv 0) pa_nil star_nam))) (pw_and1 (pt_val (pe_call (okIsWhole T) (hr.mono (by decide)) rfl T.dIsWhole.mgx T.dIsWhole.fn.kp T.dIsWhole.bd .nil pass0 (pa_cons (pv 1) pa_nil star_nam))))))) (pss_one (ps_ret pe_bl)) pss_nil)
      (pss_one (ps_ret (pe_chain3 op_le op_le op_lt pe_int (pv 0) (pv 1) (pe_op op_add (pv 0) (pv 2)))))), ?_⟩
    cases ew : wh x with
    | false => exact (nm rfl ⟨x, rfl, ox, (nm rfl (by rw [ew]; exact kn fun ⟨n, _, e, _⟩ => by rw [e] at ew; cases ew))⟩)
    | true =>
      obtain ⟨f, rfl⟩ := wh_int ew
      refine (nm rfl ⟨_, rfl, ox, (nm rfl (iteT (nm rfl ⟨y, rfl, oy, (nm rfl ?_)⟩)))⟩)
      cases ey : wh y with
      | false => exact iteT (kn fun ⟨_, n, _, e, _⟩ => by rw [e] at ey; cases ey)
      | true =>
        obtain ⟨l, rfl⟩ := wh_int ey
        refine iteF ?_
        refine (nm rfl (ii rfl rfl (nm rfl (ite2 (fun c1 => (nm rfl (ii rfl rfl (nm rfl (ite2 (fun c2 => (nm rfl (nm rfl (ii rfl rfl (ii rfl rfl ?_))))) (fun c2 => ?_)))))) (fun c1 => ?_)))))
        · show Q (.bl (decide (l < f + m))) H
          by_cases c3 : l < f + m
          · rw [decide_eq_true c3]; exact k ⟨f, l, rfl, rfl, of_decide_eq_true c1, of_decide_eq_true c2, c3⟩
          · rw [decide_eq_false c3]; exact kn fun ⟨_, _, e1, e2, _, _, h⟩ => by cases e1; cases e2; exact c3 h
        · exact kn fun ⟨_, _, e1, e2, _, h, _⟩ => by cases e1; cases e2; exact c2 (decide_eq_true h)
        · exact kn fun ⟨_, _, e1, e2, h, _⟩ => by cases e1; cases e2; exact c1 (decide_eq_true h)
set_option maxHeartbeats 4000000 in
theorem okPlace (T : Txt K mg a) : FnOk P w K mg base CX0 1 a.fPlace a.gPlace ["stretches", "day"] spPlace := by
  refine T.dPlace.fn.ok scPlace (fun vs H Q E h => ?_) (fun cdv A outer s H vs Q E hr h => ?_)
  · exact spPlace_elim (P := fun vs => vs.length = _) h fun _ _ _ _ _ _ _ _ _ _ _ => rfl
  · refine spPlace_elim (P := fun vs => ∃ t, PSs _ _ t ∧ t _ (L2.start _ vs) H) h fun p us ts es d hp ht he hl hw k => ?_
    refine ⟨_, (pss_cons (ps_set (i := 2) scPlace.nd rfl (Or.inl rfl) pe_int)
      (pss_cons (ps_set (i := 3) scPlace.nd rfl (Or.inl rfl) (pe_callB call_len (by rfl) T.n_len boot_len (pa_cons (pv 0) pa_nil star_nam)))
      (pss_cons (ps_while PassesOwn.never (pt_cmpR op_lt (pv 2) (pv 3) (nomark _)) (pss_cons (ps_set (i := 4) scPlace.nd rfl (Or.inl rfl) (pe_op op_fdiv (pe_op op_add (pv 2) (pv 3)) pe_int))
      (pss_one (ps_if (pt_cmpR op_lt (pe_ix ix_tup (pe_ix ix_list (pv 0) (pv 4) (fun _ _ => rfl)) pe_int (fun _ _ => rfl)) (pv 1) (nomark _)) (pss_one (ps_set (i := 2) scPlace.nd rfl (Or.inl rfl) (pe_op op_add (pv 4) pe_int))) (pss_one (ps_set (i := 3) scPlace.nd rfl (Or.inl rfl) (pv 4)))))))
      (pss_one (ps_ret (pv 2)))))), ?_⟩
    have ul := ht.length.trans hl
    refine (nm rfl ⟨_, _, rfl, .inl ⟨_, SqL.of hp, rfl⟩, ?_⟩)
    refine ⟨fun m σ' H' => H' = H ∧ ∃ (lo hi : Int) (v : Option V), σ' = [some (.ref p), some (.int d), some (.int lo), some (.int hi), v] ∧ m = (hi - lo).toNat ∧ 0 ≤ lo ∧ lo ≤ hi ∧ hi ≤ es.length ∧ (∀ (i : Nat) (e : Int), es[i]? = some e → (i : Int) < lo → e < d) ∧ (∀ (i : Nat) (e : Int), es[i]? = some e → hi ≤ (i : Int) → ¬ e < d), 
      ⟨_, rfl, 0, (us.length : Int), none, rfl, rfl, Int.le_refl _, Int.natCast_nonneg _, Int.le_of_eq (congrArg (fun n : Nat => (n : Int)) ul), fun i e _ z => absurd z (Int.not_lt.mpr (Int.natCast_nonneg i)), fun i e z c => absurd (Int.ofNat_le.mp c) (Nat.not_le.mpr (ul ▸ (List.getElem?_eq_some_iff.mp z).1))⟩, ?_⟩
    rintro m σ' H' ⟨rfl, lo, hi, v, rfl, rfl, h0, h1, h2, h3, h4⟩
    refine (nm rfl (nm rfl (ii rfl rfl (nm rfl ?_))))
    refine ite2 (fun c => ?_) (fun c => ?_)
    · have c' : lo < hi := of_decide_eq_true c
      refine ⟨fun σ2 H2 => H2 = H' ∧ ∃ (lo2 hi2 : Int) (v : Option V), σ2 = [some (.ref p), some (.int d), some (.int lo2), some (.int hi2), v] ∧ hi2 - lo2 < hi - lo ∧ 0 ≤ lo2 ∧ lo2 ≤ hi2 ∧ hi2 ≤ es.length ∧ (∀ (i : Nat) (e : Int), es[i]? = some e → (i : Int) < lo2 → e < d) ∧ (∀ (i : Nat) (e : Int), es[i]? = some e → hi2 ≤ (i : Int) → ¬ e < d), ?_, ?_⟩
      · rintro σ2 H2 ⟨rfl, lo2, hi2, v2, rfl, g0, g1, g2, g3, g4, g5⟩
        exact ⟨_, tn_lt g0 (Int.sub_pos.mpr c'), rfl, lo2, hi2, v2, rfl, rfl, g1, g2, g3, g4, g5⟩
      · refine (nm rfl (nm rfl (ii rfl rfl (ic rfl rfl ⟨by decide, by decide⟩ ?_))))
        obtain ⟨j, ej, j1, j2⟩ := mid h0 c'
        have hj : j < es.length := Int.ofNat_lt.mp (Int.lt_of_lt_of_le j2 h2)
        have je : es[j]? = some (es[j]'hj) := List.getElem?_eq_getElem _
        obtain ⟨t, t1, t2⟩ := he j _ je
        obtain ⟨a, a1, a2⟩ := ht.get t1
        dsimp only []
        generalize (lo + hi) / 2 = mid at ej ⊢
        subst ej
        have up : ∀ {i : Nat} {e : Int}, es[i]? = some e → (i < j → e < es[j]'hj) ∧ (j < i → es[j]'hj < e) := fun {i e} z => by
          obtain ⟨zi, ze⟩ := List.getElem?_eq_some_iff.mp z
          subst ze
          exact ⟨fun q => List.pairwise_iff_getElem.mp hw i j _ _ q, fun q => List.pairwise_iff_getElem.mp hw j i _ _ q⟩
        refine (nm rfl (nm rfl (lx (SqL.of hp) ((atI_nat a1)) (tx (SqT.of a2) t2 (nm rfl (ii rfl rfl (nm rfl ?_)))))))
        refine ite2 (fun e => ?_) (fun e => ?_)
        · have e' := of_decide_eq_true e
          refine (nm rfl (ii rfl rfl ⟨rfl, (j : Int) + 1, hi, _, rfl, Int.sub_lt_sub_left (Int.lt_add_one_of_le j1) hi, Int.natCast_nonneg (j + 1), j2, h2, fun i x hx q => ?_, h4⟩))
          by_cases z : i = j
          · subst z; rw [je] at hx; cases hx; exact e'
          · exact Int.lt_trans ((up hx).1 (Nat.lt_of_le_of_ne (Int.ofNat_le.mp (Int.le_of_lt_add_one q)) z)) e'
        · have e' : ¬ es[j]'hj < d := fun z => e (decide_eq_true z)
          refine (nm rfl ⟨rfl, lo, (j : Int), _, rfl, Int.sub_lt_sub_right j2 lo, h0, j1, Int.ofNat_le.mpr (Nat.le_of_lt hj), h3, fun i x hx q => ?_⟩)
          by_cases z : i = j
          · subst z; rw [je] at hx; cases hx; exact e'
          · exact fun y => e' (Int.lt_trans ((up hx).2 (Nat.lt_of_le_of_ne (Int.ofNat_le.mp q) (Ne.symm z))) y)
    · have c' : ¬ lo < hi := fun z => c (decide_eq_true z)
      have el : (lo.toNat : Int) = lo := Int.toNat_of_nonneg h0
      have e : (cnt es d : Nat) = lo.toNat := cnt_eq (Int.ofNat_le.mp (Int.le_trans (Int.le_of_eq el) (Int.le_trans h1 h2))) (fun i x hx q => h3 i x hx (Int.lt_of_lt_of_le (Int.ofNat_lt.mpr q) (Int.le_of_eq el))) fun i x hx q => h4 i x hx (Int.le_trans (Int.not_lt.mp c') (Int.le_trans (Int.le_of_eq el.symm) (Int.ofNat_le.mpr q)))
      refine (nm rfl ?_)
      show Q (.int lo) H'
      rw [← el, ← e]
      exact k
set_option maxHeartbeats 4000000 in
theorem okJoined (T : Txt K mg a) : FnOk P w K mg base CX0 1 a.fJoined a.gJoined ["laid"] spJoin := by
  refine T.dJoined.fn.ok scJoined (fun vs H Q E h => ?_) (fun cdv A outer s H vs Q E hr h => ?_)
  · exact spJoin_elim (P := fun vs => vs.length = _) h fun _ _ _ _ _ _ _ _ _ _ _ _ => rfl
  · refine spJoin_elim (P := fun vs => ∃ t, PSs _ _ t ∧ t _ (L2.start _ vs) H) h fun W dq ec p rs inj sc us hp ht hl k => ?_
    refine ⟨_, (pss_cons (ps_set (i := 1) scJoined.nd rfl (Or.inl rfl) (pe_lst pa_nil))
      (pss_cons (ps_for PassesOwn.never rfl (pi_list (pv 0)) (pg_tup rfl (pgs_cons (pg_name (i := 2) scJoined.nd rfl (Or.inl rfl)) (pgs_cons (pg_name (i := 3) scJoined.nd rfl (Or.inl rfl)) (pgs_cons (pg_name (i := 4) scJoined.nd rfl (Or.inl rfl)) pgs_nil)))) (pss_one (ps_if (PW.pt (pw_and (pt_truth (pv 1) (fun _ => rfl)) (pw_and (pt_cmpR op_eq (pe_ix ix_tup (pe_ix ix_list (pv 1) (pe_un un_neg pe_int) (fun _ _ => rfl)) pe_int (fun _ _ => rfl)) (pv 4) (nomark _)) (pw_and1 (pt_cmpR op_eq (pe_op op_add (pe_ix ix_tup (pe_ix ix_list (pv 1) (pe_un un_neg pe_int) (fun _ _ => rfl)) pe_int (fun _ _ => rfl)) pe_int) (pv 2) (nomark _)))))) (pss_one (ps_asg (pe_tup (pa_cons (pe_ix ix_tup (pe_ix ix_list (pv 1) (pe_un un_neg pe_int) (fun _ _ => rfl)) pe_int (fun _ _ => rfl)) (pa_cons (pv 3) (pa_cons (pv 4) pa_nil star_nam) star_nam) star_sub)) (pg_sub (pv 1) (pe_un un_neg pe_int) set_list))) (pss_one (ps_expr (pe_bm PySem.F.plainAttrs_list PySem.F.slot_list_append PySem.F.type_list_append mt_append (pv 1) (pa_cons (pe_tup (pa_cons (pv 2) (pa_cons (pv 3) (pa_cons (pv 4) pa_nil star_nam) star_nam) star_nam)) pa_nil star_tup)))))))
      (pss_one (ps_ret (pv 1))))), ?_⟩
    refine ⟨fit0, fun q hq => ?_⟩
    have lu := AtG.len ht
    refine (nm rfl ⟨_, rfl, ⟨_, SqL.of (same_upd hq _ _ hp)⟩, for_list (K := K) (a := p) (xs := us) (fun i σ H' => Same H H' ∧ ∃ (q : Addr) (v3 v4 v5 : Option V), σ = [some (.ref p), some (.ref q), v3, v4, v5] ∧ H q = none ∧ AtG ec H' q (jn (rs.take i)))
      ⟨same_upd hq, q, none, none, none, rfl, hq, [], upd_same, .nil⟩ (fun i σ H' _ h => SqL.of (h.1 _ _ hp)) ?_ ?_⟩)
    · rintro i x σ H' hx ⟨s0, q0, v3, v4, v5, rfl, n0, u0, h0, t0⟩
      obtain ⟨a, t, rfl, h1, h2⟩ := ht.get' hx
      obtain ⟨r, h3, rfl⟩ := map_getG h1
      have hlen : u0.length ≤ 1000 := Nat.le_trans (Nat.le_of_eq (AtG.len t0)) (Nat.le_trans (jn_len (rs.take i)) (Nat.le_trans (List.length_take_le' _ _) hl))
      refine ⟨_, _, rfl, SqT.of (s0 _ _ h2), rfl, _, _, rfl, _, _, rfl, _, _, rfl, rfl, ?_⟩
      have js : rs.take (i + 1) = rs.take i ++ [r] := take_snoc h3
      have jn' := jn_snoc (rs.take i) r
      rw [← js] at jn'
      apply use (p := jn1 (jn (rs.take i)) r = jn (rs.take i) ++ [r])
      · intro fin
        rcases List.eq_nil_or_concat (jn (rs.take i)) with e | ⟨ts, t, e⟩
        · have eu : u0 = [] := List.eq_nil_of_length_eq_zero (by rw [AtG.len t0, e]; rfl)
          refine (nm rfl ⟨false, .inl ⟨_, SqL.of h0, by rw [eu]; rfl⟩, iteF (iteF ?_)⟩)
          exact fin (by rw [e]; rfl)
        · rw [List.concat_eq_append] at e
          rw [e] at t0
          obtain ⟨u1, b, eu, hb⟩ : ∃ (u1 : List V) (b : Addr), u0 = u1 ++ [.ref b] ∧ H' b = some (.tup (encG ec t)) := by
            have hl0 := AtG.len t0
            rw [List.length_append, List.length_singleton] at hl0
            obtain ⟨b, hb1, hb2⟩ := AtG.row t0 (i := ts.length) (r := t) (by simp)
            refine ⟨u0.take ts.length, b, ?_, hb2⟩
            rw [← take_snoc hb1, List.take_of_length_le (Nat.le_of_eq hl0)]
          have h0' := h0
          rw [eu] at h0' t0
          refine (nm rfl ⟨true, .inl ⟨_, SqL.of h0', by simp⟩, iteT (nm rfl (nm rfl (lx (SqL.of h0') (atI_last _ _) (tx (SqT.of hb) rfl (nm rfl ⟨sc _ _, (nm rfl ?_)⟩)))))⟩)
          by_cases c1 : t.2.2 = r.2.2
          · refine iteD (congrArg ec c1) (nm rfl (nm rfl (lx (SqL.of h0') (atI_last _ _) (tx (SqT.of hb) rfl (ii rfl rfl (nm rfl ⟨rfl, (nm rfl ?_)⟩))))))
            by_cases c2 : t.2.1 + 1 = r.1
            · refine iteD (congrArg V.int c2) (nm rfl (nm rfl (lx (SqL.of h0') (atI_last _ _) (tx (SqT.of hb) rfl (nm rfl (nm rfl ⟨fit3 _ _ _, fun q2 hq2 => (nm rfl (nm rfl ⟨_, _, _, _, rfl, rfl, same_upd hq2 _ _ h0', ix_last _ _, ?_⟩))⟩))))))
              have z2 := same_upd (o := .tup [V.int t.1, V.int r.2.1, ec r.2.2]) hq2
              rw [set_last]
              refine ⟨same_add (s0.trans z2) n0, q0, _, _, _, rfl, n0, _, upd_same, ?_⟩
              rw [jn', e, jn1_snoc, if_pos ⟨c1, c2⟩, List.map_append]
              rw [List.map_append] at t0
              exact ((t0.same z2).setLast (upd_same (o := .tup (encG ec (t.1, r.2.1, r.2.2))))).upd (z2 _ _ h0')
            · refine iteDn (fun z => c2 (V.int.inj z)) ?_
              exact fin (by rw [e, jn1_snoc, if_neg (fun z => c2 z.2)])
          · refine iteDn (fun z => c1 (inj _ _ z)) (iteF ?_)
            exact fin (by rw [e, jn1_snoc, if_neg (fun z => c1 z.1)])
      · intro ej
        refine (nm rfl ⟨.inl ⟨rfl, _, SqL.of h0⟩, (nm rfl (nm rfl (nm rfl ⟨fit3 _ _ _, fun q2 hq2 => ⟨_, _, _, rfl, rfl, same_upd hq2 _ _ h0, lt1000 (Nat.le_trans hlen (by decide)), ?_⟩⟩)))⟩)
        have z2 := same_upd (o := .tup [V.int r.1, V.int r.2.1, ec r.2.2]) hq2
        refine ⟨same_add (s0.trans z2) n0, q0, _, _, _, rfl, n0, _, upd_same, ?_⟩
        rw [jn', ej, List.map_append]
        exact ((t0.same z2).snoc (upd_same (o := .tup (encG ec r)))).upd (z2 _ _ h0)
    · rintro σ H' ⟨s0, q0, v3, v4, v5, rfl, n0, at0⟩
      rw [lu, List.take_length] at at0
      exact (nm rfl (k q0 H' n0 s0 at0))
set_option maxHeartbeats 4000000 in
theorem okLaidOver (T : Txt K mg a) : FnOk P w K mg base CX0 2 a.fLaidOver a.gLaidOver ["laid", "first", "last", "word"] spOver := by
  refine T.dLaidOver.fn.ok scLaidOver (fun vs H Q E h => ?_) (fun cdv A outer s H vs Q E hr h => ?_)
  · exact spOver_elim (P := fun vs => vs.length = _) h fun _ _ _ _ _ _ _ _ _ _ _ _ => rfl
  · refine spOver_elim (P := fun vs => ∃ t, PSs _ _ t ∧ t _ (L2.start _ vs) H) h fun p rs f l w' us hp ht dis hfl hl k => ?_
    refine ⟨_, (pss_cons (ps_set (i := 4) scLaidOver.nd rfl (Or.inl rfl) (pe_call (okPlace T) (hr.mono (by decide)) rfl T.dPlace.mgx T.dPlace.fn.kp T.dPlace.bd .nil pass0 (pa_cons (pv 0) (pa_cons (pv 1) pa_nil star_nam) star_nam)))
      (pss_cons (ps_set (i := 5) scLaidOver.nd rfl (Or.inl rfl) (pe_call (okPlace T) (hr.mono (by decide)) rfl T.dPlace.mgx T.dPlace.fn.kp T.dPlace.bd .nil pass0 (pa_cons (pv 0) (pa_cons (pe_op op_add (pv 2) pe_int) pa_nil star_bin) star_nam)))
      (pss_cons (ps_set (i := 6) scLaidOver.nd rfl (Or.inl rfl) (pe_slice sl_list (pv 0) po_none (po_some (pv 4))))
      (pss_cons (ps_if (PW.pt (pw_and (pt_cmpR op_lt (pv 4) (pe_callB call_len (by rfl) T.n_len boot_len (pa_cons (pv 0) pa_nil star_nam)) (nomark _)) (pw_and1 (pt_cmpR op_lt (pe_ix ix_tup (pe_ix ix_list (pv 0) (pv 4) (fun _ _ => rfl)) pe_int (fun _ _ => rfl)) (pv 1) (nomark _))))) (pss_one (ps_expr (pe_bm PySem.F.plainAttrs_list PySem.F.slot_list_append PySem.F.type_list_append mt_append (pv 6) (pa_cons (pe_tup (pa_cons (pe_ix ix_tup (pe_ix ix_list (pv 0) (pv 4) (fun _ _ => rfl)) pe_int (fun _ _ => rfl)) (pa_cons (pe_op op_sub (pv 1) pe_int) (pa_cons (pe_ix ix_tup (pe_ix ix_list (pv 0) (pv 4) (fun _ _ => rfl)) pe_int (fun _ _ => rfl)) pa_nil star_sub) star_bin) star_sub)) pa_nil star_tup)))) pss_nil)
      (pss_cons (ps_expr (pe_bm PySem.F.plainAttrs_list PySem.F.slot_list_append PySem.F.type_list_append mt_append (pv 6) (pa_cons (pe_tup (pa_cons (pv 1) (pa_cons (pv 2) (pa_cons (pv 3) pa_nil star_nam) star_nam) star_nam)) pa_nil star_tup)))
      (pss_cons (ps_if (PW.pt (pw_and (pt_cmpR op_lt (pv 5) (pe_callB call_len (by rfl) T.n_len boot_len (pa_cons (pv 0) pa_nil star_nam)) (nomark _)) (pw_and1 (pt_cmpR op_le (pe_ix ix_tup (pe_ix ix_list (pv 0) (pv 5) (fun _ _ => rfl)) pe_int (fun _ _ => rfl)) (pv 2) (nomark _))))) (pss_cons (ps_expr (pe_bm PySem.F.plainAttrs_list PySem.F.slot_list_append PySem.F.type_list_append mt_append (pv 6) (pa_cons (pe_tup (pa_cons (pe_op op_add (pv 2) pe_int) (pa_cons (pe_ix ix_tup (pe_ix ix_list (pv 0) (pv 5) (fun _ _ => rfl)) pe_int (fun _ _ => rfl)) (pa_cons (pe_ix ix_tup (pe_ix ix_list (pv 0) (pv 5) (fun _ _ => rfl)) pe_int (fun _ _ => rfl)) pa_nil star_sub) star_sub) star_bin)) pa_nil star_tup)))
      (pss_one (ps_aug (i := 5) scLaidOver.nd rfl (Or.inl rfl) pe_int ip_add))) pss_nil)
      (pss_one (ps_ret (pe_op op_cat (pv 6) (pe_slice sl_list (pv 0) (po_some (pv 5)) po_none)))))))))), ?_⟩
    have lu := At.len ht
    have up := ends_up dis
    have el : (rs.map enc).length = (ends rs).length := by rw [List.length_map, List.length_map]
    refine (nm rfl (nm rfl ⟨_, _, _, _, _, rfl, hp, ht, fun i e h => enc_ends h, el, up, ?_⟩))
    refine (nm rfl (nm rfl (ii rfl rfl ⟨_, _, _, _, _, rfl, hp, ht, fun i e h => enc_ends h, el, up, ?_⟩)))
    have hb := cnt_le (ends rs) f
    rw [List.length_map] at hb
    refine (nm rfl (nm rfl ⟨_, rfl, _, _, rfl, SqL.of hp, fun q hq => ?_⟩))
    rw [cut_take us (cnt (ends rs) f) (lu ▸ hb)]
    have s0 := same_upd (o := .lst (us.take (cnt (ends rs) f))) hq
    have lc := left_code f dis
    have lt0 : (us.take (cnt (ends rs) f)).length ≤ 1000 := Nat.le_trans (List.length_take_le' _ _) (lu ▸ hl)
    have t0 : Tups (upd H q (.lst (us.take (cnt (ends rs) f)))) (us.take (cnt (ends rs) f)) ((rs.take (cnt (ends rs) f)).map enc) := by rw [List.map_take]; exact (ht.same s0).take _
    have h0 := upd_same (H := H) (a := q) (o := .lst (us.take (cnt (ends rs) f)))
    generalize upd H q (.lst (us.take (cnt (ends rs) f))) = H0 at s0 t0 h0 ⊢
    generalize us.take (cnt (ends rs) f) = u0 at t0 h0 lt0
    apply useH (p := fun (H1 : Hp) => Same H H1 ∧ ∃ u1 : List V, H1 q = some (.lst u1) ∧ Tups H1 u1 ((left rs f).map enc) ∧ u1.length ≤ 1200)
    · intro fin1
      refine (nm rfl (nm rfl ⟨_, _, rfl, .inl ⟨_, SqL.of (s0 _ _ hp), rfl⟩, (ii rfl rfl (nm rfl ?_))⟩))
      by_cases cb : cnt (ends rs) f < rs.length
      · obtain ⟨r1, hr1⟩ : ∃ r1, rs[cnt (ends rs) f]? = some r1 := ⟨_, List.getElem?_eq_getElem cb⟩
        obtain ⟨a1, ha1, hb1⟩ := At.row ht hr1
        rw [hr1] at lc
        refine iteD (lenI lu cb) (nm rfl (nm rfl (lx (SqL.of (s0 _ _ hp)) (atI_nat ha1) (tx (SqT.of (s0 _ _ hb1)) rfl (nm rfl (ii rfl rfl (nm rfl ?_)))))))
        by_cases cf : r1.1 < f
        · refine iteD cf (nm rfl ⟨.inl ⟨rfl, _, SqL.of h0⟩, (nm rfl (nm rfl (lx (SqL.of (s0 _ _ hp)) (atI_nat ha1) (tx (SqT.of (s0 _ _ hb1)) rfl (nm rfl (ii rfl rfl (nm rfl (nm rfl (lx (SqL.of (s0 _ _ hp)) (atI_nat ha1) (tx (SqT.of (s0 _ _ hb1)) rfl ⟨fit3 _ _ _, fun q1 hq1 => ⟨_, _, _, rfl, rfl, same_upd hq1 _ _ h0, lt1000 (Nat.le_trans lt0 (by decide)), ?_⟩⟩))))))))))⟩)
          have z1 := same_upd (o := .tup [V.int r1.1, V.int (f - 1), V.str r1.2.2]) hq1
          have s1 : Same H (upd (upd H0 q1 (.tup [V.int r1.1, V.int (f - 1), V.str r1.2.2])) q (.lst (u0 ++ [.ref q1]))) := same_add (s0.trans z1) hq
          have h1 := upd_same (H := upd H0 q1 (.tup [V.int r1.1, V.int (f - 1), V.str r1.2.2])) (a := q) (o := .lst (u0 ++ [.ref q1]))
          have t1 : Tups (upd (upd H0 q1 (.tup [V.int r1.1, V.int (f - 1), V.str r1.2.2])) q (.lst (u0 ++ [.ref q1]))) (u0 ++ [.ref q1]) ((left rs f).map enc) := by
            rw [show left rs f = rs.take (cnt (ends rs) f) ++ [((r1.1, f - 1, r1.2.2) : Rw)] by rw [lc]; exact congrArg _ (if_pos cf), List.map_append]
            exact ((t0.same z1).snoc (upd_same (o := .tup (enc (r1.1, f - 1, r1.2.2))))).upd (z1 _ _ h0)
          generalize upd (upd H0 q1 (.tup [V.int r1.1, V.int (f - 1), V.str r1.2.2])) q (.lst (u0 ++ [.ref q1])) = H1 at s1 h1 t1 ⊢
          exact fin1 H1 ⟨s1, _, h1, t1, sn1 lt0⟩
        · refine iteDn cf ?_
          exact fin1 H0 ⟨s0, _, h0, by
            rw [show left rs f = rs.take (cnt (ends rs) f) by rw [lc]; show _ ++ (if r1.1 < f then _ else []) = _; rw [if_neg cf, List.append_nil]]
            exact t0, Nat.le_trans lt0 (by decide)⟩
      · rw [List.getElem?_eq_none (Nat.not_lt.mp cb)] at lc
        refine iteDn (fun z => cb (Int.ofNat_lt.mp (lu ▸ z))) (iteF ?_)
        exact fin1 H0 ⟨s0, _, h0, by
          rw [show left rs f = rs.take (cnt (ends rs) f) by rw [lc]; exact List.append_nil _]
          exact t0, Nat.le_trans lt0 (by decide)⟩
    · rintro H1 ⟨s1, u1, h1, t1, l1⟩
      refine (nm rfl ⟨.inl ⟨rfl, _, SqL.of h1⟩, (nm rfl (nm rfl (nm rfl ⟨fit3 _ _ _, fun q2 hq2 => ⟨_, _, _, rfl, rfl, same_upd hq2 _ _ h1, lt1000 (Nat.le_trans l1 (by decide)), ?_⟩⟩)))⟩)
      have z2 := same_upd (o := .tup [V.int f, V.int l, V.str w']) hq2
      have s2 : Same H (upd (upd H1 q2 (.tup [V.int f, V.int l, V.str w'])) q (.lst (u1 ++ [.ref q2]))) := same_add (s1.trans z2) hq
      have h2 := upd_same (H := upd H1 q2 (.tup [V.int f, V.int l, V.str w'])) (a := q) (o := .lst (u1 ++ [.ref q2]))
      have t2 : Tups (upd (upd H1 q2 (.tup [V.int f, V.int l, V.str w'])) q (.lst (u1 ++ [.ref q2]))) (u1 ++ [.ref q2]) ((left rs f ++ [((f, l, w') : Rw)]).map enc) := by
        rw [List.map_append]
        exact ((t1.same z2).snoc (upd_same (o := .tup (enc (f, l, w'))))).upd (z2 _ _ h1)
      generalize upd (upd H1 q2 (.tup [V.int f, V.int l, V.str w'])) q (.lst (u1 ++ [.ref q2])) = H2 at s2 h2 t2 ⊢
      have l2 : (u1 ++ [V.ref q2]).length ≤ 1500 := sn15 l1
      generalize u1 ++ [V.ref q2] = u2 at h2 t2 l2 ⊢
      apply use2 (p := fun (H3 : Hp) (N : Nat) => Same H H3 ∧ ∃ (u3 : List V) (X : List Rw), H3 q = some (.lst u3) ∧ Tups H3 u3 (X.map enc) ∧ u3.length ≤ 2000 ∧ over rs f l w' = X ++ rs.drop N ∧ N ≤ rs.length)
      · intro fin2
        refine (nm rfl (nm rfl ⟨_, _, rfl, .inl ⟨_, SqL.of (s2 _ _ hp), rfl⟩, (ii rfl rfl (nm rfl ?_))⟩))
        have rc := right_code l dis
        by_cases ce : cnt (ends rs) (l + 1) < rs.length
        · obtain ⟨r2, hr2⟩ : ∃ r2, rs[cnt (ends rs) (l + 1)]? = some r2 := ⟨_, List.getElem?_eq_getElem ce⟩
          obtain ⟨a2, ha2, hb2⟩ := At.row ht hr2
          rw [hr2] at rc
          dsimp only at rc
          refine iteD (lenI lu ce) (nm rfl (nm rfl (lx (SqL.of (s2 _ _ hp)) (atI_nat ha2) (tx (SqT.of (s2 _ _ hb2)) rfl (nm rfl (ii rfl rfl (nm rfl ?_)))))))
          by_cases cl : r2.1 ≤ l
          · refine iteD cl (nm rfl ⟨.inl ⟨rfl, _, SqL.of h2⟩, (nm rfl (ii rfl rfl (nm rfl (nm rfl (lx (SqL.of (s2 _ _ hp)) (atI_nat ha2) (tx (SqT.of (s2 _ _ hb2)) rfl (nm rfl (nm rfl (lx (SqL.of (s2 _ _ hp)) (atI_nat ha2) (tx (SqT.of (s2 _ _ hb2)) rfl ⟨fit3 _ _ _, fun q3 hq3 => ⟨_, _, _, rfl, rfl, same_upd hq3 _ _ h2, lt1000 (Nat.le_trans l2 (by decide)), ?_⟩⟩))))))))))⟩)
            have z3 := same_upd (o := .tup [V.int (l + 1), V.int r2.2.1, V.str r2.2.2]) hq3
            have s3 : Same H (upd (upd H2 q3 (.tup [V.int (l + 1), V.int r2.2.1, V.str r2.2.2])) q (.lst (u2 ++ [.ref q3]))) := same_add (s2.trans z3) hq
            have h3 := upd_same (H := upd H2 q3 (.tup [V.int (l + 1), V.int r2.2.1, V.str r2.2.2])) (a := q) (o := .lst (u2 ++ [.ref q3]))
            have t3 : Tups (upd (upd H2 q3 (.tup [V.int (l + 1), V.int r2.2.1, V.str r2.2.2])) q (.lst (u2 ++ [.ref q3]))) (u2 ++ [.ref q3]) (((left rs f ++ [(f, l, w')]) ++ [((l + 1, r2.2.1, r2.2.2) : Rw)]).map enc) := by
              rw [List.map_append]
              exact ((t2.same z3).snoc (upd_same (o := .tup (enc (l + 1, r2.2.1, r2.2.2))))).upd (z3 _ _ h2)
            generalize upd (upd H2 q3 (.tup [V.int (l + 1), V.int r2.2.1, V.str r2.2.2])) q (.lst (u2 ++ [.ref q3])) = H3 at s3 h3 t3 ⊢
            rw [if_pos cl] at rc
            have ov : over rs f l w' = ((left rs f ++ [(f, l, w')]) ++ [((l + 1, r2.2.1, r2.2.2) : Rw)]) ++ rs.drop (cnt (ends rs) (l + 1) + 1) := by unfold over; rw [rc]; simp
            have hN : cnt (ends rs) (l + 1) + 1 ≤ rs.length := ce
            refine (nm rfl (ii rfl rfl ?_))
            dsimp only []
            rw [show ((cnt (ends rs) (l + 1) : Nat) : Int) + 1 = ((cnt (ends rs) (l + 1) + 1 : Nat) : Int) from rfl]
            generalize cnt (ends rs) (l + 1) + 1 = N at ov hN ⊢
            exact fin2 H3 N ⟨s3, _, _, h3, t3, sn2 l2, ov, hN⟩
          · rw [if_neg cl] at rc
            refine iteDn cl ?_
            exact fin2 H2 (cnt (ends rs) (l + 1)) ⟨s2, _, _, h2, t2, Nat.le_trans l2 (by decide), by unfold over; rw [rc]; simp, Nat.le_of_lt ce⟩
        · rw [List.getElem?_eq_none (Nat.not_lt.mp ce)] at rc
          dsimp only at rc
          refine iteDn (fun z => ce (Int.ofNat_lt.mp (lu ▸ z))) (iteF ?_)
          have hce := cnt_le (ends rs) (l + 1)
          rw [List.length_map] at hce
          exact fin2 H2 (cnt (ends rs) (l + 1)) ⟨s2, _, _, h2, t2, Nat.le_trans l2 (by decide), by unfold over; rw [rc, List.drop_of_length_le (Nat.not_lt.mp ce)]; simp, hce⟩
      · rintro H3 N ⟨s3, u3, X, h3, t3, l3, ov, hN⟩
        refine (nm rfl (nm rfl (nm rfl ⟨_, rfl, _, _, rfl, SqL.of (s3 _ _ hp), fun q5 hq5 => ?_⟩)))
        dsimp only []
        rw [cut_drop us N (lu ▸ hN)]
        have s5 := same_upd (o := .lst (us.drop N)) hq5
        refine ⟨_, _, _, _, rfl, rfl, s5 _ _ h3, upd_same, fits (by rw [List.length_drop]; exact Nat.le_trans (Nat.add_le_add l3 (Nat.le_trans (Nat.sub_le _ _) (lu ▸ hl))) (by decide)), fun q6 hq6 => ?_⟩
        have s6 := same_upd (o := .lst (u3 ++ us.drop N)) hq6
        refine k q6 _ (s3.free (s5.free hq6)) ((s3.trans s5).trans s6) ⟨_, upd_same, ?_⟩
        have tt := ((t3.same (s5.trans s6)).app ((ht.same ((s3.trans s5).trans s6)).drop N))
        rw [← List.map_drop, ← List.map_append] at tt
        rw [ov]
        exact tt
set_option maxHeartbeats 4000000 in
theorem okOverlay (T : Txt K mg a) : FnOk P w K mg base CX0 3 a.fOverlay a.gOverlay ["rows"] spOv := by
  refine T.dOverlay.fn.ok scOverlay (fun vs H Q E h => ?_) (fun cdv A outer s H vs Q E hr h => ?_)
  · exact spOv_elim (P := fun vs => vs.length = _) h fun _ _ _ _ _ _ _ _ => rfl
  · refine spOv_elim (P := fun vs => ∃ t, PSs _ _ t ∧ t _ (L2.start _ vs) H) h fun p rs us hp ht ok hl k => ?_
    refine ⟨_, (pss_cons (ps_set (i := 1) scOverlay.nd rfl (Or.inl rfl) (pe_lst pa_nil))
      (pss_cons (ps_for PassesOwn.never rfl (pi_list (pv 0)) (pg_tup rfl (pgs_cons (pg_name (i := 2) scOverlay.nd rfl (Or.inl rfl)) (pgs_cons (pg_name (i := 3) scOverlay.nd rfl (Or.inl rfl)) (pgs_cons (pg_name (i := 4) scOverlay.nd rfl (Or.inl rfl)) pgs_nil)))) (pss_one (ps_set (i := 1) scOverlay.nd rfl (Or.inl rfl) (pe_call (okLaidOver T) (hr.mono (by decide)) rfl T.dLaidOver.mgx T.dLaidOver.fn.kp T.dLaidOver.bd .nil pass0 (pa_cons (pv 1) (pa_cons (pv 2) (pa_cons (pv 3) (pa_cons (pv 4) pa_nil star_nam) star_nam) star_nam) star_nam)))))
      (pss_one (ps_ret (pe_call (okJoined T) (hr.mono (by decide)) rfl T.dJoined.mgx T.dJoined.fn.kp T.dJoined.bd .nil pass0 (pa_cons (pv 1) pa_nil star_nam)))))), ?_⟩
    refine ⟨fit0, fun q hq => ?_⟩
    have lu := At.len ht
    refine (nm rfl ⟨_, rfl, ⟨_, SqL.of (same_upd hq _ _ hp)⟩, for_list (K := K) (a := p) (xs := us) (fun i σ H' => Same H H' ∧ ∃ (q : Addr) (v3 v4 v5 : Option V), σ = [some (.ref p), some (.ref q), v3, v4, v5] ∧ H q = none ∧ At H' q (lay (rs.take i)))
      ⟨same_upd hq, q, none, none, none, rfl, hq, [], upd_same, .nil⟩ (fun i σ H' _ h => SqL.of (h.1 _ _ hp)) ?_ ?_⟩)
    · rintro i x σ H' hx ⟨s0, q0, v3, v4, v5, rfl, n0, at0⟩
      obtain ⟨a, t, rfl, h1, h2⟩ := ht.get' hx
      obtain ⟨r, h3, rfl⟩ := map_get h1
      have okt := lay_take ok i
      have hd := (lay_ok okt).1
      have hlen := lay_len okt
      have hr := ok r (List.mem_of_getElem? h3)
      refine ⟨_, _, rfl, SqT.of (s0 _ _ h2), rfl, _, _, rfl, _, _, rfl, _, _, rfl, rfl, ?_⟩
      refine (nm rfl (nm rfl (nm rfl (nm rfl ⟨_, _, _, _, _, rfl, at0, hd, hr, Nat.le_trans hlen (Nat.le_trans (Nat.mul_le_mul_left 3 (Nat.le_trans (List.length_take_le' _ _) hl)) (by decide)), fun q1 H1 n1 s1 at1 => ?_⟩))))
      refine ⟨s0.trans s1, q1, _, _, _, rfl, s0.free n1, ?_⟩
      rw [take_snoc h3, lay_snoc]
      exact at1
    · rintro σ H' ⟨s0, q0, v3, v4, v5, rfl, n0, at0⟩
      rw [lu, List.take_length] at at0
      have hlen := lay_len ok
      exact (nm rfl ⟨_, _, V.str, _, _, rfl, fun _ _ z => V.str.inj z, fun _ _ => rfl, at0, Nat.le_trans hlen (Nat.le_trans (Nat.mul_le_mul_left 3 hl) (by decide)), fun q1 H1 n1 s1 at1 => k q1 H1 (s0.free n1) (s0.trans s1) at1⟩)
set_option maxHeartbeats 4000000 in
theorem okDayOfYear (T : Txt K mg a) : FnOk P w K mg base CX0 4 a.fDayOfYear a.gDayOfYear ["day"] spDoy := by
  refine T.dDayOfYear.fn.ok scDayOfYear (fun vs H Q E h => ?_) (fun cdv A outer s H vs Q E hr h => ?_)
  · exact spDoy_elim (P := fun vs => vs.length = _) h fun _ _ _ => rfl
  · refine spDoy_elim (P := fun vs => ∃ t, PSs _ _ t ∧ t _ (L2.start _ vs) H) h fun n h0 k => ?_
    refine ⟨_, (pss_cons (ps_set (i := 1) scDayOfYear.nd rfl (Or.inl rfl) (pe_call (okDateOf T) (hr.mono (by decide)) rfl T.dDateOf.mgx T.dDateOf.fn.kp T.dDateOf.bd .nil pass0 (pa_cons (pv 0) pa_nil star_nam)))
      (pss_one (ps_ret (pe_op op_sub (pe_op op_add (pe_op op_mul pe_int (pe_op op_sub (pe_ix ix_tup (pv 1) pe_int (fun _ _ => rfl)) pe_int)) (pe_ix ix_tup (pv 1) pe_int (fun _ _ => rfl))) pe_int)))), ?_⟩
    refine (nm rfl ⟨_, rfl, h0, fun p hp => ?_⟩)
    have k1 := k _ (same_upd (o := .tup [V.int (yo (n / 7)), V.int (n / 7 - fw (yo (n / 7)) + 1), V.int (n % 7 + 1)]) hp)
    refine (nm rfl (tx (SqT.of upd_same) rfl (ii rfl rfl (ic rfl rfl (mulL (by decide) (by decide)) (nm rfl (tx (SqT.of upd_same) rfl (ii rfl rfl (ii rfl rfl ?_))))))))
    have e : 7 * (n / 7 - fw (yo (n / 7)) + 1 - 1) + (n % 7 + 1) - 1 = doy n := by unfold doy; omega
    show Q (.int (7 * (n / 7 - fw (yo (n / 7)) + 1 - 1) + (n % 7 + 1) - 1)) _
    rw [e]
    exact k1
set_option maxHeartbeats 4000000 in
theorem okIsFreeWithin (T : Txt K mg a) : FnOk P w K mg base CX0 1 a.fIsFreeWithin a.gIsFreeWithin ["within", "week", "yearly"] spFyw := by
  refine T.dIsFreeWithin.fn.ok scIsFreeWithin (fun vs H Q E h => ?_) (fun cdv A outer s H vs Q E hr h => ?_)
  · exact spFyw_elim (P := fun vs => vs.length = _) h fun _ _ _ _ _ _ _ _ _ _ _ => rfl
  · refine spFyw_elim (P := fun vs => ∃ t, PSs _ _ t ∧ t _ (L2.start _ vs) H) h fun i pw py wk' yr hw us hy ty hl k => ?_
    refine ⟨_, (pss_one (ps_ret (pe_or (pe_cmpR op_in_seq (pe_op op_add (pe_op op_mod (pv 0) pe_int) pe_int) (pv 1) (by with_unfolding_all rfl)) (pe_one (pe_callB (call_anyB rfl) (by rfl) T.n_any boot_any (pa_cons (pe_comp (N := ["first", "last", "within"]) (js := [none, none, some 0]) (XN := ["within", "week", "yearly"]) (xs := defScope sIsFreeWithin) rfl rfl rfl (by decide +kernel) (pi_list (pv 2)) (fun _ _ _ _ _ _ => (pg_tupC (K := K) rfl (n := 2) rfl (pgs_cons (pg_name (i := 0) (show List.Nodup (["first", "last", "within"] : List Str) from by decide +kernel) rfl (Or.inl rfl) (Or.inr rfl)) (pgs_cons (pg_name (i := 1) (show List.Nodup (["first", "last", "within"] : List Str) from by decide +kernel) rfl (Or.inl rfl) (Or.inr rfl)) pgs_nil)))) (fun _ _ _ _ _ _ => pts_nil) (fun _ _ _ _ _ _ => (pe_chain op_le op_le (pv 0) (pv 2) (pv 1)))) pa_nil star_cmp)))))), ?_⟩
    refine (nm rfl (ic rfl rfl (pos (by decide)) (ii rfl rfl (nm rfl ⟨_, _, rfl, .inl (SqL.of hw), rfl, flat_ints _, (nm rfl ?_)⟩))))
    show if inV (.int (i % 7 + 1)) (wk'.map V.int) = true then _ else _
    rw [inV_ints]
    have k0 := fun H' s => k H' s
    unfold fy at k0
    cases ew : wk'.contains (i % 7 + 1) with
    | true =>
      rw [ew, Bool.true_or] at k0
      exact iteT (k0 _ (Same.refl H))
    | false =>
      rw [ew] at k0
      have lu : us.length = yr.length := by rw [ty.length, List.length_map]
      refine iteF (nm rfl ⟨_, rfl, ⟨_, SqL.of hy⟩, ?_⟩)
      let f : V → V := fun v => match v with
        | .ref b => match H b with
          | some (.tup [.int x, .int y]) => .bl (decide (x ≤ i) && decide (i ≤ y))
          | _ => .non
        | _ => .non
      refine comp_grow f (fun σ' => ∃ v1 v2, σ' = [v1, v2, some (.int i)]) (feeds_list (SqL.of hy)) (fits (by omega)) ⟨none, none, rfl⟩ (fun v σ' H' RR hv sm s1 q => ?_) (gk_tup fun xs σ' H' RR RR' h z => ?_) fun p2 H2 hp2 s2 e2 => ?_
      · obtain ⟨v1, v2, rfl⟩ := s1
        obtain ⟨j, hj⟩ := List.getElem?_of_mem hv
        obtain ⟨b, t, rfl, g1, g2⟩ := ty.get' hj
        obtain ⟨r, _, rfl⟩ := map_getP g1
        have ef : f (.ref b) = .bl (decide (r.1 ≤ i) && decide (i ≤ r.2)) := by show (match H b with | some (.tup [.int x, .int y]) => V.bl (decide (x ≤ i) && decide (i ≤ y)) | _ => .non) = _; rw [g2]; rfl
        have q := q [some (.int r.1), some (.int r.2), some (.int i)] H' ⟨_, _, rfl⟩ (Same.refl H')
        rw [ef] at q
        refine ⟨_, _, rfl, SqT.of (sm _ _ g2), rfl, _, _, rfl, _, _, rfl, rfl, (nm rfl (nm rfl (ii rfl rfl (nm rfl ?_))))⟩
        by_cases c1 : r.1 ≤ i
        · rw [decide_eq_true c1, Bool.true_and] at q
          exact iteD c1 (nm rfl (ii rfl rfl q))
        · rw [decide_eq_false c1, Bool.false_and] at q
          exact iteDn c1 q
      · obtain ⟨x1, y1, e1, x2, y2, e2, z⟩ := z
        exact ⟨x1, y1, e1, x2, y2, e2, ⟨z.1, h _ _ z.2⟩⟩
      have em : us.map f = (yr.map fun r => decide (r.1 ≤ i) && decide (i ≤ r.2)).map V.bl := by
        rw [List.map_map]
        exact tups_map (g := f) ty fun b r hb => by show (match H b with | some (.tup [.int x, .int y]) => V.bl (decide (x ≤ i) && decide (i ≤ y)) | _ => .non) = _; rw [hb]; rfl
      refine ⟨p2, yr.map fun r => decide (r.1 ≤ i) && decide (i ≤ r.2), rfl, SqL.of (by rw [e2, em]), ?_⟩
      show Q (.bl ((yr.map fun r => decide (r.1 ≤ i) && decide (i ≤ r.2)).any fun b => b)) _
      rw [List.any_map]
      exact k0 _ s2
set_option maxHeartbeats 4000000 in
theorem okCountedUp (T : Txt K mg a) : FnOk P w K mg base CX0 1 a.fCountedUp a.gCountedUp ["free_days"] spCu := by
  refine T.dCountedUp.fn.ok scCountedUp (fun vs H Q E h => ?_) (fun cdv A outer s H vs Q E hr h => ?_)
  · exact spCu_elim (P := fun vs => vs.length = _) h fun _ _ _ _ _ => rfl
  · refine spCu_elim (P := fun vs => ∃ t, PSs _ _ t ∧ t _ (L2.start _ vs) H) h fun p bs hp hl k => ?_
    refine ⟨_, (pss_cons (ps_set (i := 1) scCountedUp.nd rfl (Or.inl rfl) (pe_lst (pa_cons pe_int pa_nil star_con)))
      (pss_cons (ps_for PassesOwn.never rfl (pi_list (pv 0)) (pg_name (i := 2) scCountedUp.nd rfl (Or.inl rfl)) (pss_one (ps_expr (pe_bm PySem.F.plainAttrs_list PySem.F.slot_list_append PySem.F.type_list_append mt_append (pv 1) (pa_cons (pe_ifExp (pt_val (pv 2)) (pe_ix ix_list (pv 1) (pe_un un_neg pe_int) (fun _ _ => rfl)) (pe_op op_add (pe_ix ix_list (pv 1) (pe_un un_neg pe_int) (fun _ _ => rfl)) pe_int)) pa_nil star_ife)))))
      (pss_one (ps_ret (pv 1))))), ?_⟩
    refine ⟨fits (by show 1 ≤ 100000; decide), fun q hq => ?_⟩
    have s1 := same_upd (o := .lst [V.int 0]) hq
    refine (nm rfl ⟨_, rfl, ⟨_, SqL.of (s1 _ _ hp)⟩, for_list (K := K) (a := p) (xs := bs.map V.bl) (fun i σ H' => Same H H' ∧ H' q = some (.lst (((List.range (i + 1)).map fun k => opn bs k).map V.int)) ∧ ∃ v : Option V, σ = [some (.ref p), some (.ref q), v])
      ⟨s1, upd_same, none, rfl⟩ (fun i σ H' _ h => SqL.of (h.1 _ _ hp)) ?_ ?_⟩)
    · rintro i x σ H' hx ⟨s0, h0, v, rfl⟩
      rw [List.getElem?_map] at hx
      cases ex : bs[i]? with
      | none => rw [ex] at hx; cases hx
      | some b =>
        rw [ex] at hx
        cases hx
        have hi : i < bs.length := (List.getElem?_eq_some_iff.mp ex).1
        have eL : ∀ m, ((List.range (m + 1)).map fun k => opn bs k).map V.int = ((List.range m).map fun k => opn bs k).map V.int ++ [V.int (opn bs m)] := fun m => by
          rw [List.range_succ, List.map_append, List.map_append]; rfl
        have hl2 : (((List.range (i + 1)).map fun k => opn bs k).map V.int).length ≤ 90000 := by rw [List.length_map, List.length_map, List.length_range]; omega
        have h1 := h0
        rw [eL] at h1
        have fin : ∀ z, z = opn bs (i + 1) → Same H (upd H' q (.lst (((List.range (i + 1)).map fun k => opn bs k).map V.int ++ [V.int z]))) ∧ upd H' q (.lst (((List.range (i + 1)).map fun k => opn bs k).map V.int ++ [V.int z])) q = some (.lst (((List.range (i + 1 + 1)).map fun k => opn bs k).map V.int)) ∧ True := fun z ez => by
          subst ez
          exact ⟨same_add s0 hq, by rw [upd_same, eL (i + 1)], trivial⟩
        refine (nm rfl ⟨.inl ⟨rfl, _, SqL.of h0⟩, (nm rfl (nm rfl ?_))⟩)
        cases b with
        | true =>
          obtain ⟨f1, f2, _⟩ := fin (opn bs i) (by rw [opn_succ ex]; rfl)
          exact iteT (nm rfl (nm rfl (lx (SqL.of h1) (atI_last _ _) ⟨_, _, _, rfl, rfl, h0, lt1000 hl2, f1, f2, _, rfl⟩)))
        | false =>
          obtain ⟨f1, f2, _⟩ := fin (opn bs i + 1) (by rw [opn_succ ex]; rfl)
          exact iteF (nm rfl (nm rfl (lx (SqL.of h1) (atI_last _ _) (ii rfl rfl ⟨_, _, _, rfl, rfl, h0, lt1000 hl2, f1, f2, _, rfl⟩))))
    · rintro σ H' ⟨s0, h0, v, rfl⟩
      rw [List.length_map] at h0
      exact (nm rfl (k q H' hq s0 h0))
set_option maxHeartbeats 4000000 in
theorem okNoTableInit (T : Txt K mg a) : FnOk P w K mg base CX0 1 a.fNoTableInit a.gNoTableInit ["self", "part", "at"] (spI2 K) := by
  refine T.dNoTableInit.fn.ok scNoTableInit (fun vs H Q E h => ?_) (fun cdv A outer s H vs Q E hr h => ?_)
  · exact spI2_elim (P := fun vs => vs.length = _) h fun _ _ _ _ _ _ _ _ _ _ => rfl
  · refine spI2_elim (P := fun vs => ∃ t, PSs _ _ t ∧ t _ (L2.start _ vs) H) h fun x C y z ini hx xa n1 n2 k => ?_
    refine ⟨_, (pss_cons (ps_expr (pe_binit T.b_CourtError rfl T.m_CourtError (pa_cons (pv 0) (pa_cons (pv 1) (pa_cons (pv 2) pa_nil star_nam) star_nam) star_nam)))
      (pss_cons (ps_xfld (pv 0) (pv 1) rfl)
      (pss_one (ps_xfld (pv 0) (pv 2) rfl)))), ?_⟩
    refine (nm rfl (nm rfl (nm rfl ⟨x, C, none, [y, z], ini, rfl, hx, xa.xc, fits (show 2 ≤ 100000 by decide), ?_⟩)))
    refine (nm rfl (nm rfl ⟨x, C, true, rfl, xa.set n1, .inl ⟨hx, fun dx hd => ?_⟩⟩))
    have ne : dx ≠ x := fun q => by rw [q, hx] at hd; cases hd
    refine (nm rfl (nm rfl ⟨x, C, true, rfl, xa.set n2, .inr ⟨dx, _, upd_same, (by rw [upd_ne ne]; exact upd_same), by show 1 < 900; decide, ?_⟩⟩))
    exact k dx _ hd (fun b o hb e => by rw [upd_ne (ne_of_none e hd), upd_ne hb, upd_ne (ne_of_none e hd)]; exact e) (by rw [upd_ne (Ne.symm ne)]; exact upd_same) upd_same
set_option maxHeartbeats 4000000 in
theorem okIsWeekday (T : Txt K mg a) : FnOk P w K mg base CX0 2 a.fIsWeekday a.gIsWeekday ["thing"] spWd7 := by
  refine T.dIsWeekday.fn.ok scIsWeekday (fun vs H Q E h => ?_) (fun cdv A outer s H vs Q E hr h => ?_)
  · exact spWd7_elim (P := fun vs => vs.length = _) h fun _ _ _ _ => rfl
  · refine spWd7_elim (P := fun vs => ∃ t, PSs _ _ t ∧ t _ (L2.start _ vs) H) h fun v od k kn => ?_
    refine ⟨_, (pss_one (ps_ret (pe_and (pe_call (okIsWhole T) (hr.mono (by decide)) rfl T.dIsWhole.mgx T.dIsWhole.fn.kp T.dIsWhole.bd .nil pass0 (pa_cons (pv 0) pa_nil star_nam)) (pe_one (pe_chain op_le op_le pe_int (pv 0) pe_int))))), ?_⟩
    cases ew : wh v with
    | false => exact (nm rfl ⟨v, rfl, od, (nm rfl (by rw [ew]; exact iteF (kn fun ⟨n, e, _⟩ => by rw [e] at ew; cases ew)))⟩)
    | true =>
      obtain ⟨n, rfl⟩ := wh_int ew
      refine (nm rfl ⟨_, rfl, od, (nm rfl (iteT (nm rfl (ii rfl rfl (nm rfl (ite2 (fun c => (ii rfl rfl ?_)) (fun c => kn fun ⟨m, e, h, _⟩ => by cases e; exact c (decide_eq_true h))))))))⟩)
      have c := of_decide_eq_true c
      show Q (.bl (decide (n ≤ 7))) H
      by_cases c2 : n ≤ 7
      · rw [decide_eq_true c2]; exact k ⟨n, rfl, c, c2⟩
      · rw [decide_eq_false c2]; exact kn fun ⟨m, e, _, h⟩ => by cases e; exact c2 h
set_option maxHeartbeats 4000000 in
theorem okRefuseWeek (T : Txt K mg a) : FnOk P w K mg base (CX1 P w) 3 a.fRefuseWeek a.gRefuseWeek ["week"] (spRefW7 a) := by
  refine okX T.dRefuseWeek.fn scRefuseWeek (fun vs H Q E h => ?_) (fun cdv A outer s H vs Q E hr h => ?_)
  · exact spRefW7_elim (P := fun vs => vs.length = _) h fun _ _ _ _ _ _ => rfl
  · refine spRefW7_elim (P := fun vs => ∃ t, PSs _ _ t ∧ t _ (L2.start _ vs) H) h fun p ws hp od k kx => ?_
    refine ⟨_, (pss_one (ps_for PassesOwn.leaving rfl (pi_enum rfl T.n_enumerate (pa_cons (pv 0) pa_nil star_nam)) (pg_tup rfl (pgs_cons (pg_name (i := 1) scRefuseWeek.nd rfl (Or.inl rfl)) (pgs_cons (pg_name (i := 2) scRefuseWeek.nd rfl (Or.inl rfl)) pgs_nil))) (pss_one (ps_if (PW.pt (pw_or (pt_cmpR op_eq (pv 1) (pe_glob (v := .int 6) rfl T.g_MOST_WEEKDAYS.choose_spec ⟨_, rfl⟩) (nomark _)) (pw_or (pt_not (pt_val (pe_call (okIsWeekday T) (hr.mono (by decide)) rfl T.dIsWeekday.mgx T.dIsWeekday.fn.kp T.dIsWeekday.bd .nil pass0 (pa_cons (pv 2) pa_nil star_nam)))) (pw_or1 (pt_cmpR op_in_seq (pv 2) (pe_slice sl_list (pv 0) po_none (po_some (pv 1))) (by with_unfolding_all rfl)))))) (pss_one (ps_raise rfl (Takes.at takes_fn) (pe_excI T.x_NoTable.xc T.dNoTableInit.ty (okNoTableInit T) (hr.mono (by decide)) rfl T.m_NoTable T.x_NoTable.kp T.dNoTableInit.bd .nil pass0 (pa_cons pe_str (pa_cons (pv 1) pa_nil star_nam) star_con)))) pss_nil)))), ?_⟩
    refine (nm rfl ⟨_, _, rfl, hp, for_enum (K := K) (a := p) (xs := ws) (fun i σ H' => Same H H' ∧ (∀ j < i, gW ws j) ∧ ∃ v1 v2 : Option V, σ = [some (.ref p), v1, v2]) ⟨Same.refl H, fun j hj => absurd hj (Nat.not_lt_zero _), none, none, rfl⟩ (fun i σ H' _ h => SqL.of (h.1 _ _ hp)) ?_ ?_⟩)
    · rintro i v t σ H' hv ⟨s0, al, v1, v2, rfl⟩ hn
      have hi : i < ws.length := (List.getElem?_eq_some_iff.mp hv).1
      have s1 := s0.trans (same_upd (o := .tup [V.int (i : Int), v]) hn)
      have et := upd_same (H := H') (a := t) (o := .tup [V.int (i : Int), v])
      generalize upd H' t _ = H1 at s1 et ⊢
      have ov := (od v (List.mem_of_getElem? hv)).same s1
      refine ⟨_, _, rfl, SqT.of et, rfl, _, _, rfl, _, _, rfl, rfl, ?_⟩
      refine (nm rfl ⟨rfl, (nm rfl (ite2 (fun c => ?_) (fun c => ?_)))⟩)
      · have c : (i : Int) = 6 := V.int.inj (of_decide_eq_true c)
        exact (nm rfl ⟨fits (show 2 ≤ 100000 by decide), fun x1 n1 => ⟨x1, a.cNoTable, _, _, _, rfl, upd_same, T.x_NoTable, xno_of T.n_NoTable (by decide), xno_of T.n_NoTable (by decide), fun d1 H6 hd1 kp o1 od1 => ⟨rfl, x1, _, some d1, rfl, o1, ⟨_, od1⟩, T.r_NoTable, kx i ⟨hi, fun g => by have := g.1; omega, al⟩ x1 d1 _ (same_add ((s1).trans (keep_same n1 kp)) ((s1).free n1)) upd_same ((upd_ne (fun z => by rw [z, upd_same] at hd1; cases hd1)).trans od1)⟩⟩⟩)
      have n6 : i < 6 := by
        by_cases z : 6 < i
        · have := (al 6 z).1; omega
        · have : i ≠ 6 := fun e => c (decide_eq_true (by rw [e]; rfl))
          omega
      refine (nm rfl ⟨v, rfl, ov, fun g => (nm rfl (iteF ?_)), fun g => (nm rfl (iteT ?_))⟩)
      · obtain ⟨wk1, e1, ok1, l1⟩ := ints_of al
        refine (nm rfl (nm rfl (nm rfl ⟨_, rfl, _, _, rfl, SqL.of (s1 _ _ hp), fun q hq => ?_⟩)))
        rw [cut_take ws i (Nat.le_of_lt hi), e1]
        have s2 := s1.trans (same_upd (o := .lst (wk1.map V.int)) hq)
        have eq := upd_same (H := H1) (a := q) (o := .lst (wk1.map V.int))
        generalize upd H1 q _ = H2 at s2 eq ⊢
        obtain ⟨n, rfl, n1', n7⟩ := g
        refine ⟨_, _, rfl, .inl (SqL.of eq), rfl, flat_ints _, (nm rfl ?_)⟩
        show if inV (.int n) (wk1.map V.int) = true then _ else _
        rw [inV_ints]
        cases ec : wk1.contains n with
        | true =>
          refine iteT ?_
          exact (nm rfl ⟨fits (show 2 ≤ 100000 by decide), fun x1 n1 => ⟨x1, a.cNoTable, _, _, _, rfl, upd_same, T.x_NoTable, xno_of T.n_NoTable (by decide), xno_of T.n_NoTable (by decide), fun d1 H6 hd1 kp o1 od1 => ⟨rfl, x1, _, some d1, rfl, o1, ⟨_, od1⟩, T.r_NoTable, kx i ⟨hi, fun g => by obtain ⟨_, u, hu, _, nm⟩ := g; rw [hv] at hu; cases hu; exact nm (by rw [e1]; exact List.mem_map.mpr ⟨n, List.contains_iff_mem.mp ec, rfl⟩), al⟩ x1 d1 _ (same_add ((s2).trans (keep_same n1 kp)) ((s2).free n1)) upd_same ((upd_ne (fun z => by rw [z, upd_same] at hd1; cases hd1)).trans od1)⟩⟩⟩)
        | false =>
          refine iteF ⟨s2, fun j hj => ?_, _, _, rfl⟩
          by_cases z : j = i
          · subst z
            refine ⟨n6, _, hv, ⟨n, rfl, n1', n7⟩, fun m => ?_⟩
            rw [e1] at m
            obtain ⟨n', m', e'⟩ := List.mem_map.mp m
            cases e'
            rw [List.contains_iff_mem.mpr m'] at ec
            cases ec
          · exact al j (by omega)
      · exact (nm rfl ⟨fits (show 2 ≤ 100000 by decide), fun x1 n1 => ⟨x1, a.cNoTable, _, _, _, rfl, upd_same, T.x_NoTable, xno_of T.n_NoTable (by decide), xno_of T.n_NoTable (by decide), fun d1 H6 hd1 kp o1 od1 => ⟨rfl, x1, _, some d1, rfl, o1, ⟨_, od1⟩, T.r_NoTable, kx i ⟨hi, fun gg => by obtain ⟨_, u, hu, gu, _⟩ := gg; rw [hv] at hu; cases hu; exact g gu, al⟩ x1 d1 _ (same_add ((s1).trans (keep_same n1 kp)) ((s1).free n1)) upd_same ((upd_ne (fun z => by rw [z, upd_same] at hd1; cases hd1)).trans od1)⟩⟩⟩)
    · rintro σ H' ⟨s0, al, v1, v2, rfl⟩
      exact k al _ s0
set_option maxHeartbeats 4000000 in
theorem okIsYearly (T : Txt K mg a) : FnOk P w K mg base CX0 3 a.fIsYearly a.gIsYearly ["thing"] spYr7 := by
  refine T.dIsYearly.fn.ok scIsYearly (fun vs H Q E h => ?_) (fun cdv A outer s H vs Q E hr h => ?_)
  · exact spYr7_elim (P := fun vs => vs.length = _) h fun _ _ _ _ _ _ _ _ => rfl
  · refine spYr7_elim (P := fun vs => ∃ t, PSs _ _ t ∧ t _ (L2.start _ vs) H) h fun p x y hp ox oy k kn => ?_
    refine ⟨_, (pss_cons (ps_if (pt_not (PW.pt (pw_and (pt_val (pe_callB call_isi (by rfl) T.n_isinstance boot_isinstance (pa_cons (pv 0) (pa_cons (pe_bltn (v := .ty "tuple") rfl T.n_tuple boot_tuple rfl) pa_nil star_nam) star_nam))) (pw_and1 (pt_cmpR op_eq (pe_callB call_len (by rfl) T.n_len boot_len (pa_cons (pv 0) pa_nil star_nam)) pe_int (nomark _)))))) (pss_one (ps_ret pe_bl)) pss_nil)
      (pss_one (ps_ret (pe_and (pe_call (okIsStretchOf T) (hr.mono (by decide)) rfl T.dIsStretchOf.mgx T.dIsStretchOf.fn.kp T.dIsStretchOf.bd .nil pass0 (pa_cons (pe_ix ix_tup (pv 0) pe_int (fun _ _ => rfl)) (pa_cons (pe_ix ix_tup (pv 0) pe_int (fun _ _ => rfl)) (pa_cons (pe_glob (v := .int 30) rfl T.g_MOST_YEARLY_DAYS.choose_spec ⟨_, rfl⟩) pa_nil star_nam) star_sub) star_sub)) (pe_one (pe_cmpR op_lt (pe_ix ix_tup (pv 0) pe_int (fun _ _ => rfl)) (pe_glob (v := .int 364) rfl T.g_SHORT_YEAR.choose_spec ⟨_, rfl⟩) (nomark _))))))), ?_⟩
    refine (nm rfl ⟨_, _, _, _, rfl, .tup hp, kit_tuple_tuple, (nm rfl (iteT (nm rfl ⟨_, _, rfl, .inr ⟨_, SqT.of hp, rfl⟩, rfl, (nm rfl (iteF ?_))⟩)))⟩)
    refine (nm rfl (tx (SqT.of hp) rfl (nm rfl (tx (SqT.of hp) rfl ⟨x, y, _, rfl, ox, oy, fun g => (nm rfl (iteT (nm rfl (tx (SqT.of hp) rfl ?_)))), fun g => (nm rfl (iteF (kn fun ⟨f, l, e1, e2, h0, h1, h2, _⟩ => g ⟨f, l, e1, e2, h0, h1, h2⟩)))⟩))))
    obtain ⟨f, l, rfl, rfl, h0, h1, h2⟩ := g
    refine (ii rfl rfl ?_)
    show Q (.bl (decide (l < 364))) H
    by_cases c : l < 364
    · rw [decide_eq_true c]; exact k ⟨f, l, rfl, rfl, h0, h1, h2, c⟩
    · rw [decide_eq_false c]; exact kn fun ⟨_, _, e1, e2, _, _, _, h⟩ => by cases e1; cases e2; exact c h
set_option maxHeartbeats 4000000 in
theorem okRefuseYearly (T : Txt K mg a) : FnOk P w K mg base (CX1 P w) 4 a.fRefuseYearly a.gRefuseYearly ["yearly"] (spRefY7 a) := by
  refine okX T.dRefuseYearly.fn scRefuseYearly (fun vs H Q E h => ?_) (fun cdv A outer s H vs Q E hr h => ?_)
  · exact spRefY7_elim (P := fun vs => vs.length = _) h fun _ _ _ _ _ _ _ => rfl
  · refine spRefY7_elim (P := fun vs => ∃ t, PSs _ _ t ∧ t _ (L2.start _ vs) H) h fun p us ys hp ot k kx => ?_
    refine ⟨_, (pss_one (ps_for PassesOwn.leaving rfl (pi_enum rfl T.n_enumerate (pa_cons (pv 0) pa_nil star_nam)) (pg_tup rfl (pgs_cons (pg_name (i := 1) scRefuseYearly.nd rfl (Or.inl rfl)) (pgs_cons (pg_name (i := 2) scRefuseYearly.nd rfl (Or.inl rfl)) pgs_nil))) (pss_one (ps_if (PW.pt (pw_or (pt_cmpR op_eq (pv 1) (pe_glob (v := .int 4) rfl T.g_MOST_YEARLY.choose_spec ⟨_, rfl⟩) (nomark _)) (pw_or1 (pt_not (pt_val (pe_call (okIsYearly T) (hr.mono (by decide)) rfl T.dIsYearly.mgx T.dIsYearly.fn.kp T.dIsYearly.bd .nil pass0 (pa_cons (pv 2) pa_nil star_nam))))))) (pss_one (ps_raise rfl (Takes.at takes_fn) (pe_excI T.x_NoTable.xc T.dNoTableInit.ty (okNoTableInit T) (hr.mono (by decide)) rfl T.m_NoTable T.x_NoTable.kp T.dNoTableInit.bd .nil pass0 (pa_cons pe_str (pa_cons (pv 1) pa_nil star_nam) star_con)))) pss_nil)))), ?_⟩
    have lu := ot.len
    refine (nm rfl ⟨_, _, rfl, hp, for_enum (K := K) (a := p) (xs := us) (fun i σ H' => Same H H' ∧ (∀ j < i, gY ys j) ∧ ∃ v1 v2 : Option V, σ = [some (.ref p), v1, v2]) ⟨Same.refl H, fun j hj => absurd hj (Nat.not_lt_zero _), none, none, rfl⟩ (fun i σ H' _ h => SqL.of (h.1 _ _ hp)) ?_ ?_⟩)
    · rintro i v t σ H' hv ⟨s0, al, v1, v2, rfl⟩ hn
      have hi : i < ys.length := by rw [← lu]; exact (List.getElem?_eq_some_iff.mp hv).1
      have s1 := s0.trans (same_upd (o := .tup [V.int (i : Int), v]) hn)
      have et := upd_same (H := H') (a := t) (o := .tup [V.int (i : Int), v])
      generalize upd H' t _ = H1 at s1 et ⊢
      obtain ⟨pt, x, y, rfl, ht, hpt, ox, oy⟩ := (ot.same s1).two hv
      refine ⟨_, _, rfl, SqT.of et, rfl, _, _, rfl, _, _, rfl, rfl, ?_⟩
      refine (nm rfl ⟨rfl, (nm rfl (ite2 (fun c => ?_) (fun c => ?_)))⟩)
      · have c : (i : Int) = 4 := V.int.inj (of_decide_eq_true c)
        exact (nm rfl ⟨fits (show 2 ≤ 100000 by decide), fun x1 n1 => ⟨x1, a.cNoTable, _, _, _, rfl, upd_same, T.x_NoTable, xno_of T.n_NoTable (by decide), xno_of T.n_NoTable (by decide), fun d1 H6 hd1 kp o1 od1 => ⟨rfl, x1, _, some d1, rfl, o1, ⟨_, od1⟩, T.r_NoTable, kx i ⟨hi, fun g => by have := g.1; omega, al⟩ x1 d1 _ (same_add ((s1).trans (keep_same n1 kp)) ((s1).free n1)) upd_same ((upd_ne (fun z => by rw [z, upd_same] at hd1; cases hd1)).trans od1)⟩⟩⟩)
      have n6 : i < 4 := by
        by_cases z : 4 < i
        · have := (al 4 z).1; omega
        · have : i ≠ 4 := fun e => c (decide_eq_true (by rw [e]; rfl))
          omega
      refine (nm rfl ⟨pt, x, y, rfl, hpt, ox, oy, fun g => (nm rfl (iteF ?_)), fun g => (nm rfl (iteT ?_))⟩)
      · refine ⟨s1, fun j hj => ?_, _, _, rfl⟩
        by_cases z : j = i
        · subst z
          exact ⟨n6, x, y, ht, g⟩
        · exact al j (by omega)
      · exact (nm rfl ⟨fits (show 2 ≤ 100000 by decide), fun x1 n1 => ⟨x1, a.cNoTable, _, _, _, rfl, upd_same, T.x_NoTable, xno_of T.n_NoTable (by decide), xno_of T.n_NoTable (by decide), fun d1 H6 hd1 kp o1 od1 => ⟨rfl, x1, _, some d1, rfl, o1, ⟨_, od1⟩, T.r_NoTable, kx i ⟨hi, fun gg => by obtain ⟨_, x1, y1, hu, gu⟩ := gg; rw [ht] at hu; cases hu; exact g gu, al⟩ x1 d1 _ (same_add ((s1).trans (keep_same n1 kp)) ((s1).free n1)) upd_same ((upd_ne (fun z => by rw [z, upd_same] at hd1; cases hd1)).trans od1)⟩⟩⟩)
    · rintro σ H' ⟨s0, al, v1, v2, rfl⟩
      exact k (lu ▸ al) _ s0
set_option maxHeartbeats 4000000 in
theorem okListOrEmpty (T : Txt K mg a) : FnOk P w K mg base CX0 1 a.fListOrEmpty a.gListOrEmpty ["things"] spOr := by
  refine T.dListOrEmpty.fn.ok scListOrEmpty (fun vs H Q E h => ?_) (fun cdv A outer s H vs Q E hr h => ?_)
  · obtain ⟨rfl, _⟩ | ⟨_, rfl, _⟩ := h
    all_goals rfl
  · obtain h := h
    refine ⟨_, (pss_one (ps_ret (pe_ifExp (pt_cmpR op_isN (pv 0) pe_non (nomark _)) (pe_lst pa_nil) (pv 0)))), ?_⟩
    rcases h with ⟨rfl, k⟩ | ⟨p, rfl, k⟩
    · exact (nm rfl ⟨rfl, (nm rfl (iteD rfl ⟨fit0, fun q hq => k q hq⟩))⟩)
    · exact (nm rfl ⟨rfl, (nm rfl (iteDn (fun z => nomatch z) (nm rfl k)))⟩)
set_option maxHeartbeats 4000000 in
theorem okIsRow (T : Txt K mg a) : FnOk P w K mg base CX0 3 a.fIsRow a.gIsRow ["row"] spRw7 := by
  refine T.dIsRow.fn.ok scIsRow (fun vs H Q E h => ?_) (fun cdv A outer s H vs Q E hr h => ?_)
  · exact spRw7_elim (P := fun vs => vs.length = _) h fun _ _ _ _ _ _ _ _ _ _ => rfl
  · refine spRw7_elim (P := fun vs => ∃ t, PSs _ _ t ∧ t _ (L2.start _ vs) H) h fun p x y z hp ox oy oz k kn => ?_
    refine ⟨_, (pss_one (ps_ret (pe_and (pe_call (okIsStretchOf T) (hr.mono (by decide)) rfl T.dIsStretchOf.mgx T.dIsStretchOf.fn.kp T.dIsStretchOf.bd .nil pass0 (pa_cons (pe_ix ix_tup (pv 0) pe_int (fun _ _ => rfl)) (pa_cons (pe_ix ix_tup (pv 0) pe_int (fun _ _ => rfl)) (pa_cons (pe_glob (v := .int 40) rfl T.g_MOST_ROW_DAYS.choose_spec ⟨_, rfl⟩) pa_nil star_nam) star_sub) star_sub)) (pe_and (pe_callB call_isi (by rfl) T.n_isinstance boot_isinstance (pa_cons (pe_ix ix_tup (pv 0) pe_int (fun _ _ => rfl)) (pa_cons (pe_bltn (v := .ty "str") rfl T.n_str boot_str rfl) pa_nil star_nam) star_sub)) (pe_one (pe_cmpR op_in_seq (pe_ix ix_tup (pv 0) pe_int (fun _ _ => rfl)) (pe_glob (v := .ref a.tWORDS) rfl T.g_WORDS rfl) (by with_unfolding_all rfl))))))), ?_⟩
    refine (nm rfl (tx (SqT.of hp) rfl (nm rfl (tx (SqT.of hp) rfl ⟨x, y, _, rfl, ox, oy, fun g => (nm rfl (iteT (nm rfl (tx (SqT.of hp) rfl ?_)))), fun g => (nm rfl (iteF (kn fun h => g h.1)))⟩))))
    cases oz with
    | non => exact ⟨_, _, _, _, rfl, .non, kit_non_str, (nm rfl (iteF (kn fun h => by rcases h.2 with z | z <;> cases z)))⟩
    | bl b => exact ⟨_, _, _, _, rfl, .bl _, kit_bool_str, (nm rfl (iteF (kn fun h => by rcases h.2 with z | z <;> cases z)))⟩
    | int b => exact ⟨_, _, _, _, rfl, .int _, kit_int_str, (nm rfl (iteF (kn fun h => by rcases h.2 with z | z <;> cases z)))⟩
    | lst hl => exact ⟨_, _, _, _, rfl, .lst hl, kit_lst_str, (nm rfl (iteF (kn fun h => by rcases h.2 with z | z <;> cases z)))⟩
    | str w1 =>
      refine ⟨_, _, _, _, rfl, .str _, kit_str_str, (nm rfl (iteT (nm rfl (tx (SqT.of hp) rfl ⟨_, _, rfl, .inr (T.s_WORDS _), rfl, rfl, ?_⟩))))⟩
      show Q (.bl (inV (.str w1) [.str (Str.ofString "free"), .str (Str.ofString "open")])) H
      by_cases c : w1 = Str.ofString "free" ∨ w1 = Str.ofString "open"
      · have e : inV (.str w1) [.str (Str.ofString "free"), .str (Str.ofString "open")] = true := by
          rcases c with z | z <;> rw [z] <;> decide +kernel
        rw [e]
        exact k ⟨g, c.imp (congrArg V.str) (congrArg V.str)⟩
      · have e : inV (.str w1) [.str (Str.ofString "free"), .str (Str.ofString "open")] = false := by
          show inV (.str w1) ([Str.ofString "free", Str.ofString "open"].map V.str) = false
          rw [inV_strs, Bool.eq_false_iff]
          intro z
          rcases List.mem_cons.mp (List.contains_iff_mem.mp z) with z | z
          · exact c (.inl z)
          · exact c (.inr (List.mem_singleton.mp z))
        rw [e]
        exact kn fun h => c (h.2.imp V.str.inj V.str.inj)
set_option maxHeartbeats 4000000 in
theorem okRefuseRows (T : Txt K mg a) : FnOk P w K mg base (CX1 P w) 4 a.fRefuseRows a.gRefuseRows ["rows"] (spRefR7 a) := by
  refine okX T.dRefuseRows.fn scRefuseRows (fun vs H Q E h => ?_) (fun cdv A outer s H vs Q E hr h => ?_)
  · exact spRefR7_elim (P := fun vs => vs.length = _) h fun _ _ _ _ _ _ _ => rfl
  · refine spRefR7_elim (P := fun vs => ∃ t, PSs _ _ t ∧ t _ (L2.start _ vs) H) h fun p us rs hp ot k kx => ?_
    refine ⟨_, (pss_one (ps_for PassesOwn.leaving rfl (pi_enum rfl T.n_enumerate (pa_cons (pv 0) pa_nil star_nam)) (pg_tup rfl (pgs_cons (pg_name (i := 1) scRefuseRows.nd rfl (Or.inl rfl)) (pgs_cons (pg_name (i := 2) scRefuseRows.nd rfl (Or.inl rfl)) pgs_nil))) (pss_one (ps_if (PW.pt (pw_or (pt_cmpR op_eq (pv 1) (pe_glob (v := .int 12) rfl T.g_MOST_ROWS.choose_spec ⟨_, rfl⟩) (nomark _)) (pw_or1 (pt_not (pt_val (pe_call (okIsRow T) (hr.mono (by decide)) rfl T.dIsRow.mgx T.dIsRow.fn.kp T.dIsRow.bd .nil pass0 (pa_cons (pv 2) pa_nil star_nam))))))) (pss_one (ps_raise rfl (Takes.at takes_fn) (pe_excI T.x_NoTable.xc T.dNoTableInit.ty (okNoTableInit T) (hr.mono (by decide)) rfl T.m_NoTable T.x_NoTable.kp T.dNoTableInit.bd .nil pass0 (pa_cons pe_str (pa_cons (pv 1) pa_nil star_nam) star_con)))) pss_nil)))), ?_⟩
    have lu := ot.len
    refine (nm rfl ⟨_, _, rfl, hp, for_enum (K := K) (a := p) (xs := us) (fun i σ H' => Same H H' ∧ (∀ j < i, gR rs j) ∧ ∃ v1 v2 : Option V, σ = [some (.ref p), v1, v2]) ⟨Same.refl H, fun j hj => absurd hj (Nat.not_lt_zero _), none, none, rfl⟩ (fun i σ H' _ h => SqL.of (h.1 _ _ hp)) ?_ ?_⟩)
    · rintro i v t σ H' hv ⟨s0, al, v1, v2, rfl⟩ hn
      have hi : i < rs.length := by rw [← lu]; exact (List.getElem?_eq_some_iff.mp hv).1
      have s1 := s0.trans (same_upd (o := .tup [V.int (i : Int), v]) hn)
      have et := upd_same (H := H') (a := t) (o := .tup [V.int (i : Int), v])
      generalize upd H' t _ = H1 at s1 et ⊢
      obtain ⟨pt, x, y, z, rfl, ht, hpt, ox, oy, oz⟩ := (ot.same s1).three hv
      refine ⟨_, _, rfl, SqT.of et, rfl, _, _, rfl, _, _, rfl, rfl, ?_⟩
      refine (nm rfl ⟨rfl, (nm rfl (ite2 (fun c => ?_) (fun c => ?_)))⟩)
      · have c : (i : Int) = 12 := V.int.inj (of_decide_eq_true c)
        exact (nm rfl ⟨fits (show 2 ≤ 100000 by decide), fun x1 n1 => ⟨x1, a.cNoTable, _, _, _, rfl, upd_same, T.x_NoTable, xno_of T.n_NoTable (by decide), xno_of T.n_NoTable (by decide), fun d1 H6 hd1 kp o1 od1 => ⟨rfl, x1, _, some d1, rfl, o1, ⟨_, od1⟩, T.r_NoTable, kx i ⟨hi, fun g => by have := g.1; omega, al⟩ x1 d1 _ (same_add ((s1).trans (keep_same n1 kp)) ((s1).free n1)) upd_same ((upd_ne (fun z => by rw [z, upd_same] at hd1; cases hd1)).trans od1)⟩⟩⟩)
      have n6 : i < 12 := by
        by_cases z : 12 < i
        · have := (al 12 z).1; omega
        · have : i ≠ 12 := fun e => c (decide_eq_true (by rw [e]; rfl))
          omega
      refine (nm rfl ⟨pt, x, y, z, rfl, hpt, ox, oy, oz, fun g => (nm rfl (iteF ?_)), fun g => (nm rfl (iteT ?_))⟩)
      · refine ⟨s1, fun j hj => ?_, _, _, rfl⟩
        by_cases z : j = i
        · subst z
          exact ⟨n6, x, y, z, ht, g⟩
        · exact al j (by omega)
      · exact (nm rfl ⟨fits (show 2 ≤ 100000 by decide), fun x1 n1 => ⟨x1, a.cNoTable, _, _, _, rfl, upd_same, T.x_NoTable, xno_of T.n_NoTable (by decide), xno_of T.n_NoTable (by decide), fun d1 H6 hd1 kp o1 od1 => ⟨rfl, x1, _, some d1, rfl, o1, ⟨_, od1⟩, T.r_NoTable, kx i ⟨hi, fun gg => by obtain ⟨_, x1, y1, z1, hu, gu⟩ := gg; rw [ht] at hu; cases hu; exact g gu, al⟩ x1 d1 _ (same_add ((s1).trans (keep_same n1 kp)) ((s1).free n1)) upd_same ((upd_ne (fun z => by rw [z, upd_same] at hd1; cases hd1)).trans od1)⟩⟩⟩)
    · rintro σ H' ⟨s0, al, v1, v2, rfl⟩
      exact k (lu ▸ al) _ s0
set_option maxHeartbeats 4000000 in
theorem okLawCell (T : Txt K mg a) : FnOk P w K mg base CX0 1 a.fLawCell a.gLawCell ["_law_script", "_law_k"] (spCell K) := by
  refine T.dLawCell.fn.ok scLawCell (fun vs H Q E h => ?_) (fun cdv A outer s H vs Q E hr h => ?_)
  · exact spCell_elim (P := fun vs => vs.length = _) h fun _ _ _ _ _ _ => rfl
  · refine spCell_elim (P := fun vs => ∃ t, PSs _ _ t ∧ t _ (L2.start _ vs) H) h fun l ns i hS h0 k => ?_
    refine ⟨_, (pss_cons (ps_if (pt_cmpR op_lt (pv 1) (pe_callB call_len (by rfl) T.n_len boot_len (pa_cons (pv 0) pa_nil star_nam)) (nomark _)) (pss_one (ps_ret (pe_ix ix_list (pv 0) (pv 1) (fun _ _ => rfl)))) pss_nil)
      (pss_one (ps_ret pe_int))), ?_⟩
    refine (nm rfl (nm rfl ⟨_, _, rfl, .inl ⟨_, hS, rfl⟩, (ii rfl rfl (nm rfl ?_))⟩))
    refine ite2 (fun c => ?_) (fun c => ?_)
    · exact (nm rfl (nm rfl ⟨_, _, _, _, rfl, rfl, hS, atI_cell h0 (of_decide_eq_true c), k⟩))
    · have e : cell ns i = 0 := cell_out (fun z => c (decide_eq_true z))
      rw [e] at k; exact k
set_option maxHeartbeats 4000000 in
theorem okLawWhole (T : Txt K mg a) : FnOk P w K mg base CX0 1 a.fLawWhole a.gLawWhole ["_law_found"] spWh := by
  refine T.dLawWhole.fn.ok scLawWhole (fun vs H Q E h => ?_) (fun cdv A outer s H vs Q E hr h => ?_)
  · exact spWh_elim (P := fun vs => vs.length = _) h fun _ _ _ => rfl
  · refine spWh_elim (P := fun vs => ∃ t, PSs _ _ t ∧ t _ (L2.start _ vs) H) h fun v od k => ?_
    refine ⟨_, (pss_one (ps_ret (pe_and (pe_callB call_isi (by rfl) T.n_isinstance boot_isinstance (pa_cons (pv 0) (pa_cons (pe_bltn (v := .ty "int") rfl T.n_int boot_int rfl) pa_nil star_nam) star_nam)) (pe_one (pe_not (pe_callB call_isi (by rfl) T.n_isinstance boot_isinstance (pa_cons (pv 0) (pa_cons (pe_bltn (v := .ty "bool") rfl T.n_bool boot_bool rfl) pa_nil star_nam) star_nam))))))), ?_⟩
    cases od with
    | non => exact (nm rfl ⟨_, _, _, _, rfl, .non, kit_non_int, (nm rfl (iteF k))⟩)
    | bl b => exact (nm rfl ⟨_, _, _, _, rfl, .bl _, kit_bool_int, (nm rfl (iteT (nm rfl ⟨_, _, _, _, rfl, .bl _, kit_bool_bool, (nm rfl k)⟩)))⟩)
    | int b => exact (nm rfl ⟨_, _, _, _, rfl, .int _, kit_int_int, (nm rfl (iteT (nm rfl ⟨_, _, _, _, rfl, .int _, kit_int_bool, (nm rfl k)⟩)))⟩)
    | str b => exact (nm rfl ⟨_, _, _, _, rfl, .str _, kit_str_int, (nm rfl (iteF k))⟩)
    | lst h => exact (nm rfl ⟨_, _, _, _, rfl, .lst h, kit_lst_int, (nm rfl (iteF k))⟩)
set_option maxHeartbeats 4000000 in
theorem okHLawWhole (T : Txt K mg a) : FnH P w K mg base 1 a.fLawWhole a.gLawWhole ["_law_found"] spWhH := by
  refine okH T.dLawWhole.fn scLawWhole (fun xh vs H Q E h => ?_) (fun cdv A outer s H vs Q xh hh hr h => ?_)
  · obtain ⟨_, rfl, _⟩ := h
    all_goals rfl
  · obtain ⟨i, rfl, k⟩ := h
    refine ⟨_, (pss_one (ps_ret (pe_and (pe_callB call_isi (by rfl) T.n_isinstance boot_isinstance (pa_cons (pv 0) (pa_cons (pe_bltn (v := .ty "int") rfl T.n_int boot_int rfl) pa_nil star_nam) star_nam)) (pe_one (pe_not (pe_callB call_isi (by rfl) T.n_isinstance boot_isinstance (pa_cons (pv 0) (pa_cons (pe_bltn (v := .ty "bool") rfl T.n_bool boot_bool rfl) pa_nil star_nam) star_nam))))))), ?_⟩
    exact (nm rfl ⟨_, _, _, _, rfl, .int _, kit_int_int, (nm rfl (iteT (nm rfl ⟨_, _, _, _, rfl, .int _, kit_int_bool, (nm rfl k)⟩)))⟩)
set_option maxHeartbeats 4000000 in
theorem okLawOdd (T : Txt K mg a) : FnOk P w K mg base CX0 1 a.fLawOdd a.gLawOdd ["_law_cell_here", "_law_other"] spOd7 := by
  refine T.dLawOdd.fn.ok scLawOdd (fun vs H Q E h => ?_) (fun cdv A outer s H vs Q E hr h => ?_)
  · exact spOd7_elim (P := fun vs => vs.length = _) h fun _ _ _ => rfl
  · refine spOd7_elim (P := fun vs => ∃ t, PSs _ _ t ∧ t _ (L2.start _ vs) H) h fun c o k => ?_
    refine ⟨_, (pss_cons (ps_set (i := 2) scLawOdd.nd rfl (Or.inl rfl) (pe_lst (pa_cons pe_int (pa_cons pe_int (pa_cons (pv 1) (pa_cons pe_non (pa_cons pe_bl (pa_cons pe_bl (pa_cons pe_str (pa_cons (pe_lst (pa_cons pe_int pa_nil star_con)) (pa_cons (pe_un un_neg pe_int) (pa_cons pe_int (pa_cons (pe_op op_pow pe_int pe_int) (pa_cons pe_str pa_nil star_con) star_bin) star_con) star_una) star_lst) star_con) star_con) star_con) star_con) star_nam) star_con) star_con)))
      (pss_one (ps_ret (pe_ix ix_list (pv 2) (pe_op op_mod (pv 0) pe_int) (fun _ _ => rfl))))), ?_⟩
    refine (nm rfl ⟨fits (show 1 ≤ 100000 by decide), fun p1 h1 => (nm rfl (ic rfl rfl ⟨by decide, by decide, by decide⟩ ⟨fits (show 12 ≤ 100000 by decide), fun p h => ?_⟩))⟩)
    have s1 := same_upd (o := .lst [V.int 3]) h1
    have e1 := upd_same (H := H) (a := p1) (o := .lst [V.int 3])
    generalize upd H p1 _ = H1 at s1 e1 h ⊢
    have s2 := same_upd (o := .lst [V.int 0, V.int 8, V.int o, V.non, V.bl true, V.bl false, V.str (Str.ofString "3"), V.ref p1, V.int (-1), V.int 364, V.int (10 ^ (60 : Int).toNat), V.str (Str.ofString "")]) h
    have e2 := upd_same (H := H1) (a := p) (o := .lst [V.int 0, V.int 8, V.int o, V.non, V.bl true, V.bl false, V.str (Str.ofString "3"), V.ref p1, V.int (-1), V.int 364, V.int (10 ^ (60 : Int).toNat), V.str (Str.ofString "")])
    obtain ⟨v, hv, ev⟩ := at_mem (xs := [V.int 0, V.int 8, V.int o, V.non, V.bl true, V.bl false, V.str (Str.ofString "3"), V.ref p1, V.int (-1), V.int 364, V.int (10 ^ (60 : Int).toNat), V.str (Str.ofString "")]) (k := c % 12) (by omega) (by show c % 12 < 12; omega)
    refine (nm rfl (nm rfl (ic rfl rfl (pos (by decide)) (lx (SqL.of e2) ev (k v _ (s1.trans s2) ?_)))))
    simp only [List.mem_cons, List.not_mem_nil, or_false] at hv
    rcases hv with rfl | rfl | rfl | rfl | rfl | rfl | rfl | rfl | rfl | rfl | rfl | rfl
    · exact .int _
    · exact .int _
    · exact .int _
    · exact .non
    · exact .bl _
    · exact .bl _
    · exact .str _
    · exact .lst (s2 _ _ e1)
    · exact .int _
    · exact .int _
    · exact .int _
    · exact .str _
set_option maxHeartbeats 4000000 in
theorem okLawWeek (T : Txt K mg a) : FnOk P w K mg base CX0 2 a.fLawWeek a.gLawWeek ["_law_script"] (spWk7 K) := by
  refine T.dLawWeek.fn.ok scLawWeek (fun vs H Q E h => ?_) (fun cdv A outer s H vs Q E hr h => ?_)
  · exact spWk7_elim (P := fun vs => vs.length = _) h fun _ _ _ _ => rfl
  · refine spWk7_elim (P := fun vs => ∃ t, PSs _ _ t ∧ t _ (L2.start _ vs) H) h fun l ns hS k => ?_
    refine ⟨_, (pss_cons (ps_set (i := 1) scLawWeek.nd rfl (Or.inl rfl) (pe_lst pa_nil))
      (pss_cons (ps_set (i := 2) scLawWeek.nd rfl (Or.inl rfl) (pe_op op_mod (pe_call (okLawCell T) (hr.mono (by decide)) rfl T.dLawCell.mgx T.dLawCell.fn.kp T.dLawCell.bd .nil pass0 (pa_cons (pv 0) (pa_cons pe_int pa_nil star_con) star_nam)) pe_int))
      (pss_cons (ps_for PassesOwn.never rfl (pi_range1 rfl T.n_range (pa_cons (pe_op op_mod (pe_call (okLawCell T) (hr.mono (by decide)) rfl T.dLawCell.mgx T.dLawCell.fn.kp T.dLawCell.bd .nil pass0 (pa_cons (pv 0) (pa_cons pe_int pa_nil star_con) star_nam)) pe_int) pa_nil star_bin)) (pg_name (i := 3) scLawWeek.nd rfl (Or.inl rfl)) (pss_cons (ps_expr (pe_bm PySem.F.plainAttrs_list PySem.F.slot_list_append PySem.F.type_list_append mt_append (pv 1) (pa_cons (pe_op op_add (pv 2) pe_int) pa_nil star_bin)))
      (pss_one (ps_set (i := 2) scLawWeek.nd rfl (Or.inl rfl) (pe_op op_mod (pe_op op_add (pv 2) (pe_ix ix_list (pe_lst (pa_cons pe_int (pa_cons pe_int (pa_cons pe_int (pa_cons pe_int (pa_cons pe_int (pa_cons pe_int (pa_cons pe_int (pa_cons pe_int pa_nil star_con) star_con) star_con) star_con) star_con) star_con) star_con) star_con)) (pe_op op_mod (pe_call (okLawCell T) (hr.mono (by decide)) rfl T.dLawCell.mgx T.dLawCell.fn.kp T.dLawCell.bd .nil pass0 (pa_cons (pv 0) (pa_cons (pe_op op_add pe_int (pv 3)) pa_nil star_bin) star_nam)) pe_int) (fun _ _ => rfl))) pe_int)))))
      (pss_cons (ps_set (i := 4) scLawWeek.nd rfl (Or.inl rfl) (pe_call (okLawCell T) (hr.mono (by decide)) rfl T.dLawCell.mgx T.dLawCell.fn.kp T.dLawCell.bd .nil pass0 (pa_cons (pv 0) (pa_cons pe_int pa_nil star_con) star_nam)))
      (pss_cons (ps_if (PW.pt (pw_and (pt_cmpR (op_neL hr.units0) (pv 1) (pe_lst pa_nil) (nomark _)) (pw_and1 (pt_cmpR op_eq (pe_op op_mod (pv 4) pe_int) pe_int (nomark _))))) (pss_one (ps_asg (pe_call (okLawOdd T) (hr.mono (by decide)) rfl T.dLawOdd.mgx T.dLawOdd.fn.kp T.dLawOdd.bd .nil pass0 (pa_cons (pe_op op_fdiv (pv 4) pe_int) (pa_cons (pe_ix ix_list (pv 1) pe_int (fun _ _ => rfl)) pa_nil star_sub) star_bin)) (pg_sub (pv 1) (pe_op op_mod (pe_op op_fdiv (pv 4) pe_int) (pe_callB call_len (by rfl) T.n_len boot_len (pa_cons (pv 1) pa_nil star_nam))) set_list))) pss_nil)
      (pss_one (ps_ret (pv 1)))))))), ?_⟩
    refine ⟨fit0, fun q hq => ?_⟩
    have s0 := same_upd (o := .lst []) hq
    have h0 := upd_same (H := H) (a := q) (o := .lst [])
    generalize upd H q _ = H0 at s0 h0 ⊢
    refine (nm rfl (cl rfl (s0.seq hS) (by decide) (ic rfl rfl (pos (by decide)) ?_)))
    refine (nm rfl (cl rfl (s0.seq hS) (by decide) (ic rfl rfl (pos (by decide)) ⟨_, rfl, (rmod _ (by decide) (by decide)).1, (rmod _ (by decide) (by decide)).2, for_range (lo := 0) (n := (cell ns 1 % 9).toNat) (fun i σ H' => Same H H' ∧ ∃ (wk : List Int) (d : Int) (v3 : Option V), σ = [some (.ref l), some (.ref q), some (.int d), v3, none] ∧ H' q = some (.lst (wk.map V.int)) ∧ wk.length = i) ⟨s0, [], _, none, rfl, h0, rfl⟩ ?_ ?_⟩)))
    · rintro i σ H' hi ⟨s1, wk', d, v3, rfl, h1, hl⟩
      have lz : (wk'.map V.int).length ≤ 90000 := by rw [List.length_map]; omega
      refine (nm rfl ⟨.inl ⟨rfl, _, SqL.of h1⟩, (nm rfl (ii rfl rfl ⟨_, _, _, rfl, rfl, h1, lt1000 lz, ?_⟩))⟩)
      have s2 : Same H (upd H' q (.lst (wk'.map V.int ++ [V.int (d + 1)]))) := same_add s1 hq
      have h2 : upd H' q (.lst (wk'.map V.int ++ [V.int (d + 1)])) q = some (.lst ((wk' ++ [d + 1]).map V.int)) := by rw [upd_same, List.map_append]; rfl
      generalize upd H' q _ = H2 at s2 h2 ⊢
      refine (nm rfl ⟨fits (show 8 ≤ 100000 by decide), fun p hp => ?_⟩)
      have s3 := same_upd (o := .lst [V.int 1, V.int 1, V.int 1, V.int 2, V.int 1, V.int 1, V.int 1, V.int 7]) hp
      have e3 := upd_same (H := H2) (a := p) (o := .lst [V.int 1, V.int 1, V.int 1, V.int 2, V.int 1, V.int 1, V.int 1, V.int 7])
      generalize upd H2 p _ = H3 at s3 e3 ⊢
      obtain ⟨m, hm⟩ := pickI [1, 1, 1, 2, 1, 1, 1, 7] (k := cell ns (2 + (0 + (i : Int))) % 8) (by omega) (by show _ < (8 : Int); omega)
      refine (nm rfl (nm rfl (ii rfl rfl (cl rfl ((s2.trans s3).seq hS) (nn2 i (by decide)) (ic rfl rfl (pos (by decide)) (lx (SqL.of e3) hm (ii rfl rfl (ic rfl rfl (pos (by decide)) ?_))))))))
      exact ⟨s2.trans s3, _, _, _, rfl, s3 _ _ h2, by rw [List.length_append, hl]; rfl⟩
    · rintro σ H' ⟨s1, wk', d, v3, rfl, h1, hl⟩
      refine (nm rfl (cl rfl (s1.seq hS) (by decide) ?_))
      generalize cell ns 10 = c
      have l8 : wk'.length ≤ 8 := by omega
      have fin : ∀ H2, Same H H2 → H2 q = some (.lst (wk'.map V.int)) → Q (.ref q) H2 := fun H2 s h => k q H2 _ hq s h (fun v hv => by obtain ⟨i, _, rfl⟩ := List.mem_map.mp hv; exact .int i) (by rw [List.length_map]; omega)
      refine (nm rfl ⟨fit0, fun e he => ?_⟩)
      have s2 := same_upd (o := .lst []) he
      have e2 := upd_same (H := H') (a := e) (o := .lst [])
      generalize upd H' e _ = H2 at s2 e2 ⊢
      have h2 := s2 _ _ h1
      refine ⟨_, _, _, _, rfl, rfl, SqL.of h2, SqL.of e2, flat_ints _, rfl, (nm rfl (ite2 (fun c1 => (nm rfl (ic rfl rfl (pos (by decide)) ⟨rfl, (nm rfl (ite2 (fun c2 => ?_) (fun c2 => (nm rfl (fin _ (s1.trans s2) h2)))))⟩))) (fun c1 => iteF (nm rfl (fin _ (s1.trans s2) h2)))))⟩
      have l1 : 1 ≤ wk'.length := by
        cases wk' with
        | nil => exact absurd c1 (by decide)
        | cons _ _ => exact Nat.succ_pos _
      obtain ⟨x0, hx0⟩ : ∃ x0 : Int, atI (wk'.map V.int) 0 = some (.int x0) := ⟨wk'[0]'(by omega), atI_of (j := 0) (by rw [List.getElem?_map, List.getElem?_eq_getElem (by omega)]; rfl) rfl⟩
      refine (nm rfl (ic rfl rfl ⟨by decide, by decide⟩ (nm rfl (lx (SqL.of h2) hx0 ⟨_, _, rfl, fun v H3 s3 ov => ?_⟩))))
      have h3 := s3 _ _ h2
      obtain ⟨j, ej, hj, ij⟩ := ixm (n := (wk'.map V.int).length) (c := c / 3) (by rw [List.length_map]; exact l1)
      refine (nm rfl (nm rfl (ic rfl rfl ⟨by decide, by decide⟩ (nm rfl ⟨_, _, rfl, .inl ⟨_, SqL.of h3, rfl⟩, (ii rfl rfl ⟨(by rw [List.length_map]; omega), _, _, _, j, rfl, rfl, h3, ij, ?_⟩)⟩))))
      refine (nm rfl (k q _ _ hq (same_add (s1.trans (s2.trans s3)) hq) upd_same (fun u hu => ?_) (by rw [List.length_set, List.length_map]; omega)))
      rcases List.mem_or_eq_of_mem_set hu with z | z
      · obtain ⟨i, _, rfl⟩ := List.mem_map.mp z; exact .int i
      · rw [z]; exact ov.upd h3
set_option maxHeartbeats 4000000 in
theorem okLawYearly (T : Txt K mg a) : FnOk P w K mg base CX0 2 a.fLawYearly a.gLawYearly ["_law_script"] (spTs7 2 K) := by
  refine T.dLawYearly.fn.ok scLawYearly (fun vs H Q E h => ?_) (fun cdv A outer s H vs Q E hr h => ?_)
  · exact spTs7_elim (P := fun vs => vs.length = _) h fun _ _ _ _ => rfl
  · refine spTs7_elim (P := fun vs => ∃ t, PSs _ _ t ∧ t _ (L2.start _ vs) H) h fun l ns hS k => ?_
    refine ⟨_, (pss_cons (ps_set (i := 1) scLawYearly.nd rfl (Or.inl rfl) (pe_lst pa_nil))
      (pss_cons (ps_for PassesOwn.never rfl (pi_range1 rfl T.n_range (pa_cons (pe_op op_mod (pe_call (okLawCell T) (hr.mono (by decide)) rfl T.dLawCell.mgx T.dLawCell.fn.kp T.dLawCell.bd .nil pass0 (pa_cons (pv 0) (pa_cons pe_int pa_nil star_con) star_nam)) pe_int) pa_nil star_bin)) (pg_name (i := 2) scLawYearly.nd rfl (Or.inl rfl)) (pss_cons (ps_set (i := 3) scLawYearly.nd rfl (Or.inl rfl) (pe_call (okLawCell T) (hr.mono (by decide)) rfl T.dLawCell.mgx T.dLawCell.fn.kp T.dLawCell.bd .nil pass0 (pa_cons (pv 0) (pa_cons (pe_op op_add pe_int (pv 2)) pa_nil star_bin) star_nam)))
      (pss_cons (ps_set (i := 4) scLawYearly.nd rfl (Or.inl rfl) (pe_op op_mod (pv 3) pe_int))
      (pss_cons (ps_set (i := 5) scLawYearly.nd rfl (Or.inl rfl) (pe_op op_mod (pe_op op_fdiv (pv 3) pe_int) pe_int))
      (pss_cons (ps_if (pt_cmpR op_lt (pe_op op_mod (pe_op op_fdiv (pv 3) pe_int) pe_int) pe_int (nomark _)) (pss_one (ps_set (i := 5) scLawYearly.nd rfl (Or.inl rfl) (pe_op op_add pe_int (pe_op op_mod (pe_op op_fdiv (pv 3) pe_int) pe_int)))) pss_nil)
      (pss_one (ps_expr (pe_bm PySem.F.plainAttrs_list PySem.F.slot_list_append PySem.F.type_list_append mt_append (pv 1) (pa_cons (pe_tup (pa_cons (pv 4) (pa_cons (pe_callB (call_min2 rfl) (by rfl) T.n_min boot_min (pa_cons pe_int (pa_cons (pe_op op_add (pv 4) (pv 5)) pa_nil star_bin) star_con)) pa_nil star_cal) star_nam)) pa_nil star_tup)))))))))
      (pss_cons (ps_set (i := 3) scLawYearly.nd rfl (Or.inl rfl) (pe_call (okLawCell T) (hr.mono (by decide)) rfl T.dLawCell.mgx T.dLawCell.fn.kp T.dLawCell.bd .nil pass0 (pa_cons (pv 0) (pa_cons pe_int pa_nil star_con) star_nam)))
      (pss_cons (ps_if (PW.pt (pw_and (pt_cmpR (op_neNil hr.units) (pv 1) (pe_lst pa_nil) (nomark _)) (pw_and1 (pt_cmpR op_eq (pe_op op_mod (pv 3) pe_int) pe_int (nomark _))))) (pss_cons (ps_set (i := 6) scLawYearly.nd rfl (Or.inl rfl) (pe_op op_mod (pe_op op_fdiv (pv 3) pe_int) (pe_callB call_len (by rfl) T.n_len boot_len (pa_cons (pv 1) pa_nil star_nam))))
      (pss_cons (ps_set (i := 7) scLawYearly.nd rfl (Or.inl rfl) (pe_ix ix_list (pv 1) (pv 6) (fun _ _ => rfl)))
      (pss_cons (ps_set (i := 8) scLawYearly.nd rfl (Or.inl rfl) (pe_call (okLawOdd T) (hr.mono (by decide)) rfl T.dLawOdd.mgx T.dLawOdd.fn.kp T.dLawOdd.bd .nil pass0 (pa_cons (pe_op op_fdiv (pv 3) pe_int) (pa_cons (pe_op op_sub (pe_ix ix_tup (pv 7) pe_int (fun _ _ => rfl)) pe_int) pa_nil star_bin) star_bin)))
      (pss_one (ps_asg (pe_ix ix_list (pe_lst (pa_cons (pe_tup (pa_cons (pv 8) (pa_cons (pe_ix ix_tup (pv 7) pe_int (fun _ _ => rfl)) pa_nil star_sub) star_nam)) (pa_cons (pe_tup (pa_cons (pe_ix ix_tup (pv 7) pe_int (fun _ _ => rfl)) (pa_cons (pv 8) pa_nil star_nam) star_sub)) (pa_cons (pe_tup (pa_cons (pe_ix ix_tup (pv 7) pe_int (fun _ _ => rfl)) (pa_cons (pe_ix ix_tup (pv 7) pe_int (fun _ _ => rfl)) pa_nil star_sub) star_sub)) (pa_cons (pe_tup (pa_cons (pe_un un_neg pe_int) (pa_cons (pe_ix ix_tup (pv 7) pe_int (fun _ _ => rfl)) pa_nil star_sub) star_una)) pa_nil star_tup) star_tup) star_tup) star_tup)) (pe_op op_mod (pe_op op_fdiv (pv 3) pe_int) pe_int) (fun _ _ => rfl)) (pg_sub (pv 1) (pv 6) set_list)))))) pss_nil)
      (pss_one (ps_ret (pv 1))))))), ?_⟩
    refine ⟨fit0, fun q hq => ?_⟩
    have s0 := same_upd (o := .lst []) hq
    have h0 := upd_same (H := H) (a := q) (o := .lst [])
    generalize upd H q _ = H0 at s0 h0 ⊢
    refine (nm rfl (cl rfl (s0.seq hS) (by decide) (ic rfl rfl (pos (by decide)) ⟨_, rfl, (rmod _ (by decide) (by decide)).1, (rmod _ (by decide) (by decide)).2, for_range (lo := 0) (n := (cell ns 11 % 6).toNat) (fun i σ H' => Same H H' ∧ ∃ (us : List V) (ts : List (List V)) (v2 v3 v4 v5 : Option V), σ = [some (.ref l), some (.ref q), v2, v3, v4, v5, none, none, none] ∧ H' q = some (.lst us) ∧ OT 2 H' us ts ∧ (∀ t ∈ ts, ∃ f l : Int, t = [.int f, .int l]) ∧ us.length = i) ⟨s0, [], [], none, none, none, none, rfl, h0, OT.nil _ _, fun _ h => absurd h List.not_mem_nil, rfl⟩ ?_ ?_⟩)))
    · rintro i σ H' hi ⟨s1, us, ts, v2, v3, v4, v5, rfl, h1, ot, ok, hl⟩
      have lz : us.length ≤ 90000 := by omega
      refine (nm rfl (nm rfl (ii rfl rfl (cl rfl (s1.seq hS) (nn2 i (by decide)) ?_))))
      generalize cell ns (12 + (0 + (i : Int))) = c
      refine (nm rfl (ic rfl rfl (pos (by decide)) (nm rfl (ic rfl rfl ⟨by decide, by decide⟩ (ic rfl rfl (pos (by decide)) ?_)))))
      apply useF (p := fun _ => True)
      · intro fin
        refine (nm rfl (ic rfl rfl ⟨by decide, by decide⟩ (ic rfl rfl (pos (by decide)) (ii rfl rfl (nm rfl (ite2 (fun _ => ?_) (fun _ => ?_)))))))
        · refine (nm rfl (ic rfl rfl ⟨by decide, by decide⟩ (ic rfl rfl (pos (by decide)) (ii rfl rfl ?_))))
          dsimp only []
          generalize 29 + c / 10920 % 12 = S
          exact fin S trivial
        · exact fin (c / 364 % 30) trivial
      · rintro S _
        refine (nm rfl ⟨.inl ⟨rfl, _, SqL.of h1⟩, (nm rfl (nm rfl (nm rfl (ii rfl rfl ⟨_, _, rfl, fit2 _ _, fun q2 hq2 => ⟨_, _, _, rfl, rfl, same_upd hq2 _ _ h1, lt1000 lz, ?_⟩⟩))))⟩)
        dsimp only []
        generalize (if c % 364 + S < 363 then c % 364 + S else 363) = L at hq2 ⊢
        have z2 := same_upd (o := .tup [V.int (c % 364), V.int L]) hq2
        have e2 := upd_same (H := H') (a := q2) (o := .tup [V.int (c % 364), V.int L])
        generalize upd H' q2 _ = H2 at z2 e2 ⊢
        refine ⟨same_add (s1.trans z2) hq, _, _, _, _, _, _, rfl, upd_same, ((ot.same z2).snoc e2 rfl (all2 (.int _) (.int _))).upd (z2 _ _ h1), fun t ht => ?_, by rw [List.length_append, hl]; rfl⟩
        rcases List.mem_append.mp ht with z | z
        · exact ok t z
        · exact ⟨_, _, List.mem_singleton.mp z⟩
    · rintro σ H' ⟨s1, us, ts, v2, v3, v4, v5, rfl, h1, ot, ok, hl⟩
      refine (nm rfl (cl rfl (s1.seq hS) (by decide) ?_))
      generalize cell ns 17 = c
      have l8 : us.length ≤ 6 := by omega
      refine (nm rfl ⟨fit0, fun e he => ?_⟩)
      have s2 := same_upd (o := .lst []) he
      have e2 := upd_same (H := H') (a := e) (o := .lst [])
      generalize upd H' e _ = H2 at s2 e2 ⊢
      have h2 := s2 _ _ h1
      have ot2 := ot.same s2
      have s12 := s1.trans s2
      refine ⟨_, _, _, rfl, rfl, SqL.of h2, SqL.of e2, (nm rfl (ite2 (fun c1 => (nm rfl (ic rfl rfl (pos (by decide)) ⟨rfl, (nm rfl (ite2 (fun c2 => ?_) (fun c2 => (nm rfl (k q _ _ _ hq s12 h2 ot2 (by omega))))))⟩))) (fun c1 => iteF (nm rfl (k q _ _ _ hq s12 h2 ot2 (by omega))))))⟩
      have l1 : 1 ≤ us.length := by
        cases us with
        | nil => exact absurd c1 (by decide)
        | cons _ _ => exact Nat.succ_pos _
      obtain ⟨j, ej, hj, ij⟩ := ixm (n := us.length) (c := c / 3) l1
      refine (nm rfl (ic rfl rfl ⟨by decide, by decide⟩ (nm rfl ⟨_, _, rfl, .inl ⟨_, SqL.of h2, rfl⟩, (ii rfl rfl ⟨(by omega), ?_⟩)⟩)))
      dsimp only []
      rw [ej]
      rw [ej] at ij
      obtain ⟨pt, x, y, ev, ht, hpt, ox, oy⟩ := ot2.two (List.getElem?_eq_getElem hj)
      obtain ⟨F, L, eFL⟩ := ok _ (List.mem_of_getElem? ht)
      cases eFL
      refine (nm rfl (nm rfl (lx (SqL.of h2) (atI_nat (by rw [List.getElem?_eq_getElem hj, ev])) ?_)))
      refine (nm rfl (ic rfl rfl ⟨by decide, by decide⟩ (nm rfl (tx (SqT.of hpt) rfl (ii rfl rfl ⟨_, _, rfl, fun vb H3 s3 ob => ?_⟩)))))
      have h3 := s3 _ _ h2
      have p3 := s3 _ _ hpt
      refine (nm rfl (nm rfl (tx (SqT.of p3) rfl ⟨fit2 _ _, fun t1 n1 => ?_⟩)))
      have a1 := same_upd (o := .tup [vb, V.int L]) n1
      have b1 := upd_same (H := H3) (a := t1) (o := .tup [vb, V.int L])
      generalize upd H3 t1 _ = H4 at a1 b1 ⊢
      refine (nm rfl (tx (SqT.of (a1 _ _ p3)) rfl (nm rfl ⟨fit2 _ _, fun t2 n2 => ?_⟩)))
      have a2 := same_upd (o := .tup [V.int F, vb]) n2
      have b2 := upd_same (H := H4) (a := t2) (o := .tup [V.int F, vb])
      generalize upd H4 t2 _ = H5 at a2 b2 ⊢
      refine (nm rfl (tx (SqT.of ((a1.trans a2) _ _ p3)) rfl (nm rfl (tx (SqT.of ((a1.trans a2) _ _ p3)) rfl ⟨fit2 _ _, fun t3 n3 => ?_⟩))))
      have a3 := same_upd (o := .tup [V.int L, V.int F]) n3
      have b3 := upd_same (H := H5) (a := t3) (o := .tup [V.int L, V.int F])
      generalize upd H5 t3 _ = H6 at a3 b3 ⊢
      refine (nm rfl (nm rfl (tx (SqT.of ((a1.trans (a2.trans a3)) _ _ p3)) rfl ⟨fit2 _ _, fun t4 n4 => ?_⟩)))
      have a4 := same_upd (o := .tup [V.int (-1), V.int F]) n4
      have b4 := upd_same (H := H6) (a := t4) (o := .tup [V.int (-1), V.int F])
      generalize upd H6 t4 _ = H7 at a4 b4 ⊢
      refine ⟨fits (show 4 ≤ 100000 by decide), fun pl n5 => ?_⟩
      have a5 := same_upd (o := .lst [V.ref t1, V.ref t2, V.ref t3, V.ref t4]) n5
      have b5 := upd_same (H := H7) (a := pl) (o := .lst [V.ref t1, V.ref t2, V.ref t3, V.ref t4])
      generalize upd H7 pl _ = H8 at a5 b5 ⊢
      have sA := a1.trans (a2.trans (a3.trans (a4.trans a5)))
      have ob8 := ob.same sA
      obtain ⟨t, x', y', ht', het, ox', oy'⟩ := pick4 (c / 15) (a5 _ _ (a4 _ _ (a3 _ _ (a2 _ _ b1)))) (a5 _ _ (a4 _ _ (a3 _ _ b2))) (a5 _ _ (a4 _ _ b3)) (a5 _ _ b4) ob8 (.int F) (.int L) (.int (-1)) (.int L) ob8 (.int F) (.int F)
      have h8 := sA _ _ h3
      have s38 := s3.trans sA
      refine (nm rfl (ic rfl rfl ⟨by decide, by decide⟩ (ic rfl rfl (pos (by decide)) (lx (SqL.of b5) ht' (nm rfl (nm rfl ⟨_, _, _, j, rfl, rfl, h8, ij, ?_⟩))))))
      refine (nm rfl (k q _ _ _ hq (same_add (s12.trans s38) hq) upd_same (((ot2.same s38).set j het rfl (all2 ox' oy')).upd h8) (by rw [List.length_set]; omega)))
set_option maxHeartbeats 4000000 in
theorem okLawRows (T : Txt K mg a) : FnOk P w K mg base CX0 2 a.fLawRows a.gLawRows ["_law_script"] (spTs7 3 K) := by
  refine T.dLawRows.fn.ok scLawRows (fun vs H Q E h => ?_) (fun cdv A outer s H vs Q E hr h => ?_)
  · exact spTs7_elim (P := fun vs => vs.length = _) h fun _ _ _ _ => rfl
  · refine spTs7_elim (P := fun vs => ∃ t, PSs _ _ t ∧ t _ (L2.start _ vs) H) h fun l ns hS k => ?_
    refine ⟨_, (pss_cons (ps_set (i := 1) scLawRows.nd rfl (Or.inl rfl) (pe_lst pa_nil))
      (pss_cons (ps_for PassesOwn.never rfl (pi_range1 rfl T.n_range (pa_cons (pe_op op_mod (pe_call (okLawCell T) (hr.mono (by decide)) rfl T.dLawCell.mgx T.dLawCell.fn.kp T.dLawCell.bd .nil pass0 (pa_cons (pv 0) (pa_cons pe_int pa_nil star_con) star_nam)) pe_int) pa_nil star_bin)) (pg_name (i := 2) scLawRows.nd rfl (Or.inl rfl)) (pss_cons (ps_set (i := 3) scLawRows.nd rfl (Or.inl rfl) (pe_call (okLawCell T) (hr.mono (by decide)) rfl T.dLawCell.mgx T.dLawCell.fn.kp T.dLawCell.bd .nil pass0 (pa_cons (pv 0) (pa_cons (pe_op op_add pe_int (pv 2)) pa_nil star_bin) star_nam)))
      (pss_cons (ps_set (i := 4) scLawRows.nd rfl (Or.inl rfl) (pe_op op_mod (pv 3) (pe_op op_pow pe_int pe_int)))
      (pss_cons (ps_set (i := 5) scLawRows.nd rfl (Or.inl rfl) (pe_op op_mod (pe_op op_fdiv (pv 3) pe_int) pe_int))
      (pss_cons (ps_if (pt_cmpR op_lt (pe_op op_mod (pe_op op_fdiv (pv 3) pe_int) pe_int) pe_int (nomark _)) (pss_one (ps_set (i := 5) scLawRows.nd rfl (Or.inl rfl) (pe_op op_add pe_int (pe_op op_mod (pe_op op_fdiv (pv 3) pe_int) pe_int)))) pss_nil)
      (pss_one (ps_expr (pe_bm PySem.F.plainAttrs_list PySem.F.slot_list_append PySem.F.type_list_append mt_append (pv 1) (pa_cons (pe_tup (pa_cons (pv 4) (pa_cons (pe_op op_add (pv 4) (pv 5)) (pa_cons (pe_ix ix_list (pe_lst (pa_cons pe_str (pa_cons pe_str pa_nil star_con) star_con)) (pe_op op_mod (pe_op op_fdiv (pv 3) pe_int) pe_int) (fun _ _ => rfl)) pa_nil star_sub) star_bin) star_nam)) pa_nil star_tup)))))))))
      (pss_cons (ps_set (i := 3) scLawRows.nd rfl (Or.inl rfl) (pe_call (okLawCell T) (hr.mono (by decide)) rfl T.dLawCell.mgx T.dLawCell.fn.kp T.dLawCell.bd .nil pass0 (pa_cons (pv 0) (pa_cons pe_int pa_nil star_con) star_nam)))
      (pss_cons (ps_if (PW.pt (pw_and (pt_cmpR (op_neNil hr.units) (pv 1) (pe_lst pa_nil) (nomark _)) (pw_and1 (pt_cmpR op_eq (pe_op op_mod (pv 3) pe_int) pe_int (nomark _))))) (pss_cons (ps_set (i := 6) scLawRows.nd rfl (Or.inl rfl) (pe_op op_mod (pe_op op_fdiv (pv 3) pe_int) (pe_callB call_len (by rfl) T.n_len boot_len (pa_cons (pv 1) pa_nil star_nam))))
      (pss_cons (ps_set (i := 7) scLawRows.nd rfl (Or.inl rfl) (pe_ix ix_list (pv 1) (pv 6) (fun _ _ => rfl)))
      (pss_cons (ps_set (i := 8) scLawRows.nd rfl (Or.inl rfl) (pe_call (okLawOdd T) (hr.mono (by decide)) rfl T.dLawOdd.mgx T.dLawOdd.fn.kp T.dLawOdd.bd .nil pass0 (pa_cons (pe_op op_fdiv (pv 3) pe_int) (pa_cons (pe_op op_sub (pe_ix ix_tup (pv 7) pe_int (fun _ _ => rfl)) pe_int) pa_nil star_bin) star_bin)))
      (pss_cons (ps_set (i := 9) scLawRows.nd rfl (Or.inl rfl) (pe_op op_mod (pe_op op_fdiv (pv 3) pe_int) pe_int))
      (pss_one (ps_if (pt_cmpR op_eq (pv 9) pe_int (nomark _)) (pss_one (ps_asg (pe_tup (pa_cons (pv 8) (pa_cons (pe_ix ix_tup (pv 7) pe_int (fun _ _ => rfl)) (pa_cons (pe_ix ix_tup (pv 7) pe_int (fun _ _ => rfl)) pa_nil star_sub) star_sub) star_nam)) (pg_sub (pv 1) (pv 6) set_list))) (pss_one (ps_if (pt_cmpR op_eq (pv 9) pe_int (nomark _)) (pss_one (ps_asg (pe_tup (pa_cons (pe_ix ix_tup (pv 7) pe_int (fun _ _ => rfl)) (pa_cons (pv 8) (pa_cons (pe_ix ix_tup (pv 7) pe_int (fun _ _ => rfl)) pa_nil star_sub) star_nam) star_sub)) (pg_sub (pv 1) (pv 6) set_list))) (pss_one (ps_if (pt_cmpR op_eq (pv 9) pe_int (nomark _)) (pss_one (ps_asg (pe_tup (pa_cons (pe_ix ix_tup (pv 7) pe_int (fun _ _ => rfl)) (pa_cons (pe_ix ix_tup (pv 7) pe_int (fun _ _ => rfl)) (pa_cons (pe_ix ix_tup (pv 7) pe_int (fun _ _ => rfl)) pa_nil star_sub) star_sub) star_sub)) (pg_sub (pv 1) (pv 6) set_list))) (pss_one (ps_asg (pe_tup (pa_cons (pe_ix ix_tup (pv 7) pe_int (fun _ _ => rfl)) (pa_cons (pe_ix ix_tup (pv 7) pe_int (fun _ _ => rfl)) (pa_cons (pv 8) pa_nil star_nam) star_sub) star_sub)) (pg_sub (pv 1) (pv 6) set_list))))))))))))) pss_nil)
      (pss_one (ps_ret (pv 1))))))), ?_⟩
    refine ⟨fit0, fun q hq => ?_⟩
    have s0 := same_upd (o := .lst []) hq
    have h0 := upd_same (H := H) (a := q) (o := .lst [])
    generalize upd H q _ = H0 at s0 h0 ⊢
    refine (nm rfl (cl rfl (s0.seq hS) (by decide) (ic rfl rfl (pos (by decide)) ⟨_, rfl, (rmod _ (by decide) (by decide)).1, (rmod _ (by decide) (by decide)).2, for_range (lo := 0) (n := (cell ns 18 % 14).toNat) (fun i σ H' => Same H H' ∧ ∃ (us : List V) (ts : List (List V)) (v2 v3 v4 v5 : Option V), σ = [some (.ref l), some (.ref q), v2, v3, v4, v5, none, none, none, none] ∧ H' q = some (.lst us) ∧ OT 3 H' us ts ∧ (∀ t ∈ ts, ∃ (f l : Int) (w : Str), t = [.int f, .int l, .str w]) ∧ us.length = i) ⟨s0, [], [], none, none, none, none, rfl, h0, OT.nil _ _, fun _ h => absurd h List.not_mem_nil, rfl⟩ ?_ ?_⟩)))
    · rintro i σ H' hi ⟨s1, us, ts, v2, v3, v4, v5, rfl, h1, ot, ok, hl⟩
      have lz : us.length ≤ 90000 := by omega
      refine (nm rfl (nm rfl (ii rfl rfl (cl rfl (s1.seq hS) (nn2 i (by decide)) ?_))))
      generalize cell ns (19 + (0 + (i : Int))) = c
      refine (nm rfl (ic rfl rfl ⟨by decide, by decide, by decide⟩ (ic rfl rfl (pos (by decide)) (nm rfl (ic rfl rfl ⟨by decide, by decide⟩ (ic rfl rfl (pos (by decide)) ?_))))))
      apply useF (p := fun _ => True)
      · intro fin
        refine (nm rfl (ic rfl rfl ⟨by decide, by decide⟩ (ic rfl rfl (pos (by decide)) (ii rfl rfl (nm rfl (ite2 (fun _ => ?_) (fun _ => ?_)))))))
        · refine (nm rfl (ic rfl rfl ⟨by decide, by decide⟩ (ic rfl rfl (pos (by decide)) (ii rfl rfl ?_))))
          dsimp only []
          generalize 39 + c / 280 % 24 = S
          exact fin S trivial
        · exact fin (c / 7 % 40) trivial
      · rintro S _
        obtain ⟨wd, hwd, _⟩ := atW (c / 3)
        generalize c % 10 ^ (60 : Int).toNat = F
        refine (nm rfl ⟨.inl ⟨rfl, _, SqL.of h1⟩, (nm rfl (nm rfl (nm rfl (ii rfl rfl ⟨fit2 _ _, fun q5 hq5 => ?_⟩))))⟩)
        have s5 := same_upd (o := .lst [V.str (Str.ofString "free"), V.str (Str.ofString "open")]) hq5
        have e5 := upd_same (H := H') (a := q5) (o := .lst [V.str (Str.ofString "free"), V.str (Str.ofString "open")])
        generalize upd H' q5 _ = H5 at s5 e5 ⊢
        have h5 := s5 _ _ h1
        refine (nm rfl (ic rfl rfl ⟨by decide, by decide⟩ (ic rfl rfl (pos (by decide)) (lx (SqL.of e5) hwd ⟨fit3 _ _ _, fun q2 hq2 => ⟨_, _, _, rfl, rfl, same_upd hq2 _ _ h5, lt1000 lz, ?_⟩⟩))))
        have z2 := same_upd (o := .tup [V.int F, V.int (F + S), V.str wd]) hq2
        have e2 := upd_same (H := H5) (a := q2) (o := .tup [V.int F, V.int (F + S), V.str wd])
        generalize upd H5 q2 _ = H2 at z2 e2 ⊢
        refine ⟨same_add (s1.trans (s5.trans z2)) hq, _, _, _, _, _, _, rfl, upd_same, (((ot.same s5).same z2).snoc e2 rfl (all3 (.int _) (.int _) (.str _))).upd (z2 _ _ h5), fun t ht => ?_, by rw [List.length_append, hl]; rfl⟩
        rcases List.mem_append.mp ht with z | z
        · exact ok t z
        · exact ⟨_, _, _, List.mem_singleton.mp z⟩
    · rintro σ H' ⟨s1, us, ts, v2, v3, v4, v5, rfl, h1, ot, ok, hl⟩
      refine (nm rfl (cl rfl (s1.seq hS) (by decide) ?_))
      generalize cell ns 32 = c
      have l8 : us.length ≤ 14 := by omega
      refine (nm rfl ⟨fit0, fun e he => ?_⟩)
      have s2 := same_upd (o := .lst []) he
      have e2 := upd_same (H := H') (a := e) (o := .lst [])
      generalize upd H' e _ = H2 at s2 e2 ⊢
      have h2 := s2 _ _ h1
      have ot2 := ot.same s2
      have s12 := s1.trans s2
      refine ⟨_, _, _, rfl, rfl, SqL.of h2, SqL.of e2, (nm rfl (ite2 (fun c1 => (nm rfl (ic rfl rfl (pos (by decide)) ⟨rfl, (nm rfl (ite2 (fun c2 => ?_) (fun c2 => (nm rfl (k q _ _ _ hq s12 h2 ot2 (by omega))))))⟩))) (fun c1 => iteF (nm rfl (k q _ _ _ hq s12 h2 ot2 (by omega))))))⟩
      have l1 : 1 ≤ us.length := by
        cases us with
        | nil => exact absurd c1 (by decide)
        | cons _ _ => exact Nat.succ_pos _
      obtain ⟨j, ej, hj, ij⟩ := ixm (n := us.length) (c := c / 3) l1
      refine (nm rfl (ic rfl rfl ⟨by decide, by decide⟩ (nm rfl ⟨_, _, rfl, .inl ⟨_, SqL.of h2, rfl⟩, (ii rfl rfl ⟨(by omega), ?_⟩)⟩)))
      dsimp only []
      rw [ej]
      rw [ej] at ij
      obtain ⟨pt, x, y, z0, ev, ht, hpt, ox, oy, oz⟩ := ot2.three (List.getElem?_eq_getElem hj)
      obtain ⟨F, L, wL, eFL⟩ := ok _ (List.mem_of_getElem? ht)
      obtain ⟨ex, ey, ez⟩ : x = .int F ∧ y = .int L ∧ z0 = .str wL := by injection eFL with a1 a2; injection a2 with a2 a3; injection a3 with a3; exact ⟨a1, a2, a3⟩
      subst ex ey
      refine (nm rfl (nm rfl (lx (SqL.of h2) (atI_nat (by rw [List.getElem?_eq_getElem hj, ev])) ?_)))
      refine (nm rfl (ic rfl rfl ⟨by decide, by decide⟩ (nm rfl (tx (SqT.of hpt) rfl (ii rfl rfl ⟨_, _, rfl, fun vb H3 s3 ob => ?_⟩)))))
      have h3 := s3 _ _ h2
      have p3 := s3 _ _ hpt
      refine (nm rfl (ic rfl rfl ⟨by decide, by decide⟩ (ic rfl rfl (pos (by decide)) ?_)))
      dsimp only []
      generalize c / 468 % 4 = way
      refine (nm rfl ⟨rfl, (nm rfl (ite2 (fun _ => ?_) (fun _ => ?_)))⟩)
      · refine (nm rfl (nm rfl (tx (SqT.of p3) rfl (nm rfl (tx (SqT.of p3) rfl ⟨fit3 _ _ _, fun t1 n1 => ?_⟩)))))
        have a1 := same_upd (o := .tup [vb, V.int L, z0]) n1
        have b1 := upd_same (H := H3) (a := t1) (o := .tup [vb, V.int L, z0])
        generalize upd H3 t1 _ = H4 at a1 b1 ⊢
        have ob8 := ob.same a1
        have oz3 := oz.same (s3.trans a1)
        have h8 := a1 _ _ h3
        refine (nm rfl (nm rfl ⟨_, _, _, j, rfl, rfl, h8, ij, ?_⟩))
        exact (nm rfl (k q _ _ _ hq (same_add (s12.trans (s3.trans a1)) hq) upd_same (((ot2.same (s3.trans a1)).set j b1 rfl (all3 ob8 (.int _) oz3)).upd h8) (by rw [List.length_set]; omega)))
      refine (nm rfl ⟨rfl, (nm rfl (ite2 (fun _ => ?_) (fun _ => ?_)))⟩)
      · refine (nm rfl (tx (SqT.of p3) rfl (nm rfl (nm rfl (tx (SqT.of p3) rfl ⟨fit3 _ _ _, fun t1 n1 => ?_⟩)))))
        have a1 := same_upd (o := .tup [V.int F, vb, z0]) n1
        have b1 := upd_same (H := H3) (a := t1) (o := .tup [V.int F, vb, z0])
        generalize upd H3 t1 _ = H4 at a1 b1 ⊢
        have ob8 := ob.same a1
        have oz3 := oz.same (s3.trans a1)
        have h8 := a1 _ _ h3
        refine (nm rfl (nm rfl ⟨_, _, _, j, rfl, rfl, h8, ij, ?_⟩))
        exact (nm rfl (k q _ _ _ hq (same_add (s12.trans (s3.trans a1)) hq) upd_same (((ot2.same (s3.trans a1)).set j b1 rfl (all3 (.int _) ob8 oz3)).upd h8) (by rw [List.length_set]; omega)))
      refine (nm rfl ⟨rfl, (nm rfl (ite2 (fun _ => ?_) (fun _ => ?_)))⟩)
      · refine (nm rfl (tx (SqT.of p3) rfl (nm rfl (tx (SqT.of p3) rfl (nm rfl (tx (SqT.of p3) rfl ⟨fit3 _ _ _, fun t1 n1 => ?_⟩))))))
        have a1 := same_upd (o := .tup [V.int L, V.int F, z0]) n1
        have b1 := upd_same (H := H3) (a := t1) (o := .tup [V.int L, V.int F, z0])
        generalize upd H3 t1 _ = H4 at a1 b1 ⊢
        have ob8 := ob.same a1
        have oz3 := oz.same (s3.trans a1)
        have h8 := a1 _ _ h3
        refine (nm rfl (nm rfl ⟨_, _, _, j, rfl, rfl, h8, ij, ?_⟩))
        exact (nm rfl (k q _ _ _ hq (same_add (s12.trans (s3.trans a1)) hq) upd_same (((ot2.same (s3.trans a1)).set j b1 rfl (all3 (.int _) (.int _) oz3)).upd h8) (by rw [List.length_set]; omega)))
      · refine (nm rfl (tx (SqT.of p3) rfl (nm rfl (tx (SqT.of p3) rfl (nm rfl ⟨fit3 _ _ _, fun t1 n1 => ?_⟩)))))
        have a1 := same_upd (o := .tup [V.int F, V.int L, vb]) n1
        have b1 := upd_same (H := H3) (a := t1) (o := .tup [V.int F, V.int L, vb])
        generalize upd H3 t1 _ = H4 at a1 b1 ⊢
        have ob8 := ob.same a1
        have oz3 := oz.same (s3.trans a1)
        have h8 := a1 _ _ h3
        refine (nm rfl (nm rfl ⟨_, _, _, j, rfl, rfl, h8, ij, ?_⟩))
        exact (nm rfl (k q _ _ _ hq (same_add (s12.trans (s3.trans a1)) hq) upd_same (((ot2.same (s3.trans a1)).set j b1 rfl (all3 (.int _) (.int _) ob8)).upd h8) (by rw [List.length_set]; omega)))
set_option maxHeartbeats 4000000 in
theorem okLawPair (T : Txt K mg a) : FnOk P w K mg base CX0 2 a.fLawPair a.gLawPair ["_law_first", "_law_last", "_law_least", "_law_most", "_law_days"] spPr := by
  refine T.dLawPair.fn.ok scLawPair (fun vs H Q E h => ?_) (fun cdv A outer s H vs Q E hr h => ?_)
  · exact spPr_elim (P := fun vs => vs.length = _) h fun _ _ _ _ _ _ _ _ _ => rfl
  · refine spPr_elim (P := fun vs => ∃ t, PSs _ _ t ∧ t _ (L2.start _ vs) H) h fun x y lo mo d ox oy k kn => ?_
    refine ⟨_, (pss_cons (ps_if (PW.pt (pw_or (pt_not (pt_val (pe_call (okLawWhole T) (hr.mono (by decide)) rfl T.dLawWhole.mgx T.dLawWhole.fn.kp T.dLawWhole.bd .nil pass0 (pa_cons (pv 0) pa_nil star_nam)))) (pw_or1 (pt_not (pt_val (pe_call (okLawWhole T) (hr.mono (by decide)) rfl T.dLawWhole.mgx T.dLawWhole.fn.kp T.dLawWhole.bd .nil pass0 (pa_cons (pv 1) pa_nil star_nam))))))) (pss_one (ps_ret pe_bl)) pss_nil)
      (pss_cons (ps_if (PW.pt (pw_or (pt_cmpR op_lt (pv 0) (pv 2) (nomark _)) (pw_or1 (PW.pt (pw_and (pt_cmpR op_notN (pv 3) pe_non (nomark _)) (pw_and1 (pt_cmpR op_gt (pv 1) (pv 3) (nomark _)))))))) (pss_one (ps_ret pe_bl)) pss_nil)
      (pss_one (ps_ret (pe_and (pe_cmpR op_le (pv 0) (pv 1) (nomark _)) (pe_one (pe_cmpR op_lt (pe_op op_sub (pv 1) (pv 0)) (pv 4) (nomark _)))))))), ?_⟩
    cases ew : wh x with
    | false => exact (nm rfl ⟨x, rfl, ox, (nm rfl (by rw [ew]; exact kn fun ⟨n, _, e, _⟩ => by rw [e] at ew; cases ew))⟩)
    | true =>
      obtain ⟨f, rfl⟩ := wh_int ew
      refine (nm rfl ⟨_, rfl, ox, (nm rfl (iteF (nm rfl ⟨y, rfl, oy, (nm rfl ?_)⟩)))⟩)
      cases ey : wh y with
      | false => exact iteT (kn fun ⟨_, n, _, e, _⟩ => by rw [e] at ey; cases ey)
      | true =>
        obtain ⟨l, rfl⟩ := wh_int ey
        refine iteF ?_
        have no : ∀ {p : Prop}, (lo ≤ f ∧ (∀ m, mo = some m → l ≤ m) ∧ f ≤ l ∧ l - f < d → p) → ¬ p → ¬ PrG (.int f) (.int l) lo mo d := fun g n ⟨_, _, e1, e2, z⟩ => by cases e1; cases e2; exact n (g z)
        refine (nm rfl (nm rfl (ii rfl rfl (nm rfl (ite2 (fun c1 => ?_) (fun c1 => ?_))))))
        · exact kn (no (fun g => g.1) (by have := of_decide_eq_true c1; omega))
        have c1 : lo ≤ f := Int.not_lt.mp fun z => c1 (decide_eq_true z)
        apply use (p := ∀ m, mo = some m → l ≤ m)
        · intro fin
          cases mo with
          | none => exact (nm rfl ⟨rfl, (nm rfl (iteND rfl (iteF (fin fun m e => nomatch e))))⟩)
          | some m =>
            refine (nm rfl ⟨rfl, (nm rfl (iteNN (fun z => nomatch z) (nm rfl (nm rfl (ii rfl rfl (nm rfl (ite2 (fun c2 => ?_) (fun c2 => ?_))))))))⟩)
            · exact kn (no (fun g => g.2.1 m rfl) (by have := of_decide_eq_true c2; omega))
            · exact fin fun m' e => by cases e; exact Int.not_lt.mp fun z => c2 (decide_eq_true z)
        · intro c2
          refine (nm rfl (nm rfl (ii rfl rfl (nm rfl (ite2 (fun c3 => (nm rfl (nm rfl (ii rfl rfl (nm rfl (ii rfl rfl ?_)))))) (fun c3 => ?_))))))
          · have c3 : f ≤ l := of_decide_eq_true c3
            show Q (.bl (decide (l - f < d))) H
            by_cases c4 : l - f < d
            · rw [decide_eq_true c4]; exact k ⟨f, l, rfl, rfl, c1, c2, c3, c4⟩
            · rw [decide_eq_false c4]; exact kn (no (fun g => g.2.2.2) c4)
          · exact kn (no (fun g => g.2.2.1) fun z => c3 (decide_eq_true z))
set_option maxHeartbeats 4000000 in
theorem okLawDue (T : Txt K mg a) : FnOk P w K mg base CX0 3 a.fLawDue a.gLawDue ["_law_week_here", "_law_yearly_here", "_law_rows_here"] spDue := by
  refine T.dLawDue.fn.ok scLawDue (fun vs H Q E h => ?_) (fun cdv A outer s H vs Q E hr h => ?_)
  · exact spDue_elim (P := fun vs => vs.length = _) h fun _ _ _ _ _ _ _ _ _ _ _ _ _ _ _ _ _ _ _ _ => rfl
  · refine spDue_elim (P := fun vs => ∃ t, PSs _ _ t ∧ t _ (L2.start _ vs) H) h fun pw py pr ws uy ur ys rs o hw odw hy oty hr0 otr lw ly lr hd k => ?_
    refine ⟨_, (pss_cons (ps_for PassesOwn.never rfl (pi_range1 rfl T.n_range (pa_cons (pe_callB call_len (by rfl) T.n_len boot_len (pa_cons (pv 0) pa_nil star_nam)) pa_nil star_cal)) (pg_name (i := 3) scLawDue.nd rfl (Or.inl rfl)) (pss_cons (ps_set (i := 4) scLawDue.nd rfl (Or.inl rfl) (pe_ix ix_list (pv 0) (pv 3) (fun _ _ => rfl)))
      (pss_one (ps_if (PW.pt (pw_or (pt_not (pt_val (pe_call (okLawWhole T) (hr.mono (by decide)) rfl T.dLawWhole.mgx T.dLawWhole.fn.kp T.dLawWhole.bd .nil pass0 (pa_cons (pv 4) pa_nil star_nam)))) (pw_or (pt_cmpR op_lt (pv 4) pe_int (nomark _)) (pw_or (pt_cmpR op_gt (pv 4) pe_int (nomark _)) (pw_or (pt_cmpR op_in_seq (pv 4) (pe_slice sl_list (pv 0) po_none (po_some (pv 3))) (by with_unfolding_all rfl)) (pw_or1 (pt_cmpR op_ge (pv 3) pe_int (nomark _)))))))) (pss_one (ps_ret (pe_tup (pa_cons pe_str (pa_cons (pv 3) pa_nil star_nam) star_con)))) pss_nil))))
      (pss_cons (ps_for PassesOwn.never rfl (pi_range1 rfl T.n_range (pa_cons (pe_callB call_len (by rfl) T.n_len boot_len (pa_cons (pv 1) pa_nil star_nam)) pa_nil star_cal)) (pg_name (i := 3) scLawDue.nd rfl (Or.inl rfl)) (pss_one (ps_if (PW.pt (pw_or (pt_cmpR op_ge (pv 3) pe_int (nomark _)) (pw_or1 (pt_not (pt_val (pe_call (okLawPair T) (hr.mono (by decide)) rfl T.dLawPair.mgx T.dLawPair.fn.kp T.dLawPair.bd .nil pass0 (pa_cons (pe_ix ix_tup (pe_ix ix_list (pv 1) (pv 3) (fun _ _ => rfl)) pe_int (fun _ _ => rfl)) (pa_cons (pe_ix ix_tup (pe_ix ix_list (pv 1) (pv 3) (fun _ _ => rfl)) pe_int (fun _ _ => rfl)) (pa_cons pe_int (pa_cons pe_int (pa_cons pe_int pa_nil star_con) star_con) star_con) star_sub) star_sub))))))) (pss_one (ps_ret (pe_tup (pa_cons pe_str (pa_cons (pv 3) pa_nil star_nam) star_con)))) pss_nil)))
      (pss_cons (ps_for PassesOwn.never rfl (pi_range1 rfl T.n_range (pa_cons (pe_callB call_len (by rfl) T.n_len boot_len (pa_cons (pv 2) pa_nil star_nam)) pa_nil star_cal)) (pg_name (i := 3) scLawDue.nd rfl (Or.inl rfl)) (pss_cons (ps_if (PW.pt (pw_or (pt_cmpR op_ge (pv 3) pe_int (nomark _)) (pw_or1 (pt_not (pt_val (pe_call (okLawPair T) (hr.mono (by decide)) rfl T.dLawPair.mgx T.dLawPair.fn.kp T.dLawPair.bd .nil pass0 (pa_cons (pe_ix ix_tup (pe_ix ix_list (pv 2) (pv 3) (fun _ _ => rfl)) pe_int (fun _ _ => rfl)) (pa_cons (pe_ix ix_tup (pe_ix ix_list (pv 2) (pv 3) (fun _ _ => rfl)) pe_int (fun _ _ => rfl)) (pa_cons pe_int (pa_cons pe_non (pa_cons pe_int pa_nil star_con) star_con) star_con) star_sub) star_sub))))))) (pss_one (ps_ret (pe_tup (pa_cons pe_str (pa_cons (pv 3) pa_nil star_nam) star_con)))) pss_nil)
      (pss_one (ps_if (PW.pt (pw_and (pt_cmpR (op_neOd hr.units) (pe_ix ix_tup (pe_ix ix_list (pv 2) (pv 3) (fun _ _ => rfl)) pe_int (fun _ _ => rfl)) pe_str (nomark _)) (pw_and1 (pt_cmpR (op_neOd hr.units) (pe_ix ix_tup (pe_ix ix_list (pv 2) (pv 3) (fun _ _ => rfl)) pe_int (fun _ _ => rfl)) pe_str (nomark _))))) (pss_one (ps_ret (pe_tup (pa_cons pe_str (pa_cons (pv 3) pa_nil star_nam) star_con)))) pss_nil))))
      (pss_one (ps_ret pe_non))))), ?_⟩
    have bW := rb (n := ws.length) (by omega)
    have bY := rb (n := uy.length) (by omega)
    have bR := rb (n := ur.length) (by omega)
    have lY := oty.len
    have lR := otr.len
    have rtW : ∀ i, Fst (gW ws) ws.length (some i) → ∀ t H2, Same H H2 → H2 t = some (.tup [.str (Str.ofString "week"), .int (i : Int)]) → Q (.ref t) H2 := fun i f t H2 s e => k _ _ s (by rw [hd.det (.week i f)]; exact ⟨t, rfl, e⟩)
    refine (nm rfl ⟨_, _, rfl, .inl ⟨_, SqL.of ((Same.refl H) _ _ hw), rfl⟩, _, rfl, bW.1, bW.2, for_range (lo := 0) (n := ((ws.length : Int)).toNat) (fun i σ H' => Same H H' ∧ (∀ j < i, gW ws j) ∧ ∃ v3 v4 : Option V, σ = [some (.ref pw), some (.ref py), some (.ref pr), v3, v4]) ⟨(Same.refl H), fun j hj => absurd hj (Nat.not_lt_zero _), _, _, rfl⟩ ?_ ?_⟩)
    · rintro i σ H' hi ⟨s0, al, v3, v4, rfl⟩
      have hi : i < ws.length := by omega
      rw [Int.zero_add]
      obtain ⟨v, hv⟩ : ∃ v, ws[i]? = some v := ⟨_, List.getElem?_eq_getElem hi⟩
      have ov := (odw v (List.mem_of_getElem? hv)).same s0
      have no : ∀ {p : Prop}, (WdG v → v ∉ ws.take i → i < 6 → p) → ¬ p → Fst (gW ws) ws.length (some i) := fun f n => ⟨hi, fun g => by obtain ⟨g6, u, hu, gu, nu⟩ := g; rw [hv] at hu; cases hu; exact n (f gu nu g6), al⟩
      refine (nm rfl (nm rfl (lx (SqL.of (s0 _ _ hw)) (atI_nat hv) ?_)))
      refine (nm rfl ⟨v, rfl, ov, (nm rfl ?_)⟩)
      cases ew : wh v with
      | false => exact iteT (nm rfl ⟨fit2 _ _, fun t ht => rtW i (no (fun ⟨n, e, _⟩ _ _ => by rw [e] at ew; cases ew) id) t _ ((s0).trans (same_upd ht)) upd_same⟩)
      | true =>
        obtain ⟨n, rfl⟩ := wh_int ew
        refine iteF (nm rfl (ii rfl rfl (nm rfl (ite2 (fun c1 => ?_) (fun c1 => (nm rfl (ii rfl rfl (nm rfl (ite2 (fun c2 => ?_) (fun c2 => ?_))))))))))
        · exact (nm rfl ⟨fit2 _ _, fun t ht => rtW i (no (fun ⟨m, e, h, _⟩ _ _ => show 1 ≤ n by cases e; exact h) (by have := of_decide_eq_true c1; omega)) t _ ((s0).trans (same_upd ht)) upd_same⟩)
        · exact (nm rfl ⟨fit2 _ _, fun t ht => rtW i (no (fun ⟨m, e, _, h⟩ _ _ => show n ≤ 7 by cases e; exact h) (by have := of_decide_eq_true c2; omega)) t _ ((s0).trans (same_upd ht)) upd_same⟩)
        have n1 : 1 ≤ n := Int.not_lt.mp fun z => c1 (decide_eq_true z)
        have n7 : n ≤ 7 := Int.not_lt.mp fun z => c2 (decide_eq_true z)
        obtain ⟨wk1, e1, ok1, l1⟩ := ints_of al
        refine (nm rfl (nm rfl (nm rfl ⟨_, rfl, _, _, rfl, SqL.of (s0 _ _ hw), fun q hq => ?_⟩)))
        rw [cut_take ws i (Nat.le_of_lt hi), e1]
        have s2 := s0.trans (same_upd (o := .lst (wk1.map V.int)) hq)
        have eq := upd_same (H := H') (a := q) (o := .lst (wk1.map V.int))
        generalize upd H' q _ = H2 at s2 eq ⊢
        refine ⟨_, _, rfl, .inl (SqL.of eq), rfl, flat_ints _, (nm rfl ?_)⟩
        show if inV (.int n) (wk1.map V.int) = true then _ else _
        rw [inV_ints]
        cases ec : wk1.contains n with
        | true => exact iteT (nm rfl ⟨fit2 _ _, fun t ht => rtW i (no (fun _ h _ => h) (fun h => h (by rw [e1]; exact List.mem_map.mpr ⟨n, List.contains_iff_mem.mp ec, rfl⟩))) t _ ((s2).trans (same_upd ht)) upd_same⟩)
        | false =>
          refine iteF (nm rfl (ii rfl rfl (nm rfl (ite2 (fun c3 => ?_) (fun c3 => ?_)))))
          · exact (nm rfl ⟨fit2 _ _, fun t ht => rtW i (no (fun _ _ h => h) (by have := of_decide_eq_true c3; omega)) t _ ((s2).trans (same_upd ht)) upd_same⟩)
          · have n6 : i < 6 := by
              have : ¬ (6 : Int) ≤ (i : Int) := fun z => c3 (decide_eq_true z)
              omega
            have gd : gW ws i := ⟨n6, _, hv, ⟨n, rfl, n1, n7⟩, fun m => by
              rw [e1] at m
              obtain ⟨n', m', e'⟩ := List.mem_map.mp m
              cases e'
              rw [List.contains_iff_mem.mpr m'] at ec
              cases ec⟩
            exact ⟨s2, fun j hj => by
          by_cases z : j = i
          · rw [z]; exact gd
          · exact al j (by omega), _, _, rfl⟩
    rintro σ HW ⟨sW, alW, v3W, v4W, rfl⟩
    rw [Int.toNat_natCast] at alW
    have rtY : ∀ i, Fst (gY ys) ys.length (some i) → ∀ t H2, Same H H2 → H2 t = some (.tup [.str (Str.ofString "yearly"), .int (i : Int)]) → Q (.ref t) H2 := fun i f t H2 s e => k _ _ s (by rw [hd.det (.yearly i alW f)]; exact ⟨t, rfl, e⟩)
    refine (nm rfl ⟨_, _, rfl, .inl ⟨_, SqL.of (sW _ _ hy), rfl⟩, _, rfl, bY.1, bY.2, for_range (lo := 0) (n := ((uy.length : Int)).toNat) (fun i σ H' => Same H H' ∧ (∀ j < i, gY ys j) ∧ ∃ v3 v4 : Option V, σ = [some (.ref pw), some (.ref py), some (.ref pr), v3, v4]) ⟨sW, fun j hj => absurd hj (Nat.not_lt_zero _), _, _, rfl⟩ ?_ ?_⟩)
    · rintro i σ H' hi ⟨s0, al, v3, v4, rfl⟩
      have hi : i < uy.length := by omega
      rw [Int.zero_add]
      obtain ⟨v, hv⟩ : ∃ v, uy[i]? = some v := ⟨_, List.getElem?_eq_getElem hi⟩
      obtain ⟨pt, x, y, rfl, ht, hpt, ox, oy⟩ := (oty.same s0).two hv
      have hgy := gY_pr ht
      refine (nm rfl (ii rfl rfl (nm rfl (ite2 (fun c1 => ?_) (fun c1 => ?_)))))
      · exact (nm rfl ⟨fit2 _ _, fun t ht => rtY i ⟨by omega, fun g => by have := g.1; have := of_decide_eq_true c1; omega, al⟩ t _ ((s0).trans (same_upd ht)) upd_same⟩)
      have n4 : i < 4 := by
        have : ¬ (4 : Int) ≤ (i : Int) := fun z => c1 (decide_eq_true z)
        omega
      refine (nm rfl (nm rfl (lx (SqL.of (s0 _ _ hy)) (atI_nat hv) (tx (SqT.of hpt) rfl (nm rfl (nm rfl (lx (SqL.of (s0 _ _ hy)) (atI_nat hv) (tx (SqT.of hpt) rfl ⟨x, y, 0, some 363, 30, rfl, ox, oy, fun g => (nm rfl (iteF ?_)), fun g => (nm rfl (iteT ?_))⟩))))))))
      · have gd : gY ys i := hgy.mpr ⟨n4, g⟩
        exact ⟨s0, fun j hj => by
          by_cases z : j = i
          · rw [z]; exact gd
          · exact al j (by omega), _, _, rfl⟩
      · exact (nm rfl ⟨fit2 _ _, fun t ht => rtY i ⟨by omega, fun h => g (hgy.mp h).2, al⟩ t _ ((s0).trans (same_upd ht)) upd_same⟩)
    rintro σ HY ⟨sY, alY, v3Y, v4Y, rfl⟩
    rw [Int.toNat_natCast] at alY
    rw [lY] at alY
    have rtR : ∀ i, Fst (gR rs) rs.length (some i) → ∀ t H2, Same H H2 → H2 t = some (.tup [.str (Str.ofString "rows"), .int (i : Int)]) → Q (.ref t) H2 := fun i f t H2 s e => k _ _ s (by rw [hd.det (.rows i alW alY f)]; exact ⟨t, rfl, e⟩)
    refine (nm rfl ⟨_, _, rfl, .inl ⟨_, SqL.of (sY _ _ hr0), rfl⟩, _, rfl, bR.1, bR.2, for_range (lo := 0) (n := ((ur.length : Int)).toNat) (fun i σ H' => Same H H' ∧ (∀ j < i, gR rs j) ∧ ∃ v3 v4 : Option V, σ = [some (.ref pw), some (.ref py), some (.ref pr), v3, v4]) ⟨sY, fun j hj => absurd hj (Nat.not_lt_zero _), _, _, rfl⟩ ?_ ?_⟩)
    · rintro i σ H' hi ⟨s0, al, v3, v4, rfl⟩
      have hi : i < ur.length := by omega
      rw [Int.zero_add]
      obtain ⟨v, hv⟩ : ∃ v, ur[i]? = some v := ⟨_, List.getElem?_eq_getElem hi⟩
      obtain ⟨pt, x, y, z0, rfl, ht, hpt, ox, oy, oz⟩ := (otr.same s0).three hv
      have hgr := gR_pr ht
      refine (nm rfl (ii rfl rfl (nm rfl (ite2 (fun c1 => ?_) (fun c1 => ?_)))))
      · exact (nm rfl ⟨fit2 _ _, fun t ht => rtR i ⟨by omega, fun g => by have := g.1; have := of_decide_eq_true c1; omega, al⟩ t _ ((s0).trans (same_upd ht)) upd_same⟩)
      have n4 : i < 12 := by
        have : ¬ (12 : Int) ≤ (i : Int) := fun z => c1 (decide_eq_true z)
        omega
      refine (nm rfl (nm rfl (lx (SqL.of (s0 _ _ hr0)) (atI_nat hv) (tx (SqT.of hpt) rfl (nm rfl (nm rfl (lx (SqL.of (s0 _ _ hr0)) (atI_nat hv) (tx (SqT.of hpt) rfl ⟨x, y, 0, none, 40, rfl, ox, oy, fun g => (nm rfl (iteF ?_)), fun g => (nm rfl (iteT ?_))⟩))))))))
      · have nx : (z0 = .str (Str.ofString "free") ∨ z0 = .str (Str.ofString "open")) → gR rs i := fun h => hgr.mpr ⟨n4, g, h⟩
        refine (nm rfl (nm rfl (lx (SqL.of (s0 _ _ hr0)) (atI_nat hv) (tx (SqT.of hpt) rfl ⟨_, rfl, oz, (nm rfl (ite2 (fun c2 => (nm rfl (nm rfl (lx (SqL.of (s0 _ _ hr0)) (atI_nat hv) (tx (SqT.of hpt) rfl ⟨_, rfl, oz, (nm rfl (ite2 (fun c3 => ?_) (fun c3 => ?_)))⟩))))) (fun c2 => iteF ?_)))⟩))))
        · have c2 : ¬ z0 = .str (Str.ofString "free") := fun e => by rw [decide_eq_true e] at c2; cases c2
          have c3 : ¬ z0 = .str (Str.ofString "open") := fun e => by rw [decide_eq_true e] at c3; cases c3
          exact (nm rfl ⟨fit2 _ _, fun t ht => rtR i ⟨by omega, fun h => (hgr.mp h).2.2.elim c2 c3, al⟩ t _ ((s0).trans (same_upd ht)) upd_same⟩)
        · have c3 : z0 = .str (Str.ofString "open") := by
            by_cases e : z0 = .str (Str.ofString "open")
            · exact e
            · rw [decide_eq_false e] at c3; exact absurd rfl c3
          exact ⟨s0, fun j hj => by
          by_cases z : j = i
          · rw [z]; exact nx (.inr c3)
          · exact al j (by omega), _, _, rfl⟩
        · have c2 : z0 = .str (Str.ofString "free") := by
            by_cases e : z0 = .str (Str.ofString "free")
            · exact e
            · rw [decide_eq_false e] at c2; exact absurd rfl c2
          exact ⟨s0, fun j hj => by
          by_cases z : j = i
          · rw [z]; exact nx (.inl c2)
          · exact al j (by omega), _, _, rfl⟩
      · exact (nm rfl ⟨fit2 _ _, fun t ht => rtR i ⟨by omega, fun h => g (hgr.mp h).2.1, al⟩ t _ ((s0).trans (same_upd ht)) upd_same⟩)
    rintro σ HR ⟨sR, alR, v3R, v4R, rfl⟩
    rw [Int.toNat_natCast] at alR
    rw [lR] at alR
    exact k _ _ sR (by rw [hd.det (.good alW alY alR)]; rfl)
set_option maxHeartbeats 4000000 in
theorem okHLawAlone (T : Txt K mg a) : FnH P w K mg base 2 a.fLawAlone a.gLawAlone ["_law_e"] (spAlH a) := by
  refine okH T.dLawAlone.fn scLawAlone (fun xh vs H Q E h => ?_) (fun cdv A outer s H vs Q xh hh hr h => ?_)
  · obtain ⟨_, _, _, rfl, _⟩ := h
    all_goals rfl
  · obtain ⟨d, p, i, rfl, hx, hd, k⟩ := h
    refine ⟨_, (pss_cons (ps_forH PassesOwn.never hh (pe_lst (pa_cons (pe_callB call_isx (by rfl) T.n_isinstance boot_isinstance (pa_cons (pv 0) (pa_cons (pe_glob (v := .ref a.cNoDay) rfl T.m_NoDay rfl) pa_nil star_nam) star_nam)) (pa_cons (pe_callB call_isx (by rfl) T.n_isinstance boot_isinstance (pa_cons (pv 0) (pa_cons (pe_glob (v := .ref a.cNoName) rfl T.m_NoName rfl) pa_nil star_nam) star_nam)) (pa_cons (pe_callB call_isx (by rfl) T.n_isinstance boot_isinstance (pa_cons (pv 0) (pa_cons (pe_glob (v := .ref a.cFull) rfl T.m_Full rfl) pa_nil star_nam) star_nam)) (pa_cons (pe_callB call_isx (by rfl) T.n_isinstance boot_isinstance (pa_cons (pv 0) (pa_cons (pe_glob (v := .ref a.cNoRule) rfl T.m_NoRule rfl) pa_nil star_nam) star_nam)) pa_nil star_cal) star_cal) star_cal) star_cal)) (pg_name (i := 1) scLawAlone.nd rfl (Or.inl rfl)) (pss_one (ps_if (pt_val (pv 1)) (pss_one (ps_ret pe_bl)) pss_nil)))
      (pss_cons (ps_forH PassesOwn.never hh (pe_lst (pa_cons (pe_callB call_isx (by rfl) T.n_isinstance boot_isinstance (pa_cons (pv 0) (pa_cons (pe_glob (v := .ref a.cNoTerm) rfl T.m_NoTerm rfl) pa_nil star_nam) star_nam)) (pa_cons (pe_callB call_isx (by rfl) T.n_isinstance boot_isinstance (pa_cons (pv 0) (pa_cons (pe_glob (v := .ref a.cUnfit) rfl T.m_Unfit rfl) pa_nil star_nam) star_nam)) (pa_cons (pe_callB call_isx (by rfl) T.n_isinstance boot_isinstance (pa_cons (pv 0) (pa_cons (pe_glob (v := .ref a.cRing) rfl T.m_Ring rfl) pa_nil star_nam) star_nam)) (pa_cons (pe_callB call_isx (by rfl) T.n_isinstance boot_isinstance (pa_cons (pv 0) (pa_cons (pe_glob (v := .ref a.cTwice) rfl T.m_Twice rfl) pa_nil star_nam) star_nam)) pa_nil star_cal) star_cal) star_cal) star_cal)) (pg_name (i := 1) scLawAlone.nd rfl (Or.inl rfl)) (pss_one (ps_if (pt_val (pv 1)) (pss_one (ps_ret pe_bl)) pss_nil)))
      (pss_cons (ps_forH PassesOwn.never hh (pe_lst (pa_cons (pe_callB call_isx (by rfl) T.n_isinstance boot_isinstance (pa_cons (pv 0) (pa_cons (pe_glob (v := .ref a.cNoAct) rfl T.m_NoAct rfl) pa_nil star_nam) star_nam)) (pa_cons (pe_callB call_isx (by rfl) T.n_isinstance boot_isinstance (pa_cons (pv 0) (pa_cons (pe_glob (v := .ref a.cParted) rfl T.m_Parted rfl) pa_nil star_nam) star_nam)) (pa_cons (pe_callB call_isx (by rfl) T.n_isinstance boot_isinstance (pa_cons (pv 0) (pa_cons (pe_glob (v := .ref a.cAdrift) rfl T.m_Adrift rfl) pa_nil star_nam) star_nam)) (pa_cons (pe_callB call_isx (by rfl) T.n_isinstance boot_isinstance (pa_cons (pv 0) (pa_cons (pe_glob (v := .ref a.cNoRow) rfl T.m_NoRow rfl) pa_nil star_nam) star_nam)) pa_nil star_cal) star_cal) star_cal) star_cal)) (pg_name (i := 1) scLawAlone.nd rfl (Or.inl rfl)) (pss_one (ps_if (pt_val (pv 1)) (pss_one (ps_ret pe_bl)) pss_nil)))
      (pss_one (ps_ret (pe_and (pe_callB call_isx (by rfl) T.n_isinstance boot_isinstance (pa_cons (pv 0) (pa_cons (pe_glob (v := .ref a.cCourtError) rfl T.m_CourtError rfl) pa_nil star_nam) star_nam)) (pe_and (pe_callB call_isx (by rfl) T.n_isinstance boot_isinstance (pa_cons (pv 0) (pa_cons (pe_bltn (v := .ty "ValueError") rfl T.n_ValueError boot_ValueError rfl) pa_nil star_nam) star_nam)) (pe_and (pe_callH (okHLawWhole T) hh (hr.mono (by decide)) rfl T.dLawWhole.mgx T.dLawWhole.fn.kp T.dLawWhole.bd (pa_cons (pe_xfld (pv 0) rfl) pa_nil star_att)) (pe_one (pe_callB call_isi (by rfl) T.n_isinstance boot_isinstance (pa_cons (pe_xfld (pv 0) rfl) (pa_cons (pe_bltn (v := .ty "str") rfl T.n_str boot_str rfl) pa_nil star_nam) star_att))))))))))), ?_⟩
    refine (nm rfl ⟨_, _, _, _, _, _, _, rfl, ((Same.refl H) _ _ hx), ⟨_, ((Same.refl H) _ _ hd)⟩, T.x_NoTable.is, .inr ⟨_, rfl, rfl⟩, xkits_of T.k_NoTable (i := 6) rfl rfl, (nm rfl ⟨_, _, _, _, _, _, _, rfl, ((Same.refl H) _ _ hx), ⟨_, ((Same.refl H) _ _ hd)⟩, T.x_NoTable.is, .inr ⟨_, rfl, rfl⟩, xkits_of T.k_NoTable (i := 7) rfl rfl, (nm rfl ⟨_, _, _, _, _, _, _, rfl, ((Same.refl H) _ _ hx), ⟨_, ((Same.refl H) _ _ hd)⟩, T.x_NoTable.is, .inr ⟨_, rfl, rfl⟩, xkits_of T.k_NoTable (i := 4) rfl rfl, (nm rfl ⟨_, _, _, _, _, _, _, rfl, ((Same.refl H) _ _ hx), ⟨_, ((Same.refl H) _ _ hd)⟩, T.x_NoTable.is, .inr ⟨_, rfl, rfl⟩, xkits_of T.k_NoTable (i := 9) rfl rfl, fits (show 4 ≤ 100000 by decide), fun l0 n0 => ?_⟩)⟩)⟩)⟩)
    have s0 := Same.trans (Same.refl H) (same_upd (o := .lst [V.bl false, V.bl false, V.bl false, V.bl false]) n0)
    have e0 := upd_same (a := l0) (o := .lst [V.bl false, V.bl false, V.bl false, V.bl false]) (H := H)
    generalize upd H l0 _ = G0 at s0 e0 ⊢
    refine ⟨l0, [V.bl false, V.bl false, V.bl false, V.bl false], fun i σ H' => Same G0 H' ∧ ∃ v : Option V, σ = [some (.ref xh), v], rfl, ⟨Same.refl _, _, rfl⟩, fun i σ H' _ h => ⟨SqL.of (h.1 _ _ e0), _, _, h.1 _ _ (s0 _ _ hx)⟩, fun i y σ H' hy h => ?_, fun σ H' h => ?_⟩
    · obtain ⟨sh, v, rfl⟩ := h
      have ey : y = .bl false := by
        have := List.mem_of_getElem? hy
        simpa using this
      subst ey
      exact (nm rfl (nm rfl (iteF ⟨sh, _, rfl⟩)))
    obtain ⟨t0, v0, rfl⟩ := h
    have u0 := s0.trans t0
    clear t0 e0 s0
    generalize H' = J0 at u0 ⊢
    refine (nm rfl ⟨_, _, _, _, _, _, _, rfl, (u0 _ _ hx), ⟨_, (u0 _ _ hd)⟩, T.x_NoTable.is, .inr ⟨_, rfl, rfl⟩, xkits_of T.k_NoTable (i := 10) rfl rfl, (nm rfl ⟨_, _, _, _, _, _, _, rfl, (u0 _ _ hx), ⟨_, (u0 _ _ hd)⟩, T.x_NoTable.is, .inr ⟨_, rfl, rfl⟩, xkits_of T.k_NoTable (i := 14) rfl rfl, (nm rfl ⟨_, _, _, _, _, _, _, rfl, (u0 _ _ hx), ⟨_, (u0 _ _ hd)⟩, T.x_NoTable.is, .inr ⟨_, rfl, rfl⟩, xkits_of T.k_NoTable (i := 12) rfl rfl, (nm rfl ⟨_, _, _, _, _, _, _, rfl, (u0 _ _ hx), ⟨_, (u0 _ _ hd)⟩, T.x_NoTable.is, .inr ⟨_, rfl, rfl⟩, xkits_of T.k_NoTable (i := 13) rfl rfl, fits (show 4 ≤ 100000 by decide), fun l1 n1 => ?_⟩)⟩)⟩)⟩)
    have s1 := Same.trans u0 (same_upd (o := .lst [V.bl false, V.bl false, V.bl false, V.bl false]) n1)
    have e1 := upd_same (a := l1) (o := .lst [V.bl false, V.bl false, V.bl false, V.bl false]) (H := J0)
    generalize upd J0 l1 _ = G1 at s1 e1 ⊢
    refine ⟨l1, [V.bl false, V.bl false, V.bl false, V.bl false], fun i σ H' => Same G1 H' ∧ ∃ v : Option V, σ = [some (.ref xh), v], rfl, ⟨Same.refl _, _, rfl⟩, fun i σ H' _ h => ⟨SqL.of (h.1 _ _ e1), _, _, h.1 _ _ (s1 _ _ hx)⟩, fun i y σ H' hy h => ?_, fun σ H' h => ?_⟩
    · obtain ⟨sh, v, rfl⟩ := h
      have ey : y = .bl false := by
        have := List.mem_of_getElem? hy
        simpa using this
      subst ey
      exact (nm rfl (nm rfl (iteF ⟨sh, _, rfl⟩)))
    obtain ⟨t1, v1, rfl⟩ := h
    have u1 := s1.trans t1
    clear t1 e1 s1
    generalize H' = J1 at u1 ⊢
    refine (nm rfl ⟨_, _, _, _, _, _, _, rfl, (u1 _ _ hx), ⟨_, (u1 _ _ hd)⟩, T.x_NoTable.is, .inr ⟨_, rfl, rfl⟩, xkits_of T.k_NoTable (i := 5) rfl rfl, (nm rfl ⟨_, _, _, _, _, _, _, rfl, (u1 _ _ hx), ⟨_, (u1 _ _ hd)⟩, T.x_NoTable.is, .inr ⟨_, rfl, rfl⟩, xkits_of T.k_NoTable (i := 11) rfl rfl, (nm rfl ⟨_, _, _, _, _, _, _, rfl, (u1 _ _ hx), ⟨_, (u1 _ _ hd)⟩, T.x_NoTable.is, .inr ⟨_, rfl, rfl⟩, xkits_of T.k_NoTable (i := 3) rfl rfl, (nm rfl ⟨_, _, _, _, _, _, _, rfl, (u1 _ _ hx), ⟨_, (u1 _ _ hd)⟩, T.x_NoTable.is, .inr ⟨_, rfl, rfl⟩, xkits_of T.k_NoTable (i := 8) rfl rfl, fits (show 4 ≤ 100000 by decide), fun l2 n2 => ?_⟩)⟩)⟩)⟩)
    have s2 := Same.trans u1 (same_upd (o := .lst [V.bl false, V.bl false, V.bl false, V.bl false]) n2)
    have e2 := upd_same (a := l2) (o := .lst [V.bl false, V.bl false, V.bl false, V.bl false]) (H := J1)
    generalize upd J1 l2 _ = G2 at s2 e2 ⊢
    refine ⟨l2, [V.bl false, V.bl false, V.bl false, V.bl false], fun i σ H' => Same G2 H' ∧ ∃ v : Option V, σ = [some (.ref xh), v], rfl, ⟨Same.refl _, _, rfl⟩, fun i σ H' _ h => ⟨SqL.of (h.1 _ _ e2), _, _, h.1 _ _ (s2 _ _ hx)⟩, fun i y σ H' hy h => ?_, fun σ H' h => ?_⟩
    · obtain ⟨sh, v, rfl⟩ := h
      have ey : y = .bl false := by
        have := List.mem_of_getElem? hy
        simpa using this
      subst ey
      exact (nm rfl (nm rfl (iteF ⟨sh, _, rfl⟩)))
    obtain ⟨t2, v2, rfl⟩ := h
    have u2 := s2.trans t2
    clear t2 e2 s2
    generalize H' = J2 at u2 ⊢
    refine (nm rfl ⟨_, _, _, _, _, _, _, rfl, (u2 _ _ hx), ⟨_, (u2 _ _ hd)⟩, T.x_NoTable.is, .inr ⟨_, rfl, rfl⟩, xkits_of T.k_NoTable (i := 0) rfl rfl, (nm rfl (iteT (nm rfl ⟨_, _, _, _, _, _, _, rfl, (u2 _ _ hx), ⟨_, (u2 _ _ hd)⟩, T.x_NoTable.is, .inl ⟨_, rfl, rfl⟩, xkits_of T.k_NoTable (i := 1) rfl rfl, (nm rfl (iteT (nm rfl ⟨xh, _, d, false, _, _, rfl, (u2 _ _ hx), (u2 _ _ hd), T.x_NoTable.is, xno_of T.n_NoTable (by decide), rfl, _, rfl, (nm rfl (iteT (nm rfl ⟨xh, _, d, false, _, _, rfl, (u2 _ _ hx), (u2 _ _ hd), T.x_NoTable.is, xno_of T.n_NoTable (by decide), rfl, _, _, _, _, rfl, .str _, kit_str_str, k _ u2⟩)))⟩)))⟩)))⟩)
set_option maxHeartbeats 4000000 in
theorem okPatternInit (T : Txt K mg a) : FnOk P w K mg base (CX1 P w) 5 a.fPatternInit a.gPatternInit ["self", "week", "yearly"] (spPInit7 a) := by
  refine okX T.dPatternInit.fn scPatternInit (fun vs H Q E h => ?_) (fun cdv A outer s H vs Q E hr h => ?_)
  · exact spPInit7_elim (P := fun vs => vs.length = _) h fun _ _ _ _ _ _ _ _ _ _ _ _ _ _ => rfl
  · refine spPInit7_elim (P := fun vs => ∃ t, PSs _ _ t ∧ t _ (L2.start _ vs) H) h fun x dx pw py ws uy ys hx hw0 odw hy0 ot k kx => ?_
    refine ⟨_, (pss_cons (ps_expr (pe_callX (okRefuseWeek T) (hr.mono (by decide)) rfl T.dRefuseWeek.mgx T.dRefuseWeek.fn.kp T.dRefuseWeek.bd .nil (Takes.at takes_fn) (pa_cons (pv 1) pa_nil star_nam)))
      (pss_cons (ps_expr (pe_callX (okRefuseYearly T) (hr.mono (by decide)) rfl T.dRefuseYearly.mgx T.dRefuseYearly.fn.kp T.dRefuseYearly.bd .nil (Takes.at takes_fn) (pa_cons (pv 2) pa_nil star_nam)))
      (pss_cons (ps_fld (pv 0) (pe_comp (N := ["within", "week", "yearly"]) (js := [none, some 1, some 2]) (XN := ["self", "week", "yearly"]) (xs := defScope sPatternInit) rfl rfl rfl (by decide +kernel) (pi_range1 rfl T.n_range (pa_cons (pe_glob (v := .int 371) rfl T.g_LONG_YEAR.choose_spec ⟨_, rfl⟩) pa_nil star_nam)) (fun _ _ _ _ _ _ => (pg_name (i := 0) (show List.Nodup (["within", "week", "yearly"] : List Str) from by decide +kernel) rfl (Or.inl rfl) (Or.inr rfl))) (fun _ _ _ _ _ _ => pts_nil) (fun _ _ _ _ _ _ => (pe_call (okIsFreeWithin T) (hr.mono (by decide)) rfl T.dIsFreeWithin.mgx T.dIsFreeWithin.fn.kp T.dIsFreeWithin.bd .nil pass0 (pa_cons (pv 0) (pa_cons (pv 1) (pa_cons (pv 2) pa_nil star_nam) star_nam) star_nam)))) rfl)
      (pss_cons (ps_fld (pv 0) (pe_comp (N := ["within", "self"]) (js := [none, some 0]) (XN := ["self", "week", "yearly"]) (xs := defScope sPatternInit) rfl rfl rfl (by decide +kernel) (pi_range1 rfl T.n_range (pa_cons (pe_glob (v := .int 371) rfl T.g_LONG_YEAR.choose_spec ⟨_, rfl⟩) pa_nil star_nam)) (fun _ _ _ _ _ _ => (pg_name (i := 0) (show List.Nodup (["within", "self"] : List Str) from by decide +kernel) rfl (Or.inl rfl) (Or.inr rfl))) (fun _ _ _ _ _ _ => (pts_one (pt_not (pt_val (pe_ix (ix_listC (K := K) rfl) (pe_fldK (K := K) rfl (pv 1) rfl) (pv 0) (fun _ _ => rfl)))))) (fun _ _ _ _ _ _ => (pv 0))) rfl)
      (pss_one (ps_fld (pv 0) (pe_call (okCountedUp T) (hr.mono (by decide)) rfl T.dCountedUp.mgx T.dCountedUp.fn.kp T.dCountedUp.bd .nil pass0 (pa_cons (pe_fld (pv 0) rfl) pa_nil star_att)) rfl)))))), ?_⟩
    refine (nm rfl ⟨pw, ws, rfl, hw0, odw, fun f1 H1 s1 => ?_, fun i f => kx _ i (.week i f)⟩)
    refine (nm rfl ⟨py, uy, ys, rfl, s1 _ _ hy0, ot.same s1, fun f2 H2 s2 => ?_, fun i f => (kx _ i (.yearly i f1 f)).same s1⟩)
    obtain ⟨wk', rfl, okw⟩ := wk_of f1
    obtain ⟨yr, rfl, oky⟩ := yr_of f2
    have hw := hw0
    have hy : AtP H py yr := ⟨uy, hy0, ot.tu⟩
    have s12 := s1.trans s2
    have hly := oky.len
    refine ⟨_, rfl, by decide, by decide, ?_⟩
    refine comp_grow (fun v => match v with | .int i => .bl (fy wk' yr i) | _ => .non) (fun σ' => ∃ v, σ' = [v, some (.ref pw), some (.ref py)]) feeds_range (fits (by rw [List.length_map, List.length_range]; decide)) ⟨none, rfl⟩ (fun v σ' H' RR hv sm s4 q => ?_) gk_name fun p3 H3 hp3 s3 e3 => ?_
    · obtain ⟨v0, rfl⟩ := s4
      obtain ⟨j, _, rfl⟩ := List.mem_map.mp hv
      exact (nm rfl (nm rfl (nm rfl ⟨_, _, _, _, _, rfl, sm _ _ (s12 _ _ hw), (hy.same s12).same sm, by omega, fun H5 s5 => q _ H5 ⟨_, rfl⟩ s5⟩)))
    have e3' : H3 p3 = some (.lst ((fdL wk' yr).map V.bl)) := by
      rw [e3]
      unfold fdL
      rw [List.map_map, List.map_map]
      refine congrArg (fun l => some (HO.lst l)) (List.map_congr_left fun j _ => ?_)
      show V.bl (fy wk' yr (0 + (j : Int))) = V.bl (fy wk' yr (j : Int))
      rw [Int.zero_add]
    have s123 := s12.trans s3
    have hx3 := s123 _ _ hx
    refine (nm rfl ⟨_, _, _, _, rfl, hx3, T.c_Pattern, xno_of T.n_Pattern (by decide), by decide, ?_⟩)
    rw [put1]
    have n3 : p3 ≠ x := fun z => by rw [z, s12 _ _ hx] at hp3; cases hp3
    have b3 : SameBut x H (upd H3 x (.ins a.cPattern dx [(Str.ofString "free_days", .ref p3)])) := (SameBut.of s123).set
    have f3 := (upd_ne (o := .ins a.cPattern dx [(Str.ofString "free_days", .ref p3)]) n3).trans e3'
    have x3 := upd_same (H := H3) (a := x) (o := .ins a.cPattern dx [(Str.ofString "free_days", .ref p3)])
    generalize upd H3 x (.ins a.cPattern dx [(Str.ofString "free_days", .ref p3)]) = H4 at b3 f3 x3 ⊢
    refine ⟨_, rfl, by decide, by decide, ?_⟩
    refine comp_filt (fun v => match v with | .int i => !((fdL wk' yr).getD i.toNat true) | _ => false) (fun v => v) (fun σ' => ∃ v, σ' = [v, some (.ref x)]) feeds_range (fits (by rw [List.length_map, List.length_range]; decide)) ⟨none, rfl⟩ (fun v σ' H' N RR hv sm s4 kn ky => ?_) gk_name fun p5 hp5 => ?_
    · obtain ⟨v0, rfl⟩ := s4
      obtain ⟨j, hj, rfl⟩ := List.mem_map.mp hv
      have hj' : j < 371 := by simpa using hj
      have ej : (0 : Int) + (j : Int) = (j : Int) := Int.zero_add _
      rw [ej] at kn ky ⊢
      have hlt : j < (fdL wk' yr).length := by rw [fdL_len]; exact hj'
      have eg : (fdL wk' yr)[j]? = some ((fdL wk' yr)[j]) := List.getElem?_eq_getElem hlt
      have eD : (fdL wk' yr).getD ((j : Int)).toNat true = (fdL wk' yr)[j] := by rw [Int.toNat_natCast, List.getD_eq_getElem?_getD, eg]; rfl
      refine (nm rfl (fl (sm _ _ x3) (T.c_Pattern) (xno_of T.n_Pattern (by decide)) (rfl) (nm rfl (lx (SqL.of (sm _ _ f3)) (atI_nat (by rw [List.getElem?_map, eg]; rfl)) (nm rfl ?_)))))
      cases eb : (fdL wk' yr)[j] with
      | true => exact iteF (kn _ ⟨_, rfl⟩ (by show (!_) = false; rw [eD, eb]; rfl))
      | false => exact iteT (nm rfl (ky _ ⟨_, rfl⟩ (by show (!_) = true; rw [eD, eb]; rfl)))
    have s5 := same_upd (o := .lst ((((List.range (371 : Int).toNat).map fun i => V.int (0 + (i : Nat))).filter fun v => match v with | .int i => !((fdL wk' yr).getD i.toNat true) | _ => false).map fun v => v)) hp5
    have e5 : upd H4 p5 (.lst ((((List.range (371 : Int).toNat).map fun i => V.int (0 + (i : Nat))).filter fun v => match v with | .int i => !((fdL wk' yr).getD i.toNat true) | _ => false).map fun v => v)) p5 = some (.lst ((odL (fdL wk' yr)).map V.int)) := by
      rw [upd_same]
      refine congrArg (fun l => some (HO.lst l)) ?_
      unfold odL
      rw [List.map_id', List.filter_map, List.map_map, fdL_len]
      refine (congrArg _ (List.filter_congr fun i _ => ?_)).trans (List.map_congr_left fun i _ => ?_)
      · show (!((fdL wk' yr).getD (0 + (i : Int)).toNat true)) = _
        rw [Int.zero_add, Int.toNat_natCast]
      · show V.int (0 + (i : Int)) = _
        rw [Int.zero_add]; rfl
    have x5 := s5 _ _ x3
    have f5 := s5 _ _ f3
    generalize upd H4 p5 (.lst ((((List.range (371 : Int).toNat).map fun i => V.int (0 + (i : Nat))).filter fun v => match v with | .int i => !((fdL wk' yr).getD i.toNat true) | _ => false).map fun v => v)) = H5 at s5 e5 x5 f5 ⊢
    refine (nm rfl ⟨_, _, _, _, rfl, x5, T.c_Pattern, xno_of T.n_Pattern (by decide), (show 1 < 1000 by decide), ?_⟩)
    rw [put2 _ _ (by decide +kernel)]
    have n5 : p5 ≠ x := fun z => by rw [z, x3] at hp5; cases hp5
    have b5 : SameBut x H (upd H5 x (.ins a.cPattern dx [(Str.ofString "free_days", .ref p3), (Str.ofString "open_days", .ref p5)])) := (b3.trans (SameBut.of s5)).set
    have f6 := (upd_ne (o := .ins a.cPattern dx [(Str.ofString "free_days", .ref p3), (Str.ofString "open_days", .ref p5)]) n3).trans f5
    have o6 := (upd_ne (o := .ins a.cPattern dx [(Str.ofString "free_days", .ref p3), (Str.ofString "open_days", .ref p5)]) n5).trans e5
    have x6 := upd_same (H := H5) (a := x) (o := .ins a.cPattern dx [(Str.ofString "free_days", .ref p3), (Str.ofString "open_days", .ref p5)])
    generalize upd H5 x (.ins a.cPattern dx [(Str.ofString "free_days", .ref p3), (Str.ofString "open_days", .ref p5)]) = H6 at b5 f6 o6 x6 ⊢
    refine (nm rfl (fl (x6) (T.c_Pattern) (xno_of T.n_Pattern (by decide)) (rfl) ⟨_, _, rfl, f6, by rw [fdL_len]; decide, fun p7 H7 n7 s7 e7 => ?_⟩))
    have x7 := s7 _ _ x6
    refine (nm rfl ⟨_, _, _, _, rfl, x7, T.c_Pattern, xno_of T.n_Pattern (by decide), (show 2 < 1000 by decide), ?_⟩)
    rw [put3 _ _ _ (by decide +kernel) (by decide +kernel)]
    have m7 : p7 ≠ x := fun z => by rw [z, x6] at n7; cases n7
    refine k f1 f2 _ _ ((b5.trans (SameBut.of s7)).set) ⟨_, p3, p5, p7, upd_same, (upd_ne n3).trans (s7 _ _ f6), (upd_ne n5).trans (s7 _ _ o6), (upd_ne m7).trans e7, fdL_len _ _⟩
set_option maxHeartbeats 4000000 in
theorem okPatternBeforeYear (T : Txt K mg a) : FnOk P w K mg base CX0 2 a.fPatternBeforeYear a.gPatternBeforeYear ["self", "year"] (spPBy a) := by
  refine T.dPatternBeforeYear.fn.ok scPatternBeforeYear (fun vs H Q E h => ?_) (fun cdv A outer s H vs Q E hr h => ?_)
  · exact spPBy_elim (P := fun vs => vs.length = _) h fun _ _ _ _ _ => rfl
  · refine spPBy_elim (P := fun vs => ∃ t, PSs _ _ t ∧ t _ (L2.start _ vs) H) h fun x bs y hx k => ?_
    refine ⟨_, (pss_cons (ps_set (i := 2) scPatternBeforeYear.nd rfl (Or.inl rfl) (pe_op op_sub (pe_ix ix_list (pe_fld (pv 0) rfl) (pe_glob (v := .int 371) rfl T.g_LONG_YEAR.choose_spec ⟨_, rfl⟩) (fun _ _ => rfl)) (pe_ix ix_list (pe_fld (pv 0) rfl) (pe_glob (v := .int 364) rfl T.g_SHORT_YEAR.choose_spec ⟨_, rfl⟩) (fun _ _ => rfl))))
      (pss_one (ps_ret (pe_op op_add (pe_op op_mul (pv 1) (pe_ix ix_list (pe_fld (pv 0) rfl) (pe_glob (v := .int 364) rfl T.g_SHORT_YEAR.choose_spec ⟨_, rfl⟩) (fun _ _ => rfl))) (pe_op op_mul (pe_call (okLongBefore T) (hr.mono (by decide)) rfl T.dLongBefore.mgx T.dLongBefore.fn.kp T.dLongBefore.bd .nil pass0 (pa_cons (pv 1) pa_nil star_nam)) (pv 2)))))), ?_⟩
    obtain ⟨dx, a1, a2, a3, h1, e1, e2, e3, hl⟩ := hx
    have c1 : atI ((cuL bs).map V.int) 371 = some (.int (opn bs 371)) := atI_of (j := 371) (by rw [List.getElem?_map, cuL_at bs (by rw [hl]; decide)]; rfl) rfl
    have c2 : atI ((cuL bs).map V.int) 364 = some (.int (opn bs 364)) := atI_of (j := 364) (by rw [List.getElem?_map, cuL_at bs (by rw [hl]; decide)]; rfl) rfl
    refine (nm rfl (fl (h1) (T.c_Pattern) (xno_of T.n_Pattern (by decide)) (rfl) (lx (SqL.of e3) c1 (nm rfl (fl (h1) (T.c_Pattern) (xno_of T.n_Pattern (by decide)) (rfl) (lx (SqL.of e3) c2 (ii rfl rfl ?_)))))))
    exact (nm rfl (nm rfl (fl (h1) (T.c_Pattern) (xno_of T.n_Pattern (by decide)) (rfl) (lx (SqL.of e3) c2 (ii rfl rfl ⟨.inr (opB hl), (nm rfl (nm rfl (nm rfl (ii rfl rfl ⟨.inr (opD hl), (ii rfl rfl k)⟩))))⟩)))))
set_option maxHeartbeats 4000000 in
theorem okPatternBefore (T : Txt K mg a) : FnOk P w K mg base CX0 5 a.fPatternBefore a.gPatternBefore ["self", "day"] (spPBef a) := by
  refine T.dPatternBefore.fn.ok scPatternBefore (fun vs H Q E h => ?_) (fun cdv A outer s H vs Q E hr h => ?_)
  · exact spPBef_elim (P := fun vs => vs.length = _) h fun _ _ _ _ _ _ => rfl
  · refine spPBef_elim (P := fun vs => ∃ t, PSs _ _ t ∧ t _ (L2.start _ vs) H) h fun x bs n hx h0 k => ?_
    refine ⟨_, (pss_cons (ps_set (i := 2) scPatternBefore.nd rfl (Or.inl rfl) (pe_call (okYearOf T) (hr.mono (by decide)) rfl T.dYearOf.mgx T.dYearOf.fn.kp T.dYearOf.bd .nil pass0 (pa_cons (pe_op op_fdiv (pv 1) pe_int) pa_nil star_bin)))
      (pss_one (ps_ret (pe_op op_add (pe_meth (pv 0) T.c_Pattern T.t_dPatternBeforeYear (okPatternBeforeYear T) (hr.mono (by decide)) T.dPatternBeforeYear.bd .nil pass0 (pa_cons (pv 2) pa_nil star_nam)) (pe_ix ix_list (pe_fld (pv 0) rfl) (pe_call (okDayOfYear T) (hr.mono (by decide)) rfl T.dDayOfYear.mgx T.dDayOfYear.fn.kp T.dDayOfYear.bd .nil pass0 (pa_cons (pv 1) pa_nil star_nam)) (fun _ _ => rfl)))))), ?_⟩
    have hx0 := hx
    obtain ⟨dx, a1, a2, a3, h1, e1, e2, e3, hl⟩ := hx
    obtain ⟨d0, d1⟩ := doy_in h0
    refine (nm rfl (ic rfl rfl ⟨by decide, by decide⟩ (nm rfl ?_)))
    refine (nm rfl ⟨_, _, _, rfl, h1, rfl, (nm rfl ⟨_, _, _, rfl, hx0, (nm rfl (fl (h1) (T.c_Pattern) (xno_of T.n_Pattern (by decide)) (rfl) (nm rfl ⟨_, rfl, h0, fun H' s => ?_⟩)))⟩)⟩)
    exact (lx (SqL.of (s _ _ e3)) (atI_of (j := (doy n).toNat) (by rw [List.getElem?_map, cuL_at bs (by rw [hl]; exact Nat.le_of_lt ((Int.toNat_lt d0).mpr d1))]; rfl) (Int.toNat_of_nonneg d0).symm) (ii rfl rfl (k H' s)))
set_option maxHeartbeats 4000000 in
theorem okTableShift (T : Txt K mg a) : FnOk P w K mg base CX0 6 a.fTableShift a.gTableShift ["self", "row", "end"] (spShift a) := by
  refine T.dTableShift.fn.ok scTableShift (fun vs H Q E h => ?_) (fun cdv A outer s H vs Q E hr h => ?_)
  · exact spShift_elim (P := fun vs => vs.length = _) h fun _ _ _ _ _ _ _ _ _ _ _ _ _ _ _ => rfl
  · refine spShift_elim (P := fun vs => ∃ t, PSs _ _ t ∧ t _ (L2.start _ vs) H) h fun x p q z y dx bs r e hx hpt hy h0 h1 k => ?_
    refine ⟨_, (pss_cons (ps_set (i := 3) scTableShift.nd rfl (Or.inl rfl) (pe_op op_sub (pe_meth (pe_fld (pv 0) rfl) T.c_Pattern T.t_dPatternBefore (okPatternBefore T) (hr.mono (by decide)) T.dPatternBefore.bd .nil pass0 (pa_cons (pv 2) pa_nil star_nam)) (pe_meth (pe_fld (pv 0) rfl) T.c_Pattern T.t_dPatternBefore (okPatternBefore T) (hr.mono (by decide)) T.dPatternBefore.bd .nil pass0 (pa_cons (pe_ix ix_tup (pv 1) pe_int (fun _ _ => rfl)) pa_nil star_sub))))
      (pss_cons (ps_set (i := 4) scTableShift.nd rfl (Or.inl rfl) (pe_ifExp (pt_cmpR op_eq (pe_ix ix_tup (pv 1) pe_int (fun _ _ => rfl)) pe_str (nomark _)) (pe_op op_sub (pv 2) (pe_ix ix_tup (pv 1) pe_int (fun _ _ => rfl))) pe_int))
      (pss_one (ps_ret (pe_op op_sub (pv 4) (pv 3)))))), ?_⟩
    have hpt0 := hpt
    obtain ⟨dp, a1, a2, a3, p1, _⟩ := hpt
    refine (nm rfl (fl (hx) (T.c_Table) (xno_of T.n_Table (by decide)) (rfl) ⟨_, _, _, rfl, p1, rfl, (nm rfl ⟨_, _, _, rfl, hpt0, h1, fun H1 s1 => ?_⟩)⟩))
    refine (nm rfl (fl (s1 _ _ hx) (T.c_Table) (xno_of T.n_Table (by decide)) (rfl) ⟨_, _, _, rfl, s1 _ _ p1, rfl, (nm rfl (tx (SqT.of (s1 _ _ hy)) rfl ⟨_, _, _, rfl, hpt0.same s1, h0, fun H2 s2 => ?_⟩))⟩))
    have s12 := s1.trans s2
    have hy2 := s12 _ _ hy
    refine (ii rfl rfl (nm rfl (tx (SqT.of hy2) rfl ⟨rfl, (nm rfl ?_)⟩)))
    have k2 := k H2 s12
    unfold shf at k2
    by_cases c : r.2.2 = Str.ofString "open"
    · rw [if_pos c] at k2
      exact iteD (congrArg V.str c) (nm rfl (nm rfl (tx (SqT.of hy2) rfl (ii rfl rfl (nm rfl (nm rfl (ii rfl rfl k2)))))))
    · rw [if_neg c] at k2
      exact iteDn (fun z => c (V.str.inj z)) (nm rfl (nm rfl (ii rfl rfl k2)))
set_option maxHeartbeats 4000000 in
theorem okTableInit (T : Txt K mg a) : FnOk P w K mg base (CX1 P w) 7 a.fTableInit a.gTableInit ["self", "week", "yearly", "rows"] (spTInit7 a) := by
  refine okXD T.dTableInit.fn scTableInit (fun vs H Q E h => ?_) (fun cdv A outer s H vs Q E hr h => ?_)
  · exact spTInit7_elim (P := fun vs => vs.length = _) h fun _ _ _ _ _ _ _ _ _ _ _ _ _ _ _ _ _ _ _ => rfl
  · refine spTInit7_elim (P := fun vs => ∃ t, PSs _ _ t ∧ t _ (L2.start _ vs) H) h fun x dx pw py pr ws uy ur ys rs0 hx hw0 odw hy0 oty hr0 otr k kx => ?_
    refine ⟨_, (pss_cons (ps_fld (pv 0) (pe_makeX T.k_Pattern (okPatternInit T) (hr.mono (by decide)) rfl T.m_Pattern T.dPatternInit.bd .nil (Takes.at takes_fn) (pa_cons (pv 1) (pa_cons (pe_call (okListOrEmpty T) (hr.mono (by decide)) rfl T.dListOrEmpty.mgx T.dListOrEmpty.fn.kp T.dListOrEmpty.bd .nil pass0 (pa_cons (pv 2) pa_nil star_nam)) pa_nil star_cal) star_nam)) rfl)
      (pss_cons (ps_expr (pe_callX (okRefuseRows T) (hr.mono (by decide)) rfl T.dRefuseRows.mgx T.dRefuseRows.fn.kp T.dRefuseRows.bd .nil (Takes.at takes_fn) (pa_cons (pe_call (okListOrEmpty T) (hr.mono (by decide)) rfl T.dListOrEmpty.mgx T.dListOrEmpty.fn.kp T.dListOrEmpty.bd .nil pass0 (pa_cons (pv 3) pa_nil star_nam)) pa_nil star_cal)))
      (pss_cons (ps_fld (pv 0) (pe_call (okOverlay T) (hr.mono (by decide)) rfl T.dOverlay.mgx T.dOverlay.fn.kp T.dOverlay.bd .nil pass0 (pa_cons (pe_call (okListOrEmpty T) (hr.mono (by decide)) rfl T.dListOrEmpty.mgx T.dListOrEmpty.fn.kp T.dListOrEmpty.bd .nil pass0 (pa_cons (pv 3) pa_nil star_nam)) pa_nil star_cal)) rfl)
      (pss_cons (ps_fld (pv 0) (pe_lst (pa_cons pe_int pa_nil star_con)) rfl)
      (pss_one (ps_for PassesOwn.leaving rfl (pi_list (pe_fld (pv 0) rfl)) (pg_name (i := 4) scTableInit.nd rfl (Or.inl rfl)) (pss_one (ps_expr (pe_bm PySem.F.plainAttrs_list PySem.F.slot_list_append PySem.F.type_list_append mt_append (pe_fld (pv 0) rfl) (pa_cons (pe_op op_add (pe_ix ix_list (pe_fld (pv 0) rfl) (pe_un un_neg pe_int) (fun _ _ => rfl)) (pe_meth (pv 0) T.c_Table T.t_dTableShift (okTableShift T) (hr.mono (by decide)) T.dTableShift.bd .nil pass0 (pa_cons (pv 4) (pa_cons (pe_op op_add (pe_ix ix_tup (pv 4) pe_int (fun _ _ => rfl)) pe_int) pa_nil star_bin) star_nam))) pa_nil star_bin)))))))))), ?_⟩
    refine (nm rfl (nm rfl (.inr ⟨py, rfl, fun xp dxp nx nd ne => ?_⟩)))
    have keep : Same H (upd (upd H dxp (.own xp)) xp (.ins a.cPattern dxp [])) := fun b u e => by rw [upd_ne (ne_of_none e nx), upd_ne (ne_of_none e nd)]; exact e
    refine ⟨xp, dxp, pw, py, ws, uy, ys, rfl, upd_same, keep _ _ hw0, fun v hv => (odw v hv).same keep, keep _ _ hy0, oty.same keep, fun f1 f2 H1 bs b1 pat1 => ⟨rfl, ?_⟩, fun p i d => ?_⟩
    rotate_left
    · have dd : Due ws ys rs0 (some (p, i)) := by
        cases d with
        | week i h => exact .week i h
        | yearly i h0 h => exact .yearly i h0 h
        | rows i h0 h1 h => exact absurd h.1 (Nat.not_lt_zero _)
      exact (kx p i dd).t (SameBut.of keep)
    have s1 : Same H H1 := b1.made nx nd
    have hx1 := s1 _ _ hx
    have nxp : xp ≠ x := fun z => by rw [z, hx] at nx; cases nx
    refine (nm rfl ⟨_, _, _, _, rfl, hx1, T.c_Table, xno_of T.n_Table (by decide), by decide, ?_⟩)
    rw [put1]
    have low : ∀ {H' : Hp} {fs : List (Str × V)}, H' x = some (.ins a.cTable dx fs) → PatAt a.cPattern H' xp bs → ∀ o, PatAt a.cPattern (upd H' x o) xp bs := fun hx' ⟨d, a1, a2, a3, g1, g2, g3, g4, g5⟩ o =>
      ⟨d, a1, a2, a3, by rw [upd_ne nxp]; exact g1, by rw [upd_ne (fun z => by rw [z, hx'] at g2; cases g2)]; exact g2, by rw [upd_ne (fun z => by rw [z, hx'] at g3; cases g3)]; exact g3, by rw [upd_ne (fun z => by rw [z, hx'] at g4; cases g4)]; exact g4, g5⟩
    have b2 : SameBut x H (upd H1 x (.ins a.cTable dx [(Str.ofString "pattern", .ref xp)])) := (SameBut.of s1).set
    have x2 := upd_same (H := H1) (a := x) (o := .ins a.cTable dx [(Str.ofString "pattern", .ref xp)])
    have pat2 := low hx1 pat1 (.ins a.cTable dx [(Str.ofString "pattern", .ref xp)])
    generalize upd H1 x (.ins a.cTable dx [(Str.ofString "pattern", .ref xp)]) = H2 at b2 x2 pat2 ⊢
    have npr : pr ≠ x := fun z => by rw [z, hx] at hr0; cases hr0
    have hr2 := b2 _ _ npr hr0
    have otB : ∀ {H' : Hp}, SameBut x H H' → OT 3 H' ur rs0 := fun b => ⟨tups_but b hx otr.tu, otr.ln, fun t ht v hv => by
      have o := otr.od t ht v hv
      cases o with
      | non => exact .non
      | bl b => exact .bl b
      | int i => exact .int i
      | str y => exact .str y
      | lst h => exact .lst (b _ _ (fun z => by rw [z, hx] at h; cases h) h)⟩
    refine (nm rfl (.inr ⟨pr, rfl, pr, ur, rs0, rfl, hr2, otB b2, fun f3 H3 s3 => ?_, fun i f => (kx _ i (.rows i f1 f2 f)).t b2⟩))
    obtain ⟨rs, rfl, hl, okr⟩ := rs_of f3
    have okk : ∀ r ∈ rs, r.1 ≤ r.2.1 := fun r hm => (okr r hm).2.1
    obtain ⟨apO, _⟩ := ov_ok okk
    have nnO := ov_nn fun r hm => (okr r hm).1
    have lO : (ov rs).length ≤ 100 := Nat.le_trans (jn_len _) (Nat.le_trans (lay_len okk) (Nat.le_trans (Nat.mul_le_mul_left 3 hl) (by decide)))
    refine (nm rfl (.inr ⟨pr, rfl, _, _, rfl, ⟨ur, s3 _ _ hr2, (otB b2).tu.same s3⟩, okk, Nat.le_trans hl (by decide), fun q H4 nq s4 at4 => ?_⟩))
    have s34 := s3.trans s4
    have x4 := s34 _ _ x2
    refine (nm rfl ⟨_, _, _, _, rfl, x4, T.c_Table, xno_of T.n_Table (by decide), (show 1 < 1000 by decide), ?_⟩)
    rw [put2 _ _ (by decide +kernel)]
    obtain ⟨u4, q4, t4⟩ := at4
    have nqx : q ≠ x := fun z => by rw [z, x4] at q4; cases q4
    have b5 : SameBut x H (upd H4 x (.ins a.cTable dx [(Str.ofString "pattern", .ref xp), (Str.ofString "rows", .ref q)])) := (b2.trans (SameBut.of s34)).set
    have x5 := upd_same (H := H4) (a := x) (o := .ins a.cTable dx [(Str.ofString "pattern", .ref xp), (Str.ofString "rows", .ref q)])
    have pat5 := low x4 (pat2.same s34) (.ins a.cTable dx [(Str.ofString "pattern", .ref xp), (Str.ofString "rows", .ref q)])
    have q5 := (upd_ne (o := .ins a.cTable dx [(Str.ofString "pattern", .ref xp), (Str.ofString "rows", .ref q)]) nqx).trans q4
    have t5 : Tups (upd H4 x (.ins a.cTable dx [(Str.ofString "pattern", .ref xp), (Str.ofString "rows", .ref q)])) u4 ((ov rs).map enc) := tups_but ((SameBut.of (Same.refl H4)).set) x4 t4
    generalize upd H4 x (.ins a.cTable dx [(Str.ofString "pattern", .ref xp), (Str.ofString "rows", .ref q)]) = H5 at b5 x5 pat5 q5 t5 ⊢
    refine ⟨fits (by show 1 ≤ 100000; decide), fun z hz => ?_⟩
    have s6 := same_upd (o := .lst [V.int 0]) hz
    have z6 := upd_same (H := H5) (a := z) (o := .lst [V.int 0])
    have x6 := s6 _ _ x5
    refine (nm rfl ⟨_, _, _, _, rfl, x6, T.c_Table, xno_of T.n_Table (by decide), (show 2 < 1000 by decide), ?_⟩)
    rw [put3 _ _ _ (by decide +kernel) (by decide +kernel)]
    have nzx : z ≠ x := fun e => by rw [e, x5] at hz; cases hz
    have nzq : q ≠ z := fun e => by rw [← e, q5] at hz; cases hz
    have b7 : SameBut x H (upd (upd H5 z (.lst [V.int 0])) x (.ins a.cTable dx (tfs xp q z))) := (b5.trans (SameBut.of s6)).set
    have x7 := upd_same (H := upd H5 z (.lst [V.int 0])) (a := x) (o := .ins a.cTable dx (tfs xp q z))
    obtain ⟨d5, a1, a2, a3, g1, g2, g3, g4, g5⟩ := pat5
    have nz : ∀ {b : Addr} {o : HO}, H5 b = some o → b ≠ z := fun h e => by rw [e, hz] at h; cases h
    have nxl : ∀ {b : Addr} {l : List V}, H5 b = some (.lst l) → b ≠ x := fun h e => by rw [e, x5] at h; cases h
    have pat7 := PatAt.upd (o := .ins a.cTable dx (tfs xp q z)) (s6 _ _ g1) (s6 _ _ g2) (s6 _ _ g3) (s6 _ _ g4) nxp (nxl g2) (nxl g3) (nxl g4)
    have q7 := (upd_ne (o := .ins a.cTable dx (tfs xp q z)) nqx).trans (s6 _ _ q5)
    have z7 := (upd_ne (o := .ins a.cTable dx (tfs xp q z)) nzx).trans z6
    have t7 : Tups (upd (upd H5 z (.lst [V.int 0])) x (.ins a.cTable dx (tfs xp q z))) u4 ((ov rs).map enc) := tups_but ((SameBut.of s6).set) x5 t5
    have nzH : H z = none := by
      cases e : H z with
      | none => rfl
      | some o => rw [b5 z o nzx e] at hz; cases hz
    generalize upd (upd H5 z (.lst [V.int 0])) x (.ins a.cTable dx (tfs xp q z)) = H7 at b7 x7 pat7 q7 z7 t7 ⊢
    have lu4 := At.len t7
    let sm : Nat → Int := fun k => (((ov rs).take k).map fun r => shf bs r (r.2.1 + 1)).sum
    refine (nm rfl (fl (x7) (T.c_Table) (xno_of T.n_Table (by decide)) (rfl) ⟨_, rfl, ⟨_, SqL.of q7⟩, for_list (K := K) (a := q) (xs := u4) (fun i σ H' => SameBut x H H' ∧ H' x = some (.ins a.cTable dx (tfs xp q z)) ∧ (H' xp = some (.ins a.cPattern d5 (pfs a1 a2 a3)) ∧ H' a1 = some (.lst (bs.map V.bl)) ∧ H' a2 = some (.lst ((odL bs).map V.int)) ∧ H' a3 = some (.lst ((cuL bs).map V.int))) ∧ H' q = some (.lst u4) ∧ Tups H' u4 ((ov rs).map enc) ∧ H' z = some (.lst (((List.range (i + 1)).map sm).map V.int)) ∧ ∃ v : Option V, σ = [some (.ref x), some (.ref pw), some (.ref py), some (.ref pr), v])
      ⟨b7, x7, pat7, q7, t7, z7, none, rfl⟩ (fun i σ H' _ h => SqL.of h.2.2.2.1) ?_ ?_⟩))
    · rintro i w0 σ H8 hw0 ⟨b8, x8, pat8, q8, t8, z8, v, rfl⟩
      obtain ⟨c, t, rfl, w1, w2⟩ := t8.get' hw0
      obtain ⟨r, w3, rfl⟩ := map_get w1
      have hi : i < (ov rs).length := (List.getElem?_eq_some_iff.mp w3).1
      have r0 := nnO r (List.mem_of_getElem? w3)
      have r1 := apO.ok r (List.mem_of_getElem? w3)
      have eL : ∀ m, ((List.range (m + 1)).map sm).map V.int = ((List.range m).map sm).map V.int ++ [V.int (sm m)] := fun m => by
        rw [List.range_succ, List.map_append, List.map_append]; rfl
      have hl8 : (((List.range (i + 1)).map sm).map V.int).length ≤ 90000 := by rw [List.length_map, List.length_map, List.length_range]; exact Nat.le_trans (Nat.succ_le_of_lt (Nat.lt_of_lt_of_le hi lO)) (by decide)
      have z8' := z8
      rw [eL] at z8'
      refine (nm rfl (fl (x8) (T.c_Table) (xno_of T.n_Table (by decide)) (rfl) ⟨.inl ⟨rfl, _, SqL.of z8⟩, (nm rfl (fl (x8) (T.c_Table) (xno_of T.n_Table (by decide)) (rfl) (nm rfl (lx (SqL.of z8') (atI_last _ _) (nm rfl ⟨_, _, _, rfl, x8, rfl, (nm rfl (nm rfl (tx (SqT.of w2) rfl (ii rfl rfl ⟨_, _, _, _, _, _, _, _, _, rfl, x8, ⟨_, _, _, _, pat8.1, pat8.2.1, pat8.2.2.1, pat8.2.2.2, g5⟩, w2, r0, Int.le_add_one (Int.le_trans r0 r1), fun H9 s9 => ?_⟩))))⟩)))))⟩))
      refine (ii rfl rfl ⟨_, _, _, rfl, rfl, s9 _ _ z8, lt1000 hl8, ?_⟩)
      have es : sm i + shf bs r (r.2.1 + 1) = sm (i + 1) := by
        show _ = ((((ov rs).take (i + 1)).map fun r => shf bs r (r.2.1 + 1)).sum)
        rw [take_snoc w3, List.map_append, List.sum_append]
        simp [sm]
      dsimp only []
      rw [es, ← eL (i + 1)]
      refine ⟨fun b o n e => by rw [upd_ne (ne_of_none e nzH)]; exact s9 _ _ (b8 b o n e), by rw [upd_ne nzx.symm]; exact s9 _ _ x8, ?_, by rw [upd_ne nzq]; exact s9 _ _ q8, (t8.same s9).upd (s9 _ _ z8), upd_same, _, rfl⟩
      exact PatAt.upd (s9 _ _ pat8.1) (s9 _ _ pat8.2.1) (s9 _ _ pat8.2.2.1) (s9 _ _ pat8.2.2.2) (nz g1) (nz g2) (nz g3) (nz g4)
    · rintro σ H8 ⟨b8, x8, pat8, q8, t8, z8, v, rfl⟩
      rw [lu4] at z8
      exact k (.good f1 f2 f3) H8 _ _ b8 ⟨dx, xp, q, z, x8, ⟨_, _, _, _, pat8.1, pat8.2.1, pat8.2.2.1, pat8.2.2.2, g5⟩, ⟨u4, q8, t8⟩, z8⟩ apO
set_option maxHeartbeats 4000000 in
theorem okLawTable (T : Txt K mg a) : FnOk P w K mg base CX0 9 a.fLawTable a.gLawTable ["_law_week_here", "_law_yearly_here", "_law_rows_here"] spTb := by
  refine T.dLawTable.fn.ok scLawTable (fun vs H Q E h => ?_) (fun cdv A outer s H vs Q E hr h => ?_)
  · exact spTb_elim (P := fun vs => vs.length = _) h fun _ _ _ _ _ _ _ _ _ _ _ _ _ _ _ _ _ => rfl
  · refine spTb_elim (P := fun vs => ∃ t, PSs _ _ t ∧ t _ (L2.start _ vs) H) h fun pw py pr ws uy ur ys rs o hw odw hy oty hr0 otr hd k => ?_
    refine ⟨_, (pss_cons (ps_set (i := 3) scLawTable.nd rfl (Or.inl rfl) pe_non)
      (pss_cons (ps_try ⟨rfl, rfl⟩ (fun _ _ _ hx hp => (pss_one (ps_expr (pe_makeX T.k_Table (okTableInit T) (hr.mono (by decide)) rfl T.m_Table T.dTableInit.bd .nil hx (pa_cons (pv 0) (pa_cons (pv 1) (pa_cons (pv 2) pa_nil star_nam) star_nam) star_nam))))) (ph_as (i := 4) scLawTable.nd rfl rfl (pc_glob rfl T.m_NoTable) (fun _ => (pss_one (ps_set (i := 3) scLawTable.nd rfl (Or.inl rfl) (pe_tup (pa_cons (pe_xfld (pv 4) rfl) (pa_cons (pe_xfld (pv 4) rfl) (pa_cons (pe_callH (okHLawAlone T) rfl (hr.mono (by decide)).hnd rfl T.dLawAlone.mgx T.dLawAlone.fn.kp T.dLawAlone.bd (pa_cons (pv 4) pa_nil star_nam)) pa_nil star_cal) star_att) star_att))))) ph_nil))
      (pss_one (ps_ret (pv 3))))), ?_⟩
    refine (nm rfl (nm rfl (nm rfl (fun x dx nx nd ne => ?_))))
    have keep : Same H (upd (upd H dx (.own x)) x (.ins a.cTable dx [])) := fun b u e => by rw [upd_ne (ne_of_none e nx), upd_ne (ne_of_none e nd)]; exact e
    refine ⟨x, dx, pw, py, pr, ws, uy, ur, ys, rs, rfl, upd_same, keep _ _ hw, fun v hv => (odw v hv).same keep, keep _ _ hy, oty.same keep, keep _ _ hr0, otr.same keep, fun d H1 bs ro b1 _ _ => ⟨rfl, (nm rfl (k _ _ (b1.made nx nd) (by rw [hd.det d]; rfl)))⟩, fun p i d x1 d1 H1 b1 e1 e2 => ⟨x1, _, rfl, e1, hcl_true T.h_NoTable_NoTable ?_⟩⟩
    have s1 : Same H H1 := b1.made nx nd
    refine (nm rfl ⟨x1, _, d1, false, _, _, rfl, e1, e2, T.x_NoTable.is, xno_of T.n_NoTable (by decide), rfl, (nm rfl ⟨x1, _, d1, false, _, _, rfl, e1, e2, T.x_NoTable.is, xno_of T.n_NoTable (by decide), rfl, (nm rfl ⟨d1, _, _, rfl, e1, e2, fun H2 s2 => ⟨fit3 _ _ _, fun t ht => ?_⟩⟩)⟩)⟩)
    refine (nm rfl (k _ _ ((s1.trans s2).trans (same_upd ht)) ?_))
    rw [hd.det d]
    exact ⟨t, rfl, upd_same⟩
set_option maxHeartbeats 4000000 in
theorem okLawPattern (T : Txt K mg a) : FnOk P w K mg base CX0 7 a.fLawPattern a.gLawPattern ["_law_week_here", "_law_yearly_here"] spPt := by
  refine T.dLawPattern.fn.ok scLawPattern (fun vs H Q E h => ?_) (fun cdv A outer s H vs Q E hr h => ?_)
  · exact spPt_elim (P := fun vs => vs.length = _) h fun _ _ _ _ _ _ _ _ _ _ _ _ => rfl
  · refine spPt_elim (P := fun vs => ∃ t, PSs _ _ t ∧ t _ (L2.start _ vs) H) h fun pw py ws uy ys o hw odw hy oty hd k => ?_
    refine ⟨_, (pss_cons (ps_set (i := 2) scLawPattern.nd rfl (Or.inl rfl) pe_non)
      (pss_cons (ps_try ⟨rfl, rfl⟩ (fun _ _ _ hx hp => (pss_one (ps_expr (pe_makeX T.k_Pattern (okPatternInit T) (hr.mono (by decide)) rfl T.m_Pattern T.dPatternInit.bd .nil hx (pa_cons (pv 0) (pa_cons (pv 1) pa_nil star_nam) star_nam))))) (ph_as (i := 3) scLawPattern.nd rfl rfl (pc_glob rfl T.m_CourtError) (fun _ => (pss_one (ps_set (i := 2) scLawPattern.nd rfl (Or.inl rfl) (pe_and (pe_callB call_isx (by rfl) T.n_isinstance boot_isinstance (pa_cons (pv 3) (pa_cons (pe_glob (v := .ref a.cNoTable) rfl T.m_NoTable rfl) pa_nil star_nam) star_nam)) (pe_one (pe_tup (pa_cons (pe_xfld (pv 3) rfl) (pa_cons (pe_xfld (pv 3) rfl) (pa_cons (pe_callH (okHLawAlone T) rfl (hr.mono (by decide)).hnd rfl T.dLawAlone.mgx T.dLawAlone.fn.kp T.dLawAlone.bd (pa_cons (pv 3) pa_nil star_nam)) pa_nil star_cal) star_att) star_att))))))) ph_nil))
      (pss_one (ps_ret (pv 2))))), ?_⟩
    refine (nm rfl (nm rfl (fun x dx nx nd ne => ?_)))
    have keep : Same H (upd (upd H dx (.own x)) x (.ins a.cPattern dx [])) := fun b u e => by rw [upd_ne (ne_of_none e nx), upd_ne (ne_of_none e nd)]; exact e
    refine ⟨x, dx, pw, py, ws, uy, ys, rfl, upd_same, keep _ _ hw, fun v hv => (odw v hv).same keep, keep _ _ hy, oty.same keep, fun f1 f2 H1 bs b1 _ => ⟨rfl, (nm rfl (k _ _ (b1.made nx nd) (by rw [hd.det (.good f1 f2 fun i hi => absurd hi (Nat.not_lt_zero _))]; rfl)))⟩, fun p i d x1 d1 H1 b1 e1 e2 => ⟨x1, _, rfl, e1, hcl_true T.h_NoTable_CourtError ?_⟩⟩
    have s1 : Same H H1 := keep.trans b1
    refine (nm rfl ⟨_, _, _, _, _, _, _, rfl, e1, ⟨_, e2⟩, T.x_NoTable.is, .inr ⟨_, rfl, rfl⟩, xkits_of T.k_NoTable (i := 2) rfl rfl, (nm rfl (iteT (nm rfl ⟨x1, _, d1, false, _, _, rfl, e1, e2, T.x_NoTable.is, xno_of T.n_NoTable (by decide), rfl, (nm rfl ⟨x1, _, d1, false, _, _, rfl, e1, e2, T.x_NoTable.is, xno_of T.n_NoTable (by decide), rfl, (nm rfl ⟨d1, _, _, rfl, e1, e2, fun H2 s2 => ⟨fit3 _ _ _, fun t ht => ?_⟩⟩)⟩)⟩)))⟩)
    refine (nm rfl (k _ _ ((s1.trans s2).trans (same_upd ht)) ?_))
    rw [hd.det d]
    exact ⟨t, rfl, upd_same⟩
set_option maxHeartbeats 4000000 in
theorem okLawSame (T : Txt K mg a) : FnOk P w K mg base CX0 1 a.fLawSame a.gLawSame ["_law_told", "_law_due_here"] spSm := by
  refine T.dLawSame.fn.ok scLawSame (fun vs H Q E h => ?_) (fun cdv A outer s H vs Q E hr h => ?_)
  · exact spSm_elim (P := fun vs => vs.length = _) h fun _ _ _ _ _ _ => rfl
  · refine spSm_elim (P := fun vs => ∃ t, PSs _ _ t ∧ t _ (L2.start _ vs) H) h fun t d o ht hd k => ?_
    refine ⟨_, (pss_cons (ps_if (pt_cmpR op_isN (pv 1) pe_non (nomark _)) (pss_one (ps_ret (pe_cmpR op_isN (pv 0) pe_non (nomark _)))) pss_nil)
      (pss_one (ps_ret (pe_and (pe_callB call_isi (by rfl) T.n_isinstance boot_isinstance (pa_cons (pv 0) (pa_cons (pe_bltn (v := .ty "tuple") rfl T.n_tuple boot_tuple rfl) pa_nil star_nam) star_nam)) (pe_one (pe_cmpR (op_eqT hr.units0) (pv 0) (pe_tup (pa_cons (pe_ix ix_tup (pv 1) pe_int (fun _ _ => rfl)) (pa_cons (pe_ix ix_tup (pv 1) pe_int (fun _ _ => rfl)) (pa_cons pe_bl pa_nil star_con) star_sub) star_sub)) (nomark _))))))), ?_⟩
    rcases o with _ | ⟨p, i⟩
    · obtain rfl : t = .non := ht
      obtain rfl : d = .non := hd
      exact (nm rfl ⟨rfl, (nm rfl (iteD rfl (nm rfl ⟨rfl, k _ (Same.refl _)⟩)))⟩)
    · obtain ⟨b, rfl, hb⟩ := ht
      obtain ⟨c, rfl, hc⟩ := hd
      refine (nm rfl ⟨rfl, (nm rfl (iteDn (fun z => nomatch z) (nm rfl ⟨_, _, _, _, rfl, .tup hb, kit_tuple_tuple, (nm rfl (iteT (nm rfl (nm rfl (tx (SqT.of hc) rfl (nm rfl (tx (SqT.of hc) rfl ⟨fit3 _ _ _, fun t2 ht2 => ?_⟩)))))))⟩)))⟩)
      have s2 := same_upd (o := .tup [V.str p, V.int (i : Int), V.bl true]) ht2
      refine ⟨_, _, _, _, rfl, rfl, SqT.of (s2 _ _ hb), SqT.of upd_same, rfl, rfl, ?_⟩
      rw [eqVs_self rfl]
      exact k _ s2
set_option maxHeartbeats 4000000 in
theorem okPatternIsFree (T : Txt K mg a) : FnOk P w K mg base CX0 5 a.fPatternIsFree a.gPatternIsFree ["self", "day"] (spPFree a) := by
  refine T.dPatternIsFree.fn.ok scPatternIsFree (fun vs H Q E h => ?_) (fun cdv A outer s H vs Q E hr h => ?_)
  · exact spPFree_elim (P := fun vs => vs.length = _) h fun _ _ _ _ _ _ => rfl
  · refine spPFree_elim (P := fun vs => ∃ t, PSs _ _ t ∧ t _ (L2.start _ vs) H) h fun x bs n hx h0 k => ?_
    refine ⟨_, (pss_one (ps_ret (pe_ix ix_list (pe_fld (pv 0) rfl) (pe_call (okDayOfYear T) (hr.mono (by decide)) rfl T.dDayOfYear.mgx T.dDayOfYear.fn.kp T.dDayOfYear.bd .nil pass0 (pa_cons (pv 1) pa_nil star_nam)) (fun _ _ => rfl)))), ?_⟩
    obtain ⟨dx, a1, a2, a3, h1, e1, e2, e3, hl⟩ := hx
    obtain ⟨d0, d1⟩ := doy_in h0
    refine (nm rfl (fl (h1) (T.c_Pattern) (xno_of T.n_Pattern (by decide)) (rfl) (nm rfl ⟨_, rfl, h0, fun H' s => ?_⟩)))
    have hlt : (doy n).toNat < bs.length := by rw [hl]; exact (Int.toNat_lt d0).mpr d1
    have eg : bs[(doy n).toNat]? = some (bs[(doy n).toNat]) := List.getElem?_eq_getElem hlt
    have k1 := k H' s
    rw [List.getD_eq_getElem?_getD, eg] at k1
    exact ⟨_, _, _, _, rfl, rfl, SqL.of (s _ _ e1), atI_of (j := (doy n).toNat) (by rw [List.getElem?_map, eg]; rfl) (Int.toNat_of_nonneg d0).symm, k1⟩
set_option maxHeartbeats 4000000 in
theorem okTableIsFree (T : Txt K mg a) : FnOk P w K mg base CX0 6 a.fTableIsFree a.gTableIsFree ["self", "day"] (spTFree a) := by
  refine T.dTableIsFree.fn.ok scTableIsFree (fun vs H Q E h => ?_) (fun cdv A outer s H vs Q E hr h => ?_)
  · exact spTFree_elim (P := fun vs => vs.length = _) h fun _ _ _ _ _ _ _ _ => rfl
  · refine spTFree_elim (P := fun vs => ∃ t, PSs _ _ t ∧ t _ (L2.start _ vs) H) h fun x bs rs n hx ap h0 k => ?_
    refine ⟨_, (pss_cons (ps_set (i := 2) scTableIsFree.nd rfl (Or.inl rfl) (pe_call (okPlace T) (hr.mono (by decide)) rfl T.dPlace.mgx T.dPlace.fn.kp T.dPlace.bd .nil pass0 (pa_cons (pe_fld (pv 0) rfl) (pa_cons (pv 1) pa_nil star_nam) star_att)))
      (pss_cons (ps_if (PW.pt (pw_and (pt_cmpR op_lt (pv 2) (pe_callB call_len (by rfl) T.n_len boot_len (pa_cons (pe_fld (pv 0) rfl) pa_nil star_att)) (nomark _)) (pw_and1 (pt_cmpR op_le (pe_ix ix_tup (pe_ix ix_list (pe_fld (pv 0) rfl) (pv 2) (fun _ _ => rfl)) pe_int (fun _ _ => rfl)) (pv 1) (nomark _))))) (pss_one (ps_ret (pe_cmpR op_eq (pe_ix ix_tup (pe_ix ix_list (pe_fld (pv 0) rfl) (pv 2) (fun _ _ => rfl)) pe_int (fun _ _ => rfl)) pe_str (nomark _)))) pss_nil)
      (pss_one (ps_ret (pe_meth (pe_fld (pv 0) rfl) T.c_Pattern T.t_dPatternIsFree (okPatternIsFree T) (hr.mono (by decide)) T.dPatternIsFree.bd .nil pass0 (pa_cons (pv 1) pa_nil star_nam)))))), ?_⟩
    obtain ⟨dx, p, q, z, h1, hpt, ⟨us, hq, hu⟩, hz⟩ := hx
    have dis := ap_dis ap
    have lu := At.len hu
    have hc := cnt_le (ends rs) n
    rw [List.length_map] at hc
    refine (nm rfl (fl (h1) (T.c_Table) (xno_of T.n_Table (by decide)) (rfl) (nm rfl ⟨_, _, _, _, _, rfl, hq, hu, fun i e h => enc_ends h, by rw [List.length_map, List.length_map], ends_up dis, ?_⟩)))
    refine (nm rfl (nm rfl (fl (h1) (T.c_Table) (xno_of T.n_Table (by decide)) (rfl) ⟨_, _, rfl, .inl ⟨_, SqL.of hq, rfl⟩, (ii rfl rfl (nm rfl ?_))⟩)))
    have hpt0 := hpt
    obtain ⟨dp, a1, a2, a3, p1, _⟩ := hpt
    unfold tfr at k
    by_cases ce : cnt (ends rs) n < rs.length
    · obtain ⟨r, hr'⟩ : ∃ r, rs[cnt (ends rs) n]? = some r := ⟨_, List.getElem?_eq_getElem ce⟩
      obtain ⟨b, ha, hb⟩ := At.row hu hr'
      rw [hr'] at k
      dsimp only at k
      refine iteD (lenI lu ce) (nm rfl (fl (h1) (T.c_Table) (xno_of T.n_Table (by decide)) (rfl) (nm rfl (lx (SqL.of hq) (atI_nat ha) (tx (SqT.of hb) rfl (nm rfl (ii rfl rfl (nm rfl ?_))))))))
      by_cases cl : r.1 ≤ n
      · rw [if_pos cl] at k
        refine iteD cl (nm rfl (fl (h1) (T.c_Table) (xno_of T.n_Table (by decide)) (rfl) (nm rfl (lx (SqL.of hq) (atI_nat ha) (tx (SqT.of hb) rfl ⟨rfl, ?_⟩)))))
        have k0 := k H (Same.refl H)
        show Q (.bl (decide (V.str r.2.2 = V.str (Str.ofString "free")))) H
        rw [show decide (V.str r.2.2 = V.str (Str.ofString "free")) = decide (r.2.2 = Str.ofString "free") from decide_eq_decide.mpr ⟨fun z => V.str.inj z, fun z => congrArg V.str z⟩]
        exact k0
      · rw [if_neg cl] at k
        have kk := k
        exact iteDn cl (nm rfl (fl (h1) (T.c_Table) (xno_of T.n_Table (by decide)) (rfl) ⟨_, _, _, rfl, p1, rfl, (nm rfl ⟨_, _, _, rfl, hpt0, h0, fun H' s => kk H' s⟩)⟩))
    · rw [List.getElem?_eq_none (Nat.not_lt.mp ce)] at k
      dsimp only at k
      have kk := k
      exact iteDn (fun z => ce (Int.ofNat_lt.mp (lu ▸ z))) (iteF (nm rfl (fl (h1) (T.c_Table) (xno_of T.n_Table (by decide)) (rfl) ⟨_, _, _, rfl, p1, rfl, (nm rfl ⟨_, _, _, rfl, hpt0, h0, fun H' s => kk H' s⟩)⟩)))
set_option maxHeartbeats 4000000 in
theorem okLaw (T : Txt K mg a) : FnOk P w K mg base CX0 10 a.fLaw a.gLaw ["_law_script"] (spLaw K) := by
  refine T.dLaw.fn.ok scLaw (fun vs H Q E h => ?_) (fun cdv A outer s H vs Q E hr h => ?_)
  · exact spLaw_elim (P := fun vs => vs.length = _) h fun _ _ _ _ _ => rfl
  · refine spLaw_elim (P := fun vs => ∃ t, PSs _ _ t ∧ t _ (L2.start _ vs) H) h fun l ns hS hlen k => ?_
    refine ⟨_, (pss_cons (ps_set (i := 1) scLaw.nd rfl (Or.inl rfl) (pe_call (okLawWeek T) (hr.mono (by decide)) rfl T.dLawWeek.mgx T.dLawWeek.fn.kp T.dLawWeek.bd .nil pass0 (pa_cons (pv 0) pa_nil star_nam)))
      (pss_cons (ps_set (i := 2) scLaw.nd rfl (Or.inl rfl) (pe_call (okLawYearly T) (hr.mono (by decide)) rfl T.dLawYearly.mgx T.dLawYearly.fn.kp T.dLawYearly.bd .nil pass0 (pa_cons (pv 0) pa_nil star_nam)))
      (pss_cons (ps_set (i := 3) scLaw.nd rfl (Or.inl rfl) (pe_call (okLawRows T) (hr.mono (by decide)) rfl T.dLawRows.mgx T.dLawRows.fn.kp T.dLawRows.bd .nil pass0 (pa_cons (pv 0) pa_nil star_nam)))
      (pss_cons (ps_set (i := 4) scLaw.nd rfl (Or.inl rfl) (pe_lst (pa_cons (pe_callTy call_list_of (by rfl) T.n_list boot_list (pa_cons (pv 1) pa_nil star_nam)) (pa_cons (pe_callTy call_list_of (by rfl) T.n_list boot_list (pa_cons (pv 2) pa_nil star_nam)) (pa_cons (pe_callTy call_list_of (by rfl) T.n_list boot_list (pa_cons (pv 3) pa_nil star_nam)) pa_nil star_cal) star_cal) star_cal)))
      (pss_cons (ps_if (pt_not (pt_val (pe_call (okLawSame T) (hr.mono (by decide)) rfl T.dLawSame.mgx T.dLawSame.fn.kp T.dLawSame.bd .nil pass0 (pa_cons (pe_call (okLawTable T) (hr.mono (by decide)) rfl T.dLawTable.mgx T.dLawTable.fn.kp T.dLawTable.bd .nil pass0 (pa_cons (pe_ix ix_list (pv 4) pe_int (fun _ _ => rfl)) (pa_cons (pe_ix ix_list (pv 4) pe_int (fun _ _ => rfl)) (pa_cons (pe_ix ix_list (pv 4) pe_int (fun _ _ => rfl)) pa_nil star_sub) star_sub) star_sub)) (pa_cons (pe_call (okLawDue T) (hr.mono (by decide)) rfl T.dLawDue.mgx T.dLawDue.fn.kp T.dLawDue.bd .nil pass0 (pa_cons (pv 1) (pa_cons (pv 2) (pa_cons (pv 3) pa_nil star_nam) star_nam) star_nam)) pa_nil star_cal) star_cal)))) (pss_one (ps_ret pe_bl)) pss_nil)
      (pss_cons (ps_if (pt_not (pt_val (pe_call (okLawSame T) (hr.mono (by decide)) rfl T.dLawSame.mgx T.dLawSame.fn.kp T.dLawSame.bd .nil pass0 (pa_cons (pe_call (okLawPattern T) (hr.mono (by decide)) rfl T.dLawPattern.mgx T.dLawPattern.fn.kp T.dLawPattern.bd .nil pass0 (pa_cons (pe_ix ix_list (pv 4) pe_int (fun _ _ => rfl)) (pa_cons (pe_ix ix_list (pv 4) pe_int (fun _ _ => rfl)) pa_nil star_sub) star_sub)) (pa_cons (pe_call (okLawDue T) (hr.mono (by decide)) rfl T.dLawDue.mgx T.dLawDue.fn.kp T.dLawDue.bd .nil pass0 (pa_cons (pv 1) (pa_cons (pv 2) (pa_cons (pe_lst pa_nil) pa_nil star_lst) star_nam) star_nam)) pa_nil star_cal) star_cal)))) (pss_one (ps_ret pe_bl)) pss_nil)
      (pss_cons (ps_if (pt_cmpR (op_neCp hr.units) (pv 4) (pe_lst (pa_cons (pv 1) (pa_cons (pv 2) (pa_cons (pv 3) pa_nil star_nam) star_nam) star_nam)) (nomark _)) (pss_one (ps_ret pe_bl)) pss_nil)
      (pss_cons (ps_set (i := 5) scLaw.nd rfl (Or.inl rfl) (pe_lst (pa_cons (pe_callTy call_list_of (by rfl) T.n_list boot_list (pa_cons (pv 1) pa_nil star_nam)) (pa_cons (pe_callTy call_list_of (by rfl) T.n_list boot_list (pa_cons (pv 2) pa_nil star_nam)) (pa_cons (pe_callTy call_list_of (by rfl) T.n_list boot_list (pa_cons (pv 3) pa_nil star_nam)) pa_nil star_cal) star_cal) star_cal)))
      (pss_cons (ps_for PassesOwn.never rfl (pi_range1 rfl T.n_range (pa_cons pe_int pa_nil star_con)) (pg_name (i := 6) scLaw.nd rfl (Or.inl rfl)) (pss_cons (ps_set (i := 7) scLaw.nd rfl (Or.inl rfl) (pe_call (okLawDue T) (hr.mono (by decide)) rfl T.dLawDue.mgx T.dLawDue.fn.kp T.dLawDue.bd .nil pass0 (pa_cons (pe_ix ix_list (pv 5) pe_int (fun _ _ => rfl)) (pa_cons (pe_ix ix_list (pv 5) pe_int (fun _ _ => rfl)) (pa_cons (pe_ix ix_list (pv 5) pe_int (fun _ _ => rfl)) pa_nil star_sub) star_sub) star_sub)))
      (pss_cons (ps_if (pt_cmpR op_notN (pv 7) pe_non (nomark _)) (pss_cons (ps_set (i := 8) scLaw.nd rfl (Or.inl rfl) (pe_bm PySem.F.plainAttrs_list PySem.F.slot_list_index PySem.F.type_list_index mt_indexS (pe_lst (pa_cons pe_str (pa_cons pe_str (pa_cons pe_str pa_nil star_con) star_con) star_con)) (pa_cons (pe_ix ix_tup (pv 7) pe_int (fun _ _ => rfl)) pa_nil star_sub)))
      (pss_one (ps_asg (pe_slice sl_list (pe_ix ix_list (pv 5) (pv 8) (fun _ _ => rfl)) po_none (po_some (pe_ix ix_tup (pv 7) pe_int (fun _ _ => rfl)))) (pg_sub (pv 5) (pv 8) set_list)))) pss_nil)
      (pss_one (ps_if (pt_not (pt_val (pe_call (okLawSame T) (hr.mono (by decide)) rfl T.dLawSame.mgx T.dLawSame.fn.kp T.dLawSame.bd .nil pass0 (pa_cons (pe_call (okLawTable T) (hr.mono (by decide)) rfl T.dLawTable.mgx T.dLawTable.fn.kp T.dLawTable.bd .nil pass0 (pa_cons (pe_ix ix_list (pv 5) pe_int (fun _ _ => rfl)) (pa_cons (pe_ix ix_list (pv 5) pe_int (fun _ _ => rfl)) (pa_cons (pe_ix ix_list (pv 5) pe_int (fun _ _ => rfl)) pa_nil star_sub) star_sub) star_sub)) (pa_cons (pe_call (okLawDue T) (hr.mono (by decide)) rfl T.dLawDue.mgx T.dLawDue.fn.kp T.dLawDue.bd .nil pass0 (pa_cons (pe_ix ix_list (pv 5) pe_int (fun _ _ => rfl)) (pa_cons (pe_ix ix_list (pv 5) pe_int (fun _ _ => rfl)) (pa_cons (pe_ix ix_list (pv 5) pe_int (fun _ _ => rfl)) pa_nil star_sub) star_sub) star_sub)) pa_nil star_cal) star_cal)))) (pss_one (ps_ret pe_bl)) pss_nil)))))
      (pss_cons (ps_set (i := 9) scLaw.nd rfl (Or.inl rfl) (pe_make T.k_Table (okTableInit T) (hr.mono (by decide)) rfl T.m_Table T.dTableInit.bd .nil passF (pa_cons (pe_ix ix_list (pv 5) pe_int (fun _ _ => rfl)) (pa_cons (pe_ix ix_list (pv 5) pe_int (fun _ _ => rfl)) (pa_cons (pe_ix ix_list (pv 5) pe_int (fun _ _ => rfl)) pa_nil star_sub) star_sub) star_sub)))
      (pss_one (ps_ret (pe_callB call_isi (by rfl) T.n_isinstance boot_isinstance (pa_cons (pe_meth (pv 9) T.c_Table T.t_dTableIsFree (okTableIsFree T) (hr.mono (by decide)) T.dTableIsFree.bd .nil pass0 (pa_cons pe_int pa_nil star_con)) (pa_cons (pe_bltn (v := .ty "bool") rfl T.n_bool boot_bool rfl) pa_nil star_nam) star_cal)))))))))))))), ?_⟩
    refine (nm rfl ⟨l, ns, rfl, hS, fun q1 H1 ws n1 s1 e1 ow lw => ?_⟩)
    refine (nm rfl ⟨l, ns, rfl, s1.seq hS, fun q2 H2 uy ys n2 s2 e2 oty ly => ?_⟩)
    refine (nm rfl ⟨l, ns, rfl, (s1.trans s2).seq hS, fun q3 H3 ur rs n3 s3 e3 otr lr => ?_⟩)
    have t0 : Tri H3 q1 q2 q3 ws uy ur ys rs := ⟨(s2.trans s3) _ _ e1, fun v hv => (ow v hv).same (s2.trans s3), s3 _ _ e2, oty.same s3, e3, otr, lw, ly, lr⟩
    refine (nm rfl ⟨_, _, rfl, .inl (SqL.of t0.hw), fun p1 np1 => ?_⟩)
    have aA := same_upd (o := .lst ws) np1
    have cA := upd_same (H := H3) (a := p1) (o := .lst ws)
    generalize upd H3 p1 _ = I1 at aA cA ⊢
    refine (nm rfl ⟨_, _, rfl, .inl (SqL.of (aA _ _ t0.hy)), fun p2 np2 => ?_⟩)
    have aA2 := same_upd (o := .lst uy) np2
    have cA2 := upd_same (H := I1) (a := p2) (o := .lst uy)
    generalize upd I1 p2 _ = I2 at aA2 cA2 ⊢
    refine (nm rfl ⟨_, _, rfl, .inl (SqL.of (aA2 _ _ (aA _ _ t0.hr))), fun p3 np3 => ?_⟩)
    have aA3 := same_upd (o := .lst ur) np3
    have cA3 := upd_same (H := I2) (a := p3) (o := .lst ur)
    generalize upd I2 p3 _ = I3 at aA3 cA3 ⊢
    refine ⟨fit3 _ _ _, fun ph nph => ?_⟩
    have m1A := ne_of_none (aA3 _ _ (aA2 _ _ cA)) nph
    have m2A := ne_of_none (aA3 _ _ cA2) nph
    have m3A := ne_of_none cA3 nph
    have aA4 := same_upd (o := .lst [V.ref p1, V.ref p2, V.ref p3]) nph
    have cA4 := upd_same (H := I3) (a := ph) (o := .lst [V.ref p1, V.ref p2, V.ref p3])
    generalize upd I3 ph _ = I4 at aA4 cA4 ⊢
    have bA := aA.trans (aA2.trans (aA3.trans aA4))
    have tA := t0.same bA
    have gA : Tri I4 p1 p2 p3 ws uy ur ys rs := ⟨aA4 _ _ (aA3 _ _ (aA2 _ _ cA)), tA.ow, aA4 _ _ (aA3 _ _ cA2), tA.oy, aA4 _ _ cA3, tA.oz, tA.lw, tA.ly, tA.lr⟩
    obtain ⟨o, hd⟩ := Due.ex ws ys rs
    refine (nm rfl (lx (SqL.of cA4) rfl (nm rfl (lx (SqL.of cA4) rfl (nm rfl (lx (SqL.of cA4) rfl ⟨p1, p2, p3, ws, uy, ur, ys, rs, o, rfl, gA.hw, gA.ow, gA.hy, gA.oy, gA.hr, gA.oz, hd, fun t J1 sj1 told => ?_⟩))))))
    have tB := tA.same sj1
    refine (nm rfl (nm rfl (nm rfl ⟨q1, q2, q3, ws, uy, ur, ys, rs, o, rfl, tB.hw, tB.ow, tB.hy, tB.oy, tB.hr, tB.oz, lw, ly, lr, hd, fun d J2 sj2 dv => ?_⟩)))
    refine ⟨t, d, o, rfl, told.same sj2, dv, fun J3 sj3 => (nm rfl (iteF ?_))⟩
    have sA3 := sj1.trans (sj2.trans sj3)
    have hh3 := sA3 _ _ cA4
    have gB := gA.same sA3
    obtain ⟨o2, hd2⟩ := Due.ex ws ys []
    refine (nm rfl (lx (SqL.of hh3) rfl (nm rfl (lx (SqL.of hh3) rfl ⟨p1, p2, ws, uy, ys, o2, rfl, gB.hw, gB.ow, gB.hy, gB.oy, hd2, fun t2 J4 sj4 told2 => ?_⟩))))
    refine (nm rfl (nm rfl ⟨fit0, fun pe npe => ?_⟩))
    have sj5 := same_upd (o := .lst []) npe
    have ej5 := upd_same (H := J4) (a := pe) (o := .lst [])
    generalize upd J4 pe _ = J5 at sj5 ej5 ⊢
    have tC := tA.same (sA3.trans (sj4.trans sj5))
    refine ⟨q1, q2, pe, ws, uy, [], ys, [], o2, rfl, tC.hw, tC.ow, tC.hy, tC.oy, ej5, OT.nil _ _, lw, ly, by decide, hd2, fun d2 J6 sj6 dv2 => ?_⟩
    refine ⟨t2, d2, o2, rfl, told2.same (sj5.trans sj6), dv2, fun J7 sj7 => (nm rfl (iteF ?_))⟩
    have sA7 := sA3.trans (sj4.trans (sj5.trans (sj6.trans sj7)))
    have gD := gA.same sA7
    have tD := tA.same sA7
    refine (nm rfl (nm rfl (nm rfl (nm rfl ⟨fit3 _ _ _, fun p5 np5 => ?_⟩))))
    have sj8 := same_upd (o := .lst [V.ref q1, V.ref q2, V.ref q3]) np5
    have ej8 := upd_same (H := J7) (a := p5) (o := .lst [V.ref q1, V.ref q2, V.ref q3])
    generalize upd J7 p5 _ = J8 at sj8 ej8 ⊢
    have gE := gD.same sj8
    have tE := tD.same sj8
    refine ⟨_, _, _, _, rfl, rfl, SqL.of ((sA7.trans sj8) _ _ cA4), SqL.of ej8, .cons gE.hw tE.hw (odd_cp gE.ow) (.cons gE.hy tE.hy (tups_cp gE.oy.tu) (.cons gE.hr tE.hr (tups_cp gE.oz.tu) .nil)), (nm rfl (iteF ?_))⟩
    refine (nm rfl ⟨_, _, rfl, .inl (SqL.of tE.hw), fun r1 nr1 => ?_⟩)
    have aF := same_upd (o := .lst ws) nr1
    have cF := upd_same (H := J8) (a := r1) (o := .lst ws)
    generalize upd J8 r1 _ = M1 at aF cF ⊢
    refine (nm rfl ⟨_, _, rfl, .inl (SqL.of (aF _ _ tE.hy)), fun r2 nr2 => ?_⟩)
    have aF2 := same_upd (o := .lst uy) nr2
    have cF2 := upd_same (H := M1) (a := r2) (o := .lst uy)
    generalize upd M1 r2 _ = M2 at aF2 cF2 ⊢
    refine (nm rfl ⟨_, _, rfl, .inl (SqL.of (aF2 _ _ (aF _ _ tE.hr))), fun r3 nr3 => ?_⟩)
    have aF3 := same_upd (o := .lst ur) nr3
    have cF3 := upd_same (H := M2) (a := r3) (o := .lst ur)
    generalize upd M2 r3 _ = M3 at aF3 cF3 ⊢
    refine ⟨fit3 _ _ _, fun pp npp => ?_⟩
    have m1F := ne_of_none (aF3 _ _ (aF2 _ _ cF)) npp
    have m2F := ne_of_none (aF3 _ _ cF2) npp
    have m3F := ne_of_none cF3 npp
    have aF4 := same_upd (o := .lst [V.ref r1, V.ref r2, V.ref r3]) npp
    have cF4 := upd_same (H := M3) (a := pp) (o := .lst [V.ref r1, V.ref r2, V.ref r3])
    generalize upd M3 pp _ = M4 at aF4 cF4 ⊢
    have bF := aF.trans (aF2.trans (aF3.trans aF4))
    have tF := tE.same bF
    have gF : Tri M4 r1 r2 r3 ws uy ur ys rs := ⟨aF4 _ _ (aF3 _ _ (aF2 _ _ cF)), tF.ow, aF4 _ _ (aF3 _ _ cF2), tF.oy, aF4 _ _ cF3, tF.oz, tF.lw, tF.ly, tF.lr⟩
    have pF : Pts M4 pp r1 r2 r3 ws uy ur ys rs := ⟨cF4, m1F, m2F, m3F, gF⟩
    refine ⟨_, rfl, by decide, by decide, for_range (lo := 0) (n := ((3 : Int)).toNat) (fun i σ H' => (∃ qw qy qr ws uy ur ys rs, Pts H' pp qw qy qr ws uy ur ys rs ∧ Bd ws ys rs (3 - i)) ∧ ∃ v6 v7 v8 : Option V, σ = [some (.ref l), some (.ref q1), some (.ref q2), some (.ref q3), some (.ref ph), some (.ref pp), v6, v7, v8, none]) ⟨⟨_, _, _, _, _, _, _, _, pF, Bd.any _ _ _⟩, _, _, _, rfl⟩ ?_ ?_⟩
    · clear pF gF tF gE tE gD tD gB tB gA tA t0 hd hd2
      rintro n σ H3 hn ⟨⟨qw, qy, qr, ws, uy, ur, ys, rs, pt, bd⟩, v6, v7, v8, rfl⟩
      obtain ⟨m, em⟩ : ∃ m, 3 - n = m + 1 := ⟨2 - n, by have : n < 3 := hn; omega⟩
      rw [em] at bd
      have em' : 3 - (n + 1) = m := by omega
      rw [em']
      obtain ⟨o, hd⟩ := Due.ex ws ys rs
      refine (nm rfl (lx (SqL.of pt.hp) rfl (nm rfl (lx (SqL.of pt.hp) rfl (nm rfl (lx (SqL.of pt.hp) rfl ⟨qw, qy, qr, ws, uy, ur, ys, rs, o, rfl, pt.tr.hw, pt.tr.ow, pt.tr.hy, pt.tr.oy, pt.tr.hr, pt.tr.oz, pt.tr.lw, pt.tr.ly, pt.tr.lr, hd, fun v H4 s4 dv => ?_⟩))))))
      refine (nm rfl ⟨rfl, (nm rfl ?_)⟩)
      have alt : (v = .non ∧ Bd ws ys rs m) ∨ (∃ (b : Addr) (i : Nat), v = .ref b ∧ H4 b = some (.tup [.str (Str.ofString "week"), .int (i : Int)]) ∧ Fst (gW ws) ws.length (some i)) ∨ (∃ (b : Addr) (i : Nat), v = .ref b ∧ H4 b = some (.tup [.str (Str.ofString "yearly"), .int (i : Int)]) ∧ Fst (gY ys) ys.length (some i)) ∨ (∃ (b : Addr) (i : Nat), v = .ref b ∧ H4 b = some (.tup [.str (Str.ofString "rows"), .int (i : Int)]) ∧ Fst (gR rs) rs.length (some i)) := by
        cases hd with
        | good h1 h2 h3 => exact .inl ⟨dv, Bd.of h1 h2 h3 m⟩
        | week i h => obtain ⟨b, ev, hb⟩ := dv; exact .inr (.inl ⟨b, i, ev, hb, h⟩)
        | yearly i _ h => obtain ⟨b, ev, hb⟩ := dv; exact .inr (.inr (.inl ⟨b, i, ev, hb, h⟩))
        | rows i _ _ h => obtain ⟨b, ev, hb⟩ := dv; exact .inr (.inr (.inr ⟨b, i, ev, hb, h⟩))
      clear dv
      clear hd
      apply use2 (p := fun (H6 : Hp) (v8 : Option V) => ∃ qw qy qr ws uy ur ys rs, Pts H6 pp qw qy qr ws uy ur ys rs ∧ Bd ws ys rs m)
      · intro fin
        refine alt.elim (fun z => ?_) fun z => z.elim (fun z => ?_) fun z => z.elim (fun z => ?_) (fun z => ?_)
        · obtain ⟨dv, hbd⟩ := z
          refine iteND dv ?_
          have qq : ∃ qw qy qr ws uy ur ys rs, Pts H4 pp qw qy qr ws uy ur ys rs ∧ Bd ws ys rs m := ⟨_, _, _, _, _, _, _, _, pt.same s4, hbd⟩
          generalize H4 = W4 at qq ⊢
          generalize v8 = w8
          exact fin W4 w8 qq
        · obtain ⟨b, i, ev, hb, h⟩ := z
          refine iteNN (fun z => by rw [ev] at z; cases z) ?_
          refine ⟨fits (show 3 ≤ 100000 by decide), fun pl npl => ?_⟩
          have z1 := same_upd (o := .lst [V.str (Str.ofString "week"), V.str (Str.ofString "yearly"), V.str (Str.ofString "rows")]) npl
          have y1 := upd_same (H := H4) (a := pl) (o := .lst [V.str (Str.ofString "week"), V.str (Str.ofString "yearly"), V.str (Str.ofString "rows")])
          generalize upd H4 pl _ = H5 at z1 y1 ⊢
          refine ⟨.inl ⟨rfl, _, SqL.of y1⟩, (nm rfl ⟨_, _, _, _, ev, rfl, SqT.of (z1 _ _ hb), rfl, pl, [Str.ofString "week", Str.ofString "yearly", Str.ofString "rows"], _, 0, rfl, rfl, y1, rfl, (by decide +kernel), ?_⟩)⟩
          have g5 := (pt.same s4).same z1
          have hi : i < ws.length := h.1
          refine (nm rfl (nm rfl (lx (SqL.of g5.hp) rfl (nm rfl ⟨_, _, _, _, ev, rfl, SqT.of (z1 _ _ hb), rfl, _, rfl, _, _, rfl, SqL.of g5.tr.hw, fun q9 nq9 => ?_⟩))))
          rw [cut_take _ i (by omega)]
          have z2 := same_upd (o := .lst (ws.take i)) nq9
          have y2 := upd_same (H := H5) (a := q9) (o := .lst (ws.take i))
          have n9 : q9 ≠ pp := fun e => by rw [e, g5.hp] at nq9; cases nq9
          generalize upd H5 q9 _ = H6 at z2 y2 ⊢
          have g6 := g5.same z2
          refine (nm rfl (nm rfl ⟨_, _, _, 0, rfl, rfl, g6.hp, rfl, ?_⟩))
          exact fin _ _ ⟨_, _, _, _, _, _, _, _, g6.over n9 pt.ny pt.nr ⟨y2, fun v hv => g6.tr.ow v (List.mem_of_mem_take hv), g6.tr.hy, g6.tr.oy, g6.tr.hr, g6.tr.oz, by rw [List.length_take]; have := pt.tr.lw; omega, pt.tr.ly, pt.tr.lr⟩, bd.w h⟩
        · obtain ⟨b, i, ev, hb, h⟩ := z
          refine iteNN (fun z => by rw [ev] at z; cases z) ?_
          refine ⟨fits (show 3 ≤ 100000 by decide), fun pl npl => ?_⟩
          have z1 := same_upd (o := .lst [V.str (Str.ofString "week"), V.str (Str.ofString "yearly"), V.str (Str.ofString "rows")]) npl
          have y1 := upd_same (H := H4) (a := pl) (o := .lst [V.str (Str.ofString "week"), V.str (Str.ofString "yearly"), V.str (Str.ofString "rows")])
          generalize upd H4 pl _ = H5 at z1 y1 ⊢
          refine ⟨.inl ⟨rfl, _, SqL.of y1⟩, (nm rfl ⟨_, _, _, _, ev, rfl, SqT.of (z1 _ _ hb), rfl, pl, [Str.ofString "week", Str.ofString "yearly", Str.ofString "rows"], _, 1, rfl, rfl, y1, rfl, (by decide +kernel), ?_⟩)⟩
          have g5 := (pt.same s4).same z1
          have hi : i < ys.length := h.1
          refine (nm rfl (nm rfl (lx (SqL.of g5.hp) rfl (nm rfl ⟨_, _, _, _, ev, rfl, SqT.of (z1 _ _ hb), rfl, _, rfl, _, _, rfl, SqL.of g5.tr.hy, fun q9 nq9 => ?_⟩))))
          rw [cut_take _ i (by have := pt.tr.oy.len; omega)]
          have z2 := same_upd (o := .lst (uy.take i)) nq9
          have y2 := upd_same (H := H5) (a := q9) (o := .lst (uy.take i))
          have n9 : q9 ≠ pp := fun e => by rw [e, g5.hp] at nq9; cases nq9
          generalize upd H5 q9 _ = H6 at z2 y2 ⊢
          have g6 := g5.same z2
          refine (nm rfl (nm rfl ⟨_, _, _, 1, rfl, rfl, g6.hp, rfl, ?_⟩))
          exact fin _ _ ⟨_, _, _, _, _, _, _, _, g6.over pt.nw n9 pt.nr ⟨g6.tr.hw, g6.tr.ow, y2, g6.tr.oy.take i, g6.tr.hr, g6.tr.oz, pt.tr.lw, by rw [List.length_take]; have := pt.tr.ly; omega, pt.tr.lr⟩, bd.y h⟩
        · obtain ⟨b, i, ev, hb, h⟩ := z
          refine iteNN (fun z => by rw [ev] at z; cases z) ?_
          refine ⟨fits (show 3 ≤ 100000 by decide), fun pl npl => ?_⟩
          have z1 := same_upd (o := .lst [V.str (Str.ofString "week"), V.str (Str.ofString "yearly"), V.str (Str.ofString "rows")]) npl
          have y1 := upd_same (H := H4) (a := pl) (o := .lst [V.str (Str.ofString "week"), V.str (Str.ofString "yearly"), V.str (Str.ofString "rows")])
          generalize upd H4 pl _ = H5 at z1 y1 ⊢
          refine ⟨.inl ⟨rfl, _, SqL.of y1⟩, (nm rfl ⟨_, _, _, _, ev, rfl, SqT.of (z1 _ _ hb), rfl, pl, [Str.ofString "week", Str.ofString "yearly", Str.ofString "rows"], _, 2, rfl, rfl, y1, rfl, (by decide +kernel), ?_⟩)⟩
          have g5 := (pt.same s4).same z1
          have hi : i < rs.length := h.1
          refine (nm rfl (nm rfl (lx (SqL.of g5.hp) rfl (nm rfl ⟨_, _, _, _, ev, rfl, SqT.of (z1 _ _ hb), rfl, _, rfl, _, _, rfl, SqL.of g5.tr.hr, fun q9 nq9 => ?_⟩))))
          rw [cut_take _ i (by have := pt.tr.oz.len; omega)]
          have z2 := same_upd (o := .lst (ur.take i)) nq9
          have y2 := upd_same (H := H5) (a := q9) (o := .lst (ur.take i))
          have n9 : q9 ≠ pp := fun e => by rw [e, g5.hp] at nq9; cases nq9
          generalize upd H5 q9 _ = H6 at z2 y2 ⊢
          have g6 := g5.same z2
          refine (nm rfl (nm rfl ⟨_, _, _, 2, rfl, rfl, g6.hp, rfl, ?_⟩))
          exact fin _ _ ⟨_, _, _, _, _, _, _, _, g6.over pt.nw pt.ny n9 ⟨g6.tr.hw, g6.tr.ow, g6.tr.hy, g6.tr.oy, y2, g6.tr.oz.take i, pt.tr.lw, pt.tr.ly, by rw [List.length_take]; have := pt.tr.lr; omega⟩, bd.r h⟩
      · rintro H6 v9 ⟨qw, qy, qr, ws, uy, ur, ys, rs, pt, bd⟩
        obtain ⟨o, hd⟩ := Due.ex ws ys rs
        refine (nm rfl (lx (SqL.of pt.hp) rfl (nm rfl (lx (SqL.of pt.hp) rfl (nm rfl (lx (SqL.of pt.hp) rfl ⟨qw, qy, qr, ws, uy, ur, ys, rs, o, rfl, pt.tr.hw, pt.tr.ow, pt.tr.hy, pt.tr.oy, pt.tr.hr, pt.tr.oz, hd, fun t H7 s7 told => ?_⟩))))))
        have pt7 := pt.same s7
        refine (nm rfl (lx (SqL.of pt7.hp) rfl (nm rfl (lx (SqL.of pt7.hp) rfl (nm rfl (lx (SqL.of pt7.hp) rfl ⟨qw, qy, qr, ws, uy, ur, ys, rs, o, rfl, pt7.tr.hw, pt7.tr.ow, pt7.tr.hy, pt7.tr.oy, pt7.tr.hr, pt7.tr.oz, pt.tr.lw, pt.tr.ly, pt.tr.lr, hd, fun d H8 s8 dv => ?_⟩))))))
        refine ⟨t, d, o, rfl, told.same s8, dv, fun H9 s9 => (nm rfl (iteF ?_))⟩
        exact ⟨⟨_, _, _, _, _, _, _, _, pt7.same (s8.trans s9), bd⟩, _, _, _, rfl⟩
    · rintro σ H3 ⟨⟨qw, qy, qr, ws, uy, ur, ys, rs, pt, bd⟩, v6, v7, v8, rfl⟩
      have hd := Bd.fin bd
      refine (nm rfl (lx (SqL.of pt.hp) rfl (nm rfl (lx (SqL.of pt.hp) rfl (nm rfl (lx (SqL.of pt.hp) rfl (fun x dx nx nd ne => ?_)))))))
      have keep : Same H3 (upd (upd H3 dx (.own x)) x (.ins a.cTable dx [])) := fun b u e => by rw [upd_ne (ne_of_none e nx), upd_ne (ne_of_none e nd)]; exact e
      have g := pt.tr.same keep
      refine ⟨x, dx, qw, qy, qr, ws, uy, ur, ys, rs, rfl, upd_same, g.hw, g.ow, g.hy, g.oy, g.hr, g.oz, fun _ H4 bs ro b4 tab ap => ⟨rfl, ?_⟩, fun p i d => by cases hd.det d⟩
      obtain ⟨dx4, a1, a2, a3, hx4, hr4⟩ := id tab
      exact (nm rfl ⟨_, _, _, rfl, hx4, rfl, x, bs, ro, 0, rfl, tab, ap, by decide, fun H5 s5 => ⟨_, _, _, _, rfl, .bl _, kit_bool_bool, k H5⟩⟩)
end
set_option maxHeartbeats 4000000 in
theorem all_mk {l : PySem.W.OpenLaw} {w : World} {K : PySem.W.Frag} {h : Heap} {mg : Str → Option Value} {fa : Addr} (X : K.In h) (G : h.Ns mainGlobals mg) (hfa : mg "law" = some (.ref fa))
    {C_Adrift : Addr} {C_CourtError : Addr} {C_Full : Addr} {C_NoAct : Addr} {C_NoDay : Addr} {C_NoName : Addr} {C_NoRow : Addr} {C_NoRule : Addr} {C_NoTable : Addr} {C_NoTerm : Addr} {C_Parted : Addr} {C_Pattern : Addr} {C_Ring : Addr} {C_Table : Addr} {C_Twice : Addr} {C_Unfit : Addr} {f0 : Addr} {f1 : Addr} {f2 : Addr} {f3 : Addr} {f4 : Addr} {f5 : Addr} {f6 : Addr} {f7 : Addr} {f8 : Addr} {f9 : Addr} {f10 : Addr} {f11 : Addr} {f12 : Addr} {f13 : Addr} {f14 : Addr} {f15 : Addr} {f16 : Addr} {f17 : Addr} {f18 : Addr} {f19 : Addr} {f20 : Addr} {f21 : Addr} {f22 : Addr} {f23 : Addr} {f24 : Addr} {f25 : Addr} {f26 : Addr} {f27 : Addr} {f28 : Addr} {f29 : Addr} {f30 : Addr} {f31 : Addr} {f32 : Addr} {f33 : Addr} {f34 : Addr} {f35 : Addr} {od35 an35 : Option Addr} {sl35 : Array (Option Value)} {oc35 kV35 dc35 pm35 cd35 ct35 : Value} {dV35 : Value} {f36 : Addr} {f37 : Addr} {f38 : Addr} {f39 : Addr} {f40 : Addr} {f41 : Addr} {od41 an41 : Option Addr} {sl41 : Array (Option Value)} {oc41 kV41 dc41 pm41 cd41 ct41 : Value} {tk_MOST_WEEKDAYS : Tok} {tk_MOST_YEARLY : Tok} {tk_MOST_YEARLY_DAYS : Tok} {tk_SHORT_YEAR : Tok} {tk_LONG_YEAR : Tok} {tk_MOST_ROWS : Tok} {tk_MOST_ROW_DAYS : Tok} {A_WORDS : Addr} {oa_WORDS : Option Addr} {na_WORDS : Nat} {tt0_WORDS tt1_WORDS : Tok} {sa_WORDS : Array (Option Value)}
    (ca_Adrift : PySem.W.nsIn K mainGlobals "Adrift" = some (some (.ref C_Adrift))) (ca_CourtError : PySem.W.nsIn K mainGlobals "CourtError" = some (some (.ref C_CourtError))) (ca_Full : PySem.W.nsIn K mainGlobals "Full" = some (some (.ref C_Full))) (ca_NoAct : PySem.W.nsIn K mainGlobals "NoAct" = some (some (.ref C_NoAct))) (ca_NoDay : PySem.W.nsIn K mainGlobals "NoDay" = some (some (.ref C_NoDay))) (ca_NoName : PySem.W.nsIn K mainGlobals "NoName" = some (some (.ref C_NoName))) (ca_NoRow : PySem.W.nsIn K mainGlobals "NoRow" = some (some (.ref C_NoRow))) (ca_NoRule : PySem.W.nsIn K mainGlobals "NoRule" = some (some (.ref C_NoRule))) (ca_NoTable : PySem.W.nsIn K mainGlobals "NoTable" = some (some (.ref C_NoTable))) (ca_NoTerm : PySem.W.nsIn K mainGlobals "NoTerm" = some (some (.ref C_NoTerm))) (ca_Parted : PySem.W.nsIn K mainGlobals "Parted" = some (some (.ref C_Parted))) (ca_Pattern : PySem.W.nsIn K mainGlobals "Pattern" = some (some (.ref C_Pattern))) (ca_Ring : PySem.W.nsIn K mainGlobals "Ring" = some (some (.ref C_Ring))) (ca_Table : PySem.W.nsIn K mainGlobals "Table" = some (some (.ref C_Table))) (ca_Twice : PySem.W.nsIn K mainGlobals "Twice" = some (some (.ref C_Twice))) (ca_Unfit : PySem.W.nsIn K mainGlobals "Unfit" = some (some (.ref C_Unfit))) (p0 : Pd K "is_whole" sIsWhole f0) (p1 : Pd K "long_before" sLongBefore f1) (p2 : Pd K "first_week" sFirstWeek f2) (p3 : Pd K "year_of" sYearOf f3) (p4 : Pd K "weekday" sWeekday f4) (p5 : Pd K "date_of" sDateOf f5) (p6 : Pd K "is_stretch_of" sIsStretchOf f6) (p7 : Pd K "place" sPlace f7) (p8 : Pd K "joined" sJoined f8) (p9 : Pd K "laid_over" sLaidOver f9) (p10 : Pd K "overlay" sOverlay f10) (p11 : Pd K "day_of_year" sDayOfYear f11) (p12 : Pd K "is_free_within" sIsFreeWithin f12) (p13 : Pd K "counted_up" sCountedUp f13) (p14 : Pm K C_NoTable "__init__" "NoTable.__init__" sNoTableInit f14) (p15 : Pd K "is_weekday" sIsWeekday f15) (p16 : Pd K "refuse_week" sRefuseWeek f16) (p17 : Pd K "is_yearly" sIsYearly f17) (p18 : Pd K "refuse_yearly" sRefuseYearly f18) (p19 : Pd K "list_or_empty" sListOrEmpty f19) (p20 : Pd K "is_row" sIsRow f20) (p21 : Pd K "refuse_rows" sRefuseRows f21) (p22 : Pd K "_law_cell" sLawCell f22) (p23 : Pd K "_law_whole" sLawWhole f23) (p24 : Pd K "_law_odd" sLawOdd f24) (p25 : Pd K "_law_week" sLawWeek f25) (p26 : Pd K "_law_yearly" sLawYearly f26) (p27 : Pd K "_law_rows" sLawRows f27) (p28 : Pd K "_law_pair" sLawPair f28) (p29 : Pd K "_law_due" sLawDue f29) (p30 : Pd K "_law_alone" sLawAlone f30) (p31 : Pm K C_Pattern "__init__" "Pattern.__init__" sPatternInit f31) (p32 : Pm K C_Pattern "before_year" "Pattern.before_year" sPatternBeforeYear f32) (p33 : Pm K C_Pattern "before" "Pattern.before" sPatternBefore f33) (p34 : Pm K C_Table "shift" "Table.shift" sTableShift f34) (a35 : PySem.W.findIn K (.ref C_Table) "__init__" = some (some (.ref f35))) (t35 : PySem.W.typeIn K (.ref f35) = some (.type "function")) (l35 : K.lookup f35 = some ⟨oc35, od35, .func (PySem.W.fnOf "__init__" "Table.__init__" (defArgs sTableInit) (defBody sTableInit) (defScope sTableInit) dV35 kV35 dc35 pm35 an35 cd35 ct35), sl35⟩) (c35 : PySem.W.codeIn K cd35 "Table.__init__" = true) (k35 : PySem.W.keepIn K (.ref f35) = true) (pk35 : ∀ (u0 u1 u2 u3 : Value) (S : Setting), PySem.W.peek K S (bindArgs (PySem.W.fnOf "__init__" "Table.__init__" (defArgs sTableInit) (defBody sTableInit) (defScope sTableInit) dV35 kV35 dc35 pm35 an35 cd35 ct35) ⟨[u0, u1, u2, u3], []⟩) = some [(Str.ofString "self", u0), (Str.ofString "week", u1), (Str.ofString "yearly", u2), (Str.ofString "rows", u3)]) (p36 : Pd K "_law_table" sLawTable f36) (p37 : Pd K "_law_pattern" sLawPattern f37) (p38 : Pd K "_law_same" sLawSame f38) (p39 : Pm K C_Pattern "is_free" "Pattern.is_free" sPatternIsFree f39) (p40 : Pm K C_Table "is_free" "Table.is_free" sTableIsFree f40) (a41 : PySem.W.nsIn K mainGlobals "law" = some (some (.ref f41))) (l41 : K.lookup f41 = some ⟨oc41, od41, .func (PySem.W.fnOf "law" "law" (defArgs sLaw) (defBody sLaw) (defScope sLaw) .none kV41 dc41 pm41 an41 cd41 ct41), sl41⟩) (c41 : PySem.W.codeIn K cd41 "law" = true) (k41 : PySem.W.keepIn K (.ref f41) = true) (z_ValueError : PySem.W.nsIn K mainGlobals "ValueError" = some none) (z_any : PySem.W.nsIn K mainGlobals "any" = some none) (z_bool : PySem.W.nsIn K mainGlobals "bool" = some none) (z_enumerate : PySem.W.nsIn K mainGlobals "enumerate" = some none) (z_int : PySem.W.nsIn K mainGlobals "int" = some none) (z_isinstance : PySem.W.nsIn K mainGlobals "isinstance" = some none) (z_len : PySem.W.nsIn K mainGlobals "len" = some none) (z_list : PySem.W.nsIn K mainGlobals "list" = some none) (z_min : PySem.W.nsIn K mainGlobals "min" = some none) (z_range : PySem.W.nsIn K mainGlobals "range" = some none) (z_str : PySem.W.nsIn K mainGlobals "str" = some none) (z_tuple : PySem.W.nsIn K mainGlobals "tuple" = some none) (q_MOST_WEEKDAYS : PySem.W.nsIn K mainGlobals "MOST_WEEKDAYS" = some (some (.int 6 tk_MOST_WEEKDAYS))) (q_MOST_YEARLY : PySem.W.nsIn K mainGlobals "MOST_YEARLY" = some (some (.int 4 tk_MOST_YEARLY))) (q_MOST_YEARLY_DAYS : PySem.W.nsIn K mainGlobals "MOST_YEARLY_DAYS" = some (some (.int 30 tk_MOST_YEARLY_DAYS))) (q_SHORT_YEAR : PySem.W.nsIn K mainGlobals "SHORT_YEAR" = some (some (.int 364 tk_SHORT_YEAR))) (q_LONG_YEAR : PySem.W.nsIn K mainGlobals "LONG_YEAR" = some (some (.int 371 tk_LONG_YEAR))) (q_MOST_ROWS : PySem.W.nsIn K mainGlobals "MOST_ROWS" = some (some (.int 12 tk_MOST_ROWS))) (q_MOST_ROW_DAYS : PySem.W.nsIn K mainGlobals "MOST_ROW_DAYS" = some (some (.int 40 tk_MOST_ROW_DAYS))) (q_WORDS : PySem.W.nsIn K mainGlobals "WORDS" = some (some (.ref A_WORDS))) (lt_WORDS : K.lookup A_WORDS = some ⟨.type "tuple", oa_WORDS, .seq #[.str (Str.ofString "free") tt0_WORDS, .str (Str.ofString "open") tt1_WORDS] na_WORDS, sa_WORDS⟩) (cb_CourtError : xBase K C_CourtError = true) (cx_NoTable : xAll K C_NoTable (some (.ref f14)) = true) (cn_NoTable : xNo K C_NoTable ["free_days", "open_days", "open_before", "pattern", "rows", "shifts", "part", "at"] = true) (ck_NoTable : xKits K C_NoTable [Value.ref C_CourtError, Value.type "ValueError", Value.ref C_NoTable, Value.ref C_Adrift, Value.ref C_Full, Value.ref C_NoAct, Value.ref C_NoDay, Value.ref C_NoName, Value.ref C_NoRow, Value.ref C_NoRule, Value.ref C_NoTerm, Value.ref C_Parted, Value.ref C_Ring, Value.ref C_Twice, Value.ref C_Unfit] [true, true, true, false, false, false, false, false, false, false, false, false, false, false, false] = true) (cc_Pattern : clsB K C_Pattern = true) (cm_Pattern : mkB K C_Pattern f31 = true) (cn_Pattern : xNo K C_Pattern ["free_days", "open_days", "open_before", "pattern", "rows", "shifts", "part", "at"] = true) (ct_dPatternBeforeYear : methB K C_Pattern "before_year" f32 = true) (ct_dPatternBefore : methB K C_Pattern "before" f33 = true) (ct_dPatternIsFree : methB K C_Pattern "is_free" f39 = true) (cc_Table : clsB K C_Table = true) (cm_Table : mkB K C_Table f35 = true) (cn_Table : xNo K C_Table ["free_days", "open_days", "open_before", "pattern", "rows", "shifts", "part", "at"] = true) (ct_dTableShift : methB K C_Table "shift" f34 = true) (ct_dTableIsFree : methB K C_Table "is_free" f40 = true) (cr_NoTable : xRaise K C_NoTable = true) (ch_NoTable_CourtError : (PySem.W.exmOne K (.ref C_NoTable) (.ref C_CourtError) == some true) = true) (ch_NoTable_NoTable : (PySem.W.exmOne K (.ref C_NoTable) (.ref C_NoTable) == some true) = true)
    : ∃ fd : FuncData, (∀ (s : Shared) (v : Value), BindsTo s fd ⟨[v], []⟩ [("_law_script", v)]) ∧ ∀ base : Heap, K.In base → base.Ns mainGlobals mg → FnOk l.prog w K mg base CX0 10 fa fd ["_law_script"] (spLaw K) := by
  have e := hfa.symm.trans (PySem.W.mg_of X G a41)
  cases e
  obtain ⟨g0, d0⟩ := pd_mk X G p0 (ps := ["thing"]) fun _ _ _ _ _ _ => arg1 fun _ => rfl
  obtain ⟨g1, d1⟩ := pd_mk X G p1 (ps := ["year"]) fun _ _ _ _ _ _ => arg1 fun _ => rfl
  obtain ⟨g2, d2⟩ := pd_mk X G p2 (ps := ["year"]) fun _ _ _ _ _ _ => arg1 fun _ => rfl
  obtain ⟨g3, d3⟩ := pd_mk X G p3 (ps := ["week"]) fun _ _ _ _ _ _ => arg1 fun _ => rfl
  obtain ⟨g4, d4⟩ := pd_mk X G p4 (ps := ["day"]) fun _ _ _ _ _ _ => arg1 fun _ => rfl
  obtain ⟨g5, d5⟩ := pd_mk X G p5 (ps := ["day"]) fun _ _ _ _ _ _ => arg1 fun _ => rfl
  obtain ⟨g6, d6⟩ := pd_mk X G p6 (ps := ["first", "last", "most"]) fun _ _ _ _ _ _ => arg3 fun _ _ _ => rfl
  obtain ⟨g7, d7⟩ := pd_mk X G p7 (ps := ["stretches", "day"]) fun _ _ _ _ _ _ => arg2 fun _ _ => rfl
  obtain ⟨g8, d8⟩ := pd_mk X G p8 (ps := ["laid"]) fun _ _ _ _ _ _ => arg1 fun _ => rfl
  obtain ⟨g9, d9⟩ := pd_mk X G p9 (ps := ["laid", "first", "last", "word"]) fun _ _ _ _ _ _ => arg4 fun _ _ _ _ => rfl
  obtain ⟨g10, d10⟩ := pd_mk X G p10 (ps := ["rows"]) fun _ _ _ _ _ _ => arg1 fun _ => rfl
  obtain ⟨g11, d11⟩ := pd_mk X G p11 (ps := ["day"]) fun _ _ _ _ _ _ => arg1 fun _ => rfl
  obtain ⟨g12, d12⟩ := pd_mk X G p12 (ps := ["within", "week", "yearly"]) fun _ _ _ _ _ _ => arg3 fun _ _ _ => rfl
  obtain ⟨g13, d13⟩ := pd_mk X G p13 (ps := ["free_days"]) fun _ _ _ _ _ _ => arg1 fun _ => rfl
  obtain ⟨g14, d14⟩ := pm_mk p14 (ps := ["self", "part", "at"]) fun _ _ _ _ _ _ => arg3 fun _ _ _ => rfl
  obtain ⟨g15, d15⟩ := pd_mk X G p15 (ps := ["thing"]) fun _ _ _ _ _ _ => arg1 fun _ => rfl
  obtain ⟨g16, d16⟩ := pd_mk X G p16 (ps := ["week"]) fun _ _ _ _ _ _ => arg1 fun _ => rfl
  obtain ⟨g17, d17⟩ := pd_mk X G p17 (ps := ["thing"]) fun _ _ _ _ _ _ => arg1 fun _ => rfl
  obtain ⟨g18, d18⟩ := pd_mk X G p18 (ps := ["yearly"]) fun _ _ _ _ _ _ => arg1 fun _ => rfl
  obtain ⟨g19, d19⟩ := pd_mk X G p19 (ps := ["things"]) fun _ _ _ _ _ _ => arg1 fun _ => rfl
  obtain ⟨g20, d20⟩ := pd_mk X G p20 (ps := ["row"]) fun _ _ _ _ _ _ => arg1 fun _ => rfl
  obtain ⟨g21, d21⟩ := pd_mk X G p21 (ps := ["rows"]) fun _ _ _ _ _ _ => arg1 fun _ => rfl
  obtain ⟨g22, d22⟩ := pd_mk X G p22 (ps := ["_law_script", "_law_k"]) fun _ _ _ _ _ _ => arg2 fun _ _ => rfl
  obtain ⟨g23, d23⟩ := pd_mk X G p23 (ps := ["_law_found"]) fun _ _ _ _ _ _ => arg1 fun _ => rfl
  obtain ⟨g24, d24⟩ := pd_mk X G p24 (ps := ["_law_cell_here", "_law_other"]) fun _ _ _ _ _ _ => arg2 fun _ _ => rfl
  obtain ⟨g25, d25⟩ := pd_mk X G p25 (ps := ["_law_script"]) fun _ _ _ _ _ _ => arg1 fun _ => rfl
  obtain ⟨g26, d26⟩ := pd_mk X G p26 (ps := ["_law_script"]) fun _ _ _ _ _ _ => arg1 fun _ => rfl
  obtain ⟨g27, d27⟩ := pd_mk X G p27 (ps := ["_law_script"]) fun _ _ _ _ _ _ => arg1 fun _ => rfl
  obtain ⟨g28, d28⟩ := pd_mk X G p28 (ps := ["_law_first", "_law_last", "_law_least", "_law_most", "_law_days"]) fun _ _ _ _ _ _ => arg5 fun _ _ _ _ _ => rfl
  obtain ⟨g29, d29⟩ := pd_mk X G p29 (ps := ["_law_week_here", "_law_yearly_here", "_law_rows_here"]) fun _ _ _ _ _ _ => arg3 fun _ _ _ => rfl
  obtain ⟨g30, d30⟩ := pd_mk X G p30 (ps := ["_law_e"]) fun _ _ _ _ _ _ => arg1 fun _ => rfl
  obtain ⟨g31, d31⟩ := pm_mk p31 (ps := ["self", "week", "yearly"]) fun _ _ _ _ _ _ => arg3 fun _ _ _ => rfl
  obtain ⟨g32, d32⟩ := pm_mk p32 (ps := ["self", "year"]) fun _ _ _ _ _ _ => arg2 fun _ _ => rfl
  obtain ⟨g33, d33⟩ := pm_mk p33 (ps := ["self", "day"]) fun _ _ _ _ _ _ => arg2 fun _ _ => rfl
  obtain ⟨g34, d34⟩ := pm_mk p34 (ps := ["self", "row", "end"]) fun _ _ _ _ _ _ => arg3 fun _ _ _ => rfl
  obtain ⟨g36, d36⟩ := pd_mk X G p36 (ps := ["_law_week_here", "_law_yearly_here", "_law_rows_here"]) fun _ _ _ _ _ _ => arg3 fun _ _ _ => rfl
  obtain ⟨g37, d37⟩ := pd_mk X G p37 (ps := ["_law_week_here", "_law_yearly_here"]) fun _ _ _ _ _ _ => arg2 fun _ _ => rfl
  obtain ⟨g38, d38⟩ := pd_mk X G p38 (ps := ["_law_told", "_law_due_here"]) fun _ _ _ _ _ _ => arg2 fun _ _ => rfl
  obtain ⟨g39, d39⟩ := pm_mk p39 (ps := ["self", "day"]) fun _ _ _ _ _ _ => arg2 fun _ _ => rfl
  obtain ⟨g40, d40⟩ := pm_mk p40 (ps := ["self", "day"]) fun _ _ _ _ _ _ => arg2 fun _ _ => rfl
  have F35 := fund_mk (st := sTableInit) l35 c35 k35
  have b35 : Binds K _ ["self", "week", "yearly", "rows"] [] := bindsN (n := 4) rfl (arg4 fun u0 u1 u2 u3 S => pk35 u0 u1 u2 u3 S)
  have F41 := fun_mk (st := sLaw) l41 c41 k41
  have b41 := F41.binds (ps := ["_law_script"]) fun _ _ _ _ _ _ => arg1 fun _ => rfl
  have T : Txt K mg { fIsWhole := f0, gIsWhole := g0, fLongBefore := f1, gLongBefore := g1, fFirstWeek := f2, gFirstWeek := g2, fYearOf := f3, gYearOf := g3, fWeekday := f4, gWeekday := g4, fDateOf := f5, gDateOf := g5, fIsStretchOf := f6, gIsStretchOf := g6, fPlace := f7, gPlace := g7, fJoined := f8, gJoined := g8, fLaidOver := f9, gLaidOver := g9, fOverlay := f10, gOverlay := g10, fDayOfYear := f11, gDayOfYear := g11, fIsFreeWithin := f12, gIsFreeWithin := g12, fCountedUp := f13, gCountedUp := g13, fNoTableInit := f14, gNoTableInit := g14, fIsWeekday := f15, gIsWeekday := g15, fRefuseWeek := f16, gRefuseWeek := g16, fIsYearly := f17, gIsYearly := g17, fRefuseYearly := f18, gRefuseYearly := g18, fListOrEmpty := f19, gListOrEmpty := g19, fIsRow := f20, gIsRow := g20, fRefuseRows := f21, gRefuseRows := g21, fLawCell := f22, gLawCell := g22, fLawWhole := f23, gLawWhole := g23, fLawOdd := f24, gLawOdd := g24, fLawWeek := f25, gLawWeek := g25, fLawYearly := f26, gLawYearly := g26, fLawRows := f27, gLawRows := g27, fLawPair := f28, gLawPair := g28, fLawDue := f29, gLawDue := g29, fLawAlone := f30, gLawAlone := g30, fPatternInit := f31, gPatternInit := g31, fPatternBeforeYear := f32, gPatternBeforeYear := g32, fPatternBefore := f33, gPatternBefore := g33, fTableShift := f34, gTableShift := g34, fTableInit := f35, gTableInit := _, fLawTable := f36, gLawTable := g36, fLawPattern := f37, gLawPattern := g37, fLawSame := f38, gLawSame := g38, fPatternIsFree := f39, gPatternIsFree := g39, fTableIsFree := f40, gTableIsFree := g40, fLaw := fa, gLaw := _, cAdrift := C_Adrift, cCourtError := C_CourtError, cFull := C_Full, cNoAct := C_NoAct, cNoDay := C_NoDay, cNoName := C_NoName, cNoRow := C_NoRow, cNoRule := C_NoRule, cNoTable := C_NoTable, cNoTerm := C_NoTerm, cParted := C_Parted, cPattern := C_Pattern, cRing := C_Ring, cTable := C_Table, cTwice := C_Twice, cUnfit := C_Unfit, tWORDS := A_WORDS } := {
    dIsWhole := d0,
    dLongBefore := d1,
    dFirstWeek := d2,
    dYearOf := d3,
    dWeekday := d4,
    dDateOf := d5,
    dIsStretchOf := d6,
    dPlace := d7,
    dJoined := d8,
    dLaidOver := d9,
    dOverlay := d10,
    dDayOfYear := d11,
    dIsFreeWithin := d12,
    dCountedUp := d13,
    dNoTableInit := d14,
    dIsWeekday := d15,
    dRefuseWeek := d16,
    dIsYearly := d17,
    dRefuseYearly := d18,
    dListOrEmpty := d19,
    dIsRow := d20,
    dRefuseRows := d21,
    dLawCell := d22,
    dLawWhole := d23,
    dLawOdd := d24,
    dLawWeek := d25,
    dLawYearly := d26,
    dLawRows := d27,
    dLawPair := d28,
    dLawDue := d29,
    dLawAlone := d30,
    dPatternInit := d31,
    dPatternBeforeYear := d32,
    dPatternBefore := d33,
    dTableShift := d34,
    dTableInit := ⟨F35, b35, t35⟩,
    dLawTable := d36,
    dLawPattern := d37,
    dLawSame := d38,
    dPatternIsFree := d39,
    dTableIsFree := d40,
    dLaw := ⟨F41, PySem.W.mg_of X G a41, b41⟩,
    m_Adrift := PySem.W.mg_of X G ca_Adrift,
    m_CourtError := PySem.W.mg_of X G ca_CourtError,
    b_CourtError := xb_of cb_CourtError,
    m_Full := PySem.W.mg_of X G ca_Full,
    m_NoAct := PySem.W.mg_of X G ca_NoAct,
    m_NoDay := PySem.W.mg_of X G ca_NoDay,
    m_NoName := PySem.W.mg_of X G ca_NoName,
    m_NoRow := PySem.W.mg_of X G ca_NoRow,
    m_NoRule := PySem.W.mg_of X G ca_NoRule,
    m_NoTable := PySem.W.mg_of X G ca_NoTable,
    x_NoTable := xa_of cx_NoTable,
    n_NoTable := cn_NoTable,
    k_NoTable := ck_NoTable,
    m_NoTerm := PySem.W.mg_of X G ca_NoTerm,
    m_Parted := PySem.W.mg_of X G ca_Parted,
    m_Pattern := PySem.W.mg_of X G ca_Pattern,
    c_Pattern := cls_of cc_Pattern,
    k_Pattern := mk_of cm_Pattern,
    n_Pattern := cn_Pattern,
    t_dPatternBeforeYear := meth_of ct_dPatternBeforeYear,
    t_dPatternBefore := meth_of ct_dPatternBefore,
    t_dPatternIsFree := meth_of ct_dPatternIsFree,
    m_Ring := PySem.W.mg_of X G ca_Ring,
    m_Table := PySem.W.mg_of X G ca_Table,
    c_Table := cls_of cc_Table,
    k_Table := mk_of cm_Table,
    n_Table := cn_Table,
    t_dTableShift := meth_of ct_dTableShift,
    t_dTableIsFree := meth_of ct_dTableIsFree,
    m_Twice := PySem.W.mg_of X G ca_Twice,
    m_Unfit := PySem.W.mg_of X G ca_Unfit,
    r_NoTable := xr_of cr_NoTable,
    h_NoTable_CourtError := beq_iff_eq.mp ch_NoTable_CourtError,
    h_NoTable_NoTable := beq_iff_eq.mp ch_NoTable_NoTable,
    n_ValueError := PySem.W.mg_none_of X G z_ValueError,
    n_any := PySem.W.mg_none_of X G z_any,
    n_bool := PySem.W.mg_none_of X G z_bool,
    n_enumerate := PySem.W.mg_none_of X G z_enumerate,
    n_int := PySem.W.mg_none_of X G z_int,
    n_isinstance := PySem.W.mg_none_of X G z_isinstance,
    n_len := PySem.W.mg_none_of X G z_len,
    n_list := PySem.W.mg_none_of X G z_list,
    n_min := PySem.W.mg_none_of X G z_min,
    n_range := PySem.W.mg_none_of X G z_range,
    n_str := PySem.W.mg_none_of X G z_str,
    n_tuple := PySem.W.mg_none_of X G z_tuple,
    g_MOST_WEEKDAYS := ⟨_, PySem.W.mg_of X G q_MOST_WEEKDAYS⟩,
    g_MOST_YEARLY := ⟨_, PySem.W.mg_of X G q_MOST_YEARLY⟩,
    g_MOST_YEARLY_DAYS := ⟨_, PySem.W.mg_of X G q_MOST_YEARLY_DAYS⟩,
    g_SHORT_YEAR := ⟨_, PySem.W.mg_of X G q_SHORT_YEAR⟩,
    g_LONG_YEAR := ⟨_, PySem.W.mg_of X G q_LONG_YEAR⟩,
    g_MOST_ROWS := ⟨_, PySem.W.mg_of X G q_MOST_ROWS⟩,
    g_MOST_ROW_DAYS := ⟨_, PySem.W.mg_of X G q_MOST_ROW_DAYS⟩,
    g_WORDS := PySem.W.mg_of X G q_WORDS, s_WORDS := fun H => .inr ⟨_, _, _, lt_WORDS, rfl, rfl, by show 2 ≤ sizeLine; rw [sizeLine_eq]; decide, .cons ⟨_, rfl⟩ (.cons ⟨_, rfl⟩ (.nil))⟩ }
  exact ⟨_, fun s v => .of_eq rfl, fun base _ _ => okLaw T⟩
theorem walk {l : PySem.W.OpenLaw} {q : Program} {loose : List Str} {XP : (Str → Option Value) → Heap → Prop} {YP : World → Heap → Prop} {d : DefRec} {K : Params → PySem.W.Frag} (hn : l.most = some 63) (hdf : d.params.defaults = [])
    (hY : ∀ (w : World) (h : Heap), YP w h → (K w.params).In h)
    (F : ∀ (w : World) (mg : Str → Option Value) (fa : Addr) (h : Heap), (K w.params).In h → h.Ns mainGlobals mg → mg d.name = some (.ref fa) →
      ∃ fd : FuncData, (∀ (s : Shared) (u : Value), BindsTo s fd ⟨[u], []⟩ [("_law_script", u)]) ∧ ∀ base : Heap, (K w.params).In base → base.Ns mainGlobals mg → FnOk l.prog w (K w.params) mg base CX0 10 fa fd ["_law_script"] (spLaw (K w.params))) :
    PySem.W.WalkO q loose XP YP l.row.toRowW d [] (fun f vs => PySem.call f vs) :=
  L2.walk_of (n := 63) (k := 10) (x := "_law_script") (CX := fun _ => CX0) (sp := fun w => spLaw (K w.params)) hn (by decide) hdf ⟨rfl, by decide, by decide⟩ hY F (fun _ _ a ns hl _ hS => ⟨a, ns, rfl, hS, hl, fun _ => rfl⟩) fun _ _ _ _ _ z => z
end K27
noncomputable def PySem.W.Fast.tw8559139860496073343 : Unit := ()
noncomputable def PySem.W.Fast.tw10037791909321280922 : Unit := ()
noncomputable def PySem.W.Fast.tw15110646689300096491 : Unit := ()
noncomputable def PySem.W.Fast.tw8527693936233284432 : Unit := ()
noncomputable def PySem.W.Fast.tw4569465553230776760 : Unit := ()
noncomputable def PySem.W.Fast.tw13938355019139849530 : Unit := ()
noncomputable def PySem.W.Fast.tw2240636903445746710 : Unit := ()
noncomputable def PySem.W.Fast.tw16425504340833756469 : Unit := ()
noncomputable def PySem.W.Fast.tw16819341360369942750 : Unit := ()
noncomputable def PySem.W.Fast.tw9093225735224669572 : Unit := ()
noncomputable def PySem.W.Fast.tw2305685999487008884 : Unit := ()
noncomputable def PySem.W.Fast.tw6126382099895854606 : Unit := ()
noncomputable def PySem.W.Fast.tw16959458054444514968 : Unit := ()
noncomputable def PySem.W.Fast.tw16146085551488365707 : Unit := ()
noncomputable def PySem.W.Fast.tw16245051983500681071 : Unit := ()
noncomputable def PySem.W.Fast.tw12765847350743687186 : Unit := ()
noncomputable def PySem.W.Fast.tw14652051319340565881 : Unit := ()
noncomputable def PySem.W.Fast.tw8214860410489214473 : Unit := ()
noncomputable def PySem.W.Fast.tw15320134642971068858 : Unit := ()
noncomputable def PySem.W.Fast.tw1902772277443714913 : Unit := ()
noncomputable def PySem.W.Fast.tw10663627591058516885 : Unit := ()
noncomputable def PySem.W.Fast.tw12351439729710903032 : Unit := ()
noncomputable def PySem.W.Fast.tw8207394324161396522 : Unit := ()
noncomputable def PySem.W.Fast.tw2718543177293693512 : Unit := ()
noncomputable def PySem.W.Fast.tw8839204279094930366 : Unit := ()
noncomputable def PySem.W.Fast.tw1907630937509217312 : Unit := ()
noncomputable def PySem.W.Fast.tw18076646601424804756 : Unit := ()
noncomputable def PySem.W.Fast.tw9680649805479814353 : Unit := ()
noncomputable def PySem.W.Fast.tw17918370676039367536 : Unit := ()
noncomputable def PySem.W.Fast.tw12333040789317360032 : Unit := ()
noncomputable def PySem.W.Fast.tw14058971822823611797 : Unit := ()
noncomputable def PySem.W.Fast.tw6310769459078342898 : Unit := ()
noncomputable def PySem.W.Fast.tw2532402649616110491 : Unit := ()
noncomputable def PySem.W.Fast.tw11510002912867331928 : Unit := ()
noncomputable def PySem.W.Fast.tw15324267083220672575 : Unit := ()
noncomputable def PySem.W.Fast.tw15086999837904598930 : Unit := ()
noncomputable def PySem.W.Fast.tw4343282443873395902 : Unit := ()
noncomputable def PySem.W.Fast.tw9607452239251364945 : Unit := ()
noncomputable def PySem.W.Fast.tw1996471160566878111 : Unit := ()
noncomputable def PySem.W.Fast.tw15043191519098942630 : Unit := ()
noncomputable def PySem.W.Fast.tw17092752875368100799 : Unit := ()
noncomputable def PySem.W.Fast.tw6975272576695632999 : Unit := ()
noncomputable def PySem.W.Fast.tw6380947160562365442 : Unit := ()
noncomputable def PySem.W.Fast.tw2478345346167341765 : Unit := ()
noncomputable def PySem.W.Fast.tw4903020709508218672 : Unit := ()
noncomputable def PySem.W.Fast.tw6790401584876000280 : Unit := ()
noncomputable def PySem.W.Fast.tw14074990534992858275 : Unit := ()
noncomputable def PySem.W.Fast.tw8573762086661705862 : Unit := ()
noncomputable def PySem.W.Fast.tw18191753046535885883 : Unit := ()
noncomputable def PySem.W.Fast.tw13272924227460115939 : Unit := ()
noncomputable def PySem.W.Fast.tw9766347237681780007 : Unit := ()
noncomputable def PySem.W.Fast.tw8017506652376529981 : Unit := ()
noncomputable def PySem.W.Fast.tw8994671094054896836 : Unit := ()
noncomputable def PySem.W.Fast.tw2138823942642256900 : Unit := ()
noncomputable def PySem.W.Fast.tw10701847234052146617 : Unit := ()
noncomputable def PySem.W.Fast.tw17643343173896269285 : Unit := ()
noncomputable def PySem.W.Fast.tw17371997526919544697 : Unit := ()
noncomputable def PySem.W.Fast.tw17558822083973778556 : Unit := ()
noncomputable def PySem.W.Fast.tw3291554156398666935 : Unit := ()
noncomputable def PySem.W.Fast.tw10625008780780811008 : Unit := ()
noncomputable def PySem.W.Fast.tw15368832240754252050 : Unit := ()
noncomputable def PySem.W.Fast.tw3121899573802382234 : Unit := ()
noncomputable def PySem.W.Fast.tw11802473199485393758 : Unit := ()
noncomputable def PySem.W.Fast.tw14134062565994268440 : Unit := ()
noncomputable def PySem.W.Fast.tw12922626312605544657 : Unit := ()
noncomputable def PySem.W.Fast.tw6676819700973757124 : Unit := ()
noncomputable def PySem.W.Fast.tw16369752102829296114 : Unit := ()
noncomputable def PySem.W.Fast.tw2717787660701375306 : Unit := ()
noncomputable def PySem.W.Fast.tw7633249035517742909 : Unit := ()
noncomputable def PySem.W.Fast.tw7256127106838017965 : Unit := ()
noncomputable def PySem.W.Fast.tw2287149994029004810 : Unit := ()
noncomputable def PySem.W.Fast.tw7376423342204051046 : Unit := ()
noncomputable def PySem.W.Fast.tw11206720695751761095 : Unit := ()
noncomputable def PySem.W.Fast.tw11752367814007073265 : Unit := ()
noncomputable def PySem.W.Fast.tw2133717693838302834 : Unit := ()
noncomputable def PySem.W.Fast.tw17158244441292465816 : Unit := ()
noncomputable def PySem.W.Fast.tw8067903074963985590 : Unit := ()
noncomputable def PySem.W.Fast.tw11469805349038299171 : Unit := ()
noncomputable def PySem.W.Fast.tw11371384067690973023 : Unit := ()
noncomputable def PySem.W.Fast.tw5537947269043159855 : Unit := ()
noncomputable def PySem.W.Fast.tw7088132059641275178 : Unit := ()
noncomputable def PySem.W.Fast.tw12888600380148493585 : Unit := ()
noncomputable def PySem.W.Fast.tw4867339691768174474 : Unit := ()
noncomputable def PySem.W.Fast.tw13438744915237250848 : Unit := ()
noncomputable def PySem.W.Fast.tw1962587031289091465 : Unit := ()
noncomputable def PySem.W.Fast.tw3875198942111329124 : Unit := ()
noncomputable def PySem.W.Fast.tw17598169886362630342 : Unit := ()
noncomputable def PySem.W.Fast.tw433394492790427932 : Unit := ()
noncomputable def PySem.W.Fast.tw10310687201755657497 : Unit := ()
noncomputable def PySem.W.Fast.tw3373912829566783120 : Unit := ()
noncomputable def PySem.W.Fast.tw15179744827010024624 : Unit := ()
noncomputable def PySem.W.Fast.tw5245064165960029669 : Unit := ()
noncomputable def PySem.W.Fast.tw9631717410305773140 : Unit := ()
noncomputable def PySem.W.Fast.tw1823786415219396919 : Unit := ()
noncomputable def PySem.W.Fast.tw1333725502599701878 : Unit := ()
noncomputable def PySem.W.Fast.tw18406341796699465318 : Unit := ()
noncomputable def PySem.W.Fast.tw4504626809922740685 : Unit := ()
noncomputable def PySem.W.Fast.tw7197259279680934088 : Unit := ()
noncomputable def PySem.W.Fast.tw17934340574842267685 : Unit := ()
noncomputable def PySem.W.Fast.tw11578628736496799159 : Unit := ()
noncomputable def PySem.W.Fast.tw8296153393182954452 : Unit := ()
open PySem PySem.W PyProof.Rows
set_option maxRecDepth 100000 in
set_option maxHeartbeats 0 in
theorem PySem.Challenge.cw_termcourt_k27_tables_refused_holds : PySem.Challenge.rw_termcourt_k27_tables_refused.Holds := by
  w_on; o_law; k_head; (case hw => w_witness2)
  k_fill
  refine K27.walk (l := PySem.Challenge.rw_termcourt_k27_tables_refused) rfl rfl (fun w h Y => PySem.W.kIn_of Y) ?F
  case F =>
    intro w mg fa h KX G hmg
    refine' K27.all_mk KX G hmg ?ca_Adrift ?ca_CourtError ?ca_Full ?ca_NoAct ?ca_NoDay ?ca_NoName ?ca_NoRow ?ca_NoRule ?ca_NoTable ?ca_NoTerm ?ca_Parted ?ca_Pattern ?ca_Ring ?ca_Table ?ca_Twice ?ca_Unfit ?p0 ?p1 ?p2 ?p3 ?p4 ?p5 ?p6 ?p7 ?p8 ?p9 ?p10 ?p11 ?p12 ?p13 ?p14 ?p15 ?p16 ?p17 ?p18 ?p19 ?p20 ?p21 ?p22 ?p23 ?p24 ?p25 ?p26 ?p27 ?p28 ?p29 ?p30 ?p31 ?p32 ?p33 ?p34 ?a35 ?t35 ?l35 ?c35 ?k35 ?pk35 ?p36 ?p37 ?p38 ?p39 ?p40 ?a41 ?l41 ?c41 ?k41 ?z_ValueError ?z_any ?z_bool ?z_enumerate ?z_int ?z_isinstance ?z_len ?z_list ?z_min ?z_range ?z_str ?z_tuple ?q_MOST_WEEKDAYS ?q_MOST_YEARLY ?q_MOST_YEARLY_DAYS ?q_SHORT_YEAR ?q_LONG_YEAR ?q_MOST_ROWS ?q_MOST_ROW_DAYS ?q_WORDS ?lt_WORDS ?cb_CourtError ?cx_NoTable ?cn_NoTable ?ck_NoTable ?cc_Pattern ?cm_Pattern ?cn_Pattern ?ct_dPatternBeforeYear ?ct_dPatternBefore ?ct_dPatternIsFree ?cc_Table ?cm_Table ?cn_Table ?ct_dTableShift ?ct_dTableIsFree ?cr_NoTable ?ch_NoTable_CourtError ?ch_NoTable_NoTable
    (case ca_Adrift | ca_CourtError | ca_Full | ca_NoAct | ca_NoDay | ca_NoName | ca_NoRow | ca_NoRule | ca_NoTable | ca_NoTerm | ca_Parted | ca_Pattern | ca_Ring | ca_Table | ca_Twice | ca_Unfit => k_is)
    (case p0 | p1 | p2 | p3 | p4 | p5 | p6 | p7 | p8 | p9 | p10 | p11 | p12 | p13 => refine' K27.pd_of ?pa ?pl ?pc ?pk; (case pa | pl | pc | pk => k_is))
    (case p14 => refine' K27.pm_of ?pa ?pt ?pl ?pc ?pk; (case pa | pt | pl | pc | pk => k_is))
    (case p15 | p16 | p17 | p18 | p19 | p20 | p21 | p22 | p23 | p24 | p25 | p26 | p27 | p28 | p29 | p30 => refine' K27.pd_of ?pa ?pl ?pc ?pk; (case pa | pl | pc | pk => k_is))
    (case p31 | p32 | p33 | p34 => refine' K27.pm_of ?pa ?pt ?pl ?pc ?pk; (case pa | pt | pl | pc | pk => k_is))
    (case a35 | t35 | l35 | c35 | k35 => k_is)
    (case pk35 => intros; kernel_rfl)
    (case p36 | p37 | p38 => refine' K27.pd_of ?pa ?pl ?pc ?pk; (case pa | pl | pc | pk => k_is))
    (case p39 | p40 => refine' K27.pm_of ?pa ?pt ?pl ?pc ?pk; (case pa | pt | pl | pc | pk => k_is))
    (case a41 | l41 | c41 | k41 | z_ValueError | z_any | z_bool | z_enumerate | z_int | z_isinstance | z_len | z_list | z_min | z_range | z_str | z_tuple | q_MOST_WEEKDAYS | q_MOST_YEARLY | q_MOST_YEARLY_DAYS | q_SHORT_YEAR | q_LONG_YEAR | q_MOST_ROWS | q_MOST_ROW_DAYS | q_WORDS | lt_WORDS => k_is)
    (case cb_CourtError | cx_NoTable | cn_NoTable | ck_NoTable | cc_Pattern | cm_Pattern | cn_Pattern | ct_dPatternBeforeYear | ct_dPatternBefore | ct_dPatternIsFree | cc_Table | cm_Table | cn_Table | ct_dTableShift | ct_dTableIsFree | cr_NoTable | ch_NoTable_CourtError | ch_NoTable_NoTable => kernel_rfl)



