import PyProof.Rows.All
import Wide.All
import OpenK.AllK
import Wide.FinOn
import Lean
import PyProof.EqAt
import PyProof.EqKinds
import PyProof.TupleCall
import PySem.Challenge.RW_termcourt_k53_anew_and_over
set_option Elab.async false
set_option linter.all false
set_option maxRecDepth 100000
/-! THE HAND LAYER, for ints, bools, texts, own classes, LISTS and tuples (index, slices, in, append, pop ..), calls, loops. Paste it whole ahead of your own text; what your proof does not reach may be deleted. -/
namespace L2
open PySem PySem.Spec PyProof.Rows
noncomputable abbrev Key := Sum Int Str
noncomputable def keyIs : Key → Value → Bool
 | .inl k, v => Value.isInt k v
 | .inr x, v => Value.isStrOf x v
noncomputable def keyH (w : World) : Key → Int
 | .inl k => hashInt k
 | .inr x => hashStr w x
theorem keyIs_shape : ∀ {k : Key} {v : Value}, keyIs k v = true → (∃ i t, k = Sum.inl i ∧ v = Value.int i t) ∨ (∃ x t, k = Sum.inr x ∧ v = Value.str x t)
 | .inl i, v, h => by
  obtain ⟨t, e⟩ := Value.isInt_shape (k := i) (v := v) h
  exact .inl ⟨i, t, rfl, e⟩
 | .inr x, v, h => by
  obtain ⟨t, e⟩ := Value.isStrOf_shape (x := x) (v := v) h
  exact .inr ⟨x, t, rfl, e⟩
theorem keyIs_int (i : Int) (t : Tok) : keyIs (.inl i) (.int i t) = true := by simp [keyIs, Value.isInt]
theorem keyIs_str (x : Str) (t : Tok) : keyIs (.inr x) (.str x t) = true := by simp [keyIs, Value.isStrOf]
theorem key_ll (a b : Int) : decide ((Sum.inl a : Key) = Sum.inl b) = (a == b) := by
 by_cases e : a = b
 ·subst e; simp
 ·have h : ¬ (Sum.inl a : Key) = Sum.inl b := fun q => e (Sum.inl.inj q)
  rw [decide_eq_false h]
  exact (beq_eq_false_iff_ne.mpr e).symm
theorem key_rr (a b : Str) : decide ((Sum.inr a : Key) = Sum.inr b) = decide (a = b) := by
 by_cases e : a = b
 ·subst e; simp
 ·have h : ¬ (Sum.inr a : Key) = Sum.inr b := fun q => e (Sum.inr.inj q)
  rw [decide_eq_false h, decide_eq_false e]
theorem key_lr (a : Int) (b : Str) : decide ((Sum.inl a : Key) = Sum.inr b) = false := decide_eq_false (fun q => nomatch q)
theorem key_rl (a : Str) (b : Int) : decide ((Sum.inr a : Key) = Sum.inl b) = false := decide_eq_false (fun q => nomatch q)
noncomputable def mixKind (prog : Program) (w : World) : PySem.KeyKind prog w Key where
 is := keyIs
 hash := keyH w
 inj := fun v a b ha hb => by
  rcases keyIs_shape ha with ⟨i, t, rfl, rfl⟩ | ⟨x, t, rfl, rfl⟩
  ·rcases keyIs_shape hb with ⟨j, u, rfl, e⟩ | ⟨y, u, rfl, e⟩
   ·injection e with e1 _; rw [e1]
   ·exact nomatch e
  ·rcases keyIs_shape hb with ⟨j, u, rfl, e⟩ | ⟨y, u, rfl, e⟩
   ·exact nomatch e
   ·injection e with e1 _; rw [e1]
 byValue := fun k v h => by
  rcases keyIs_shape h with ⟨i, t, rfl, rfl⟩ | ⟨x, t, rfl, rfl⟩ <;> rfl
 pyHash := fun hv h => by
  rcases keyIs_shape hv with ⟨i, t, rfl, rfl⟩ | ⟨x, t, rfl, rfl⟩
  ·exact wpAny_pyHash_int h
  ·exact wpAny_pyHash_str h
 eqBool := fun hu hv h => by
  rcases keyIs_shape hu with ⟨i, t, rfl, rfl⟩ | ⟨x, t, rfl, rfl⟩
  ·rcases keyIs_shape hv with ⟨j, u, rfl, rfl⟩ | ⟨y, u, rfl, rfl⟩
   ·rw [key_ll] at h; exact wpAny_eqBool_int h
   ·rw [key_lr] at h; exact SeqAt.EqAt.int_str i t y u _ _ _ _ h
  ·rcases keyIs_shape hv with ⟨j, u, rfl, rfl⟩ | ⟨y, u, rfl, rfl⟩
   ·rw [key_rl] at h; exact SeqAt.EqAt.str_int x t j u _ _ _ _ h
   ·rw [key_rr] at h; exact wpAny_eqBool_str h
 «strs» := fun k x t v h => by
  rcases keyIs_shape h with ⟨i, u, rfl, e⟩ | ⟨y, u, rfl, e⟩
  ·exact nomatch e
  ·injection e with e1 _
   subst e1
   cases v <;> rfl
theorem mixKind_int (prog : Program) (w : World) (i : Int) (t : Tok) : (mixKind prog w).is (.inl i) (.int i t) = true := keyIs_int i t
theorem mixKind_str (prog : Program) (w : World) (x : Str) (t : Tok) : (mixKind prog w).is (.inr x) (.str x t) = true := keyIs_str x t
end L2
namespace L2
open PySem PySem.Spec PyProof.Rows
inductive V where
 | non | bl (b : Bool) | int (i : Int) | str (x : Str) | byt (b : Array UInt8) | flt (b : UInt64) | ref (a : Addr) | ty (n : String)
 deriving DecidableEq
noncomputable def RelV : V → Value → Prop
 | .non, u => u = Value.none
 | .bl b, u => u = Value.bool b
 | .int i, u => ∃ t, u = Value.int i t
 | .str x, u => ∃ t, u = Value.str x t
 | .byt b, u => ∃ t, u = Value.bytes b t
 | .flt b, u => ∃ t, u = Value.float b t
 | .ref a, u => u = Value.ref a
 | .ty n, u => u = Value.type n
noncomputable abbrev Vals : List V → List Value → Prop := Paired RelV
theorem Vals.length {xs : List V} {us : List Value} (r : Vals xs us) : xs.length = us.length := Paired.length r
theorem Vals.get : ∀ {xs : List V} {us : List Value} {i : Nat} {x : V}, Vals xs us → xs[i]? = some x → ∃ u, us[i]? = some u ∧ RelV x u
 | _, _, _, _, .nil, e => by simp at e
 | _, _, 0, _, .cons r _, e => by simp at e; subst e; exact ⟨_, rfl, r⟩
 | _, _, i + 1, x, .cons _ t, e => by
  obtain ⟨u, h1, h2⟩ := Vals.get (i := i) (x := x) t (by simpa using e)
  exact ⟨u, by simpa using h1, h2⟩
theorem Vals.set {x : V} {u : Value} (r : RelV x u) : ∀ {xs : List V} {us : List Value} (i : Nat), Vals xs us → Vals (xs.set i x) (us.set i u)
 | _, _, _, .nil => .nil
 | _, _, 0, .cons _ t => .cons r t
 | _, _, i + 1, .cons q t => .cons q (Vals.set r i t)
theorem Vals.append : ∀ {xs ys : List V} {us ws : List Value}, Vals xs us → Vals ys ws → Vals (xs ++ ys) (us ++ ws)
 | _, _, _, _, .nil, s => s
 | _, _, _, _, .cons r t, s => .cons r (Vals.append t s)
theorem Vals.take : ∀ {xs : List V} {us : List Value} (n : Nat), Vals xs us → Vals (xs.take n) (us.take n)
 | _, _, 0, _ => .nil
 | _, _, _ + 1, .nil => .nil
 | _, _, n + 1, .cons r t => .cons r (Vals.take n t)
theorem Vals.drop : ∀ {xs : List V} {us : List Value} (n : Nat), Vals xs us → Vals (xs.drop n) (us.drop n)
 | _, _, 0, r => r
 | _, _, _ + 1, .nil => .nil
 | _, _, n + 1, .cons _ t => Vals.drop n t
noncomputable def RelO : Option V → Option Value → Prop
 | some v, some u => RelV v u
 | none, none => True
 | _, _ => False
noncomputable def KV {κ : Type} : List (κ × V) → List (κ × Value) → Prop := Paired fun (p : κ × V) (q : κ × Value) => p.1 = q.1 ∧ RelV p.2 q.2
noncomputable def kV : Key → V
 | .inl i => .int i
 | .inr x => .str x
inductive HO where
 /-- a list -/
 | lst (xs : List V)
 /-- a tuple (never changes) -/
 | tup (xs : List V)
 /-- a dict whose keys are ints and texts; one whose keys are tuples of ints and texts (the empty one is both) -/
 | dK (kvs : List (Key × V)) | dT (kvs : List (List Key × V))
 /-- a set of ints: its members, its size -/
 | set (S : Int → Bool) (n : Nat)
 /-- an instance of the class at C, its dict at dx, its attributes -/
 | ins (C dx : Addr) (fs : List (Str × V))
 /-- the dict of the instance at x -/
 | own (x : Addr)
 /-- the dict of an exception -/
 | xd (fs : List (Str × V))
 /-- a bound method, f of x -/
 | met (f x : Addr)
 /-- a range object lo, lo + 1, .. below hi -/
 | rng (lo hi : Int)
 /-- a thing that is known to the object (the script; a dict while a loop walks it): read, never written while it is so -/
 | frz (o : Obj) (u : HO)
 /-- a code object's table -/
 | tbl (ps : Array Value)
 /-- any other thing, by what is true of its one object (a def of one's own: SetO a S n := HO.ext fun h => ..) -/
 | ext (φ : Heap → Prop)
noncomputable abbrev Hp := Addr → Option HO
noncomputable def upd (H : Hp) (a : Addr) (o : HO) : Hp := fun b => if b = a then some o else H b
theorem qm {H : Hp} {a : Addr} {o : HO} : upd H a o a = some o := by unfold upd; rw [if_pos rfl]
theorem qr {H : Hp} {a b : Addr} {o : HO} (h : b ≠ a) : upd H a o b = H b := by unfold upd; rw [if_neg h]
theorem upd_upd {H : Hp} {a : Addr} {o u : HO} : upd (upd H a o) a u = upd H a u := by
 funext b; unfold upd; split <;> rfl
theorem ne_of {H : Hp} {a b : Addr} {o u : HO} (h : H a = some o) (h' : H b = some u) (d : o ≠ u) : a ≠ b := by
 intro e; subst e; rw [h] at h'; exact d (Option.some.inj h')
theorem ne_of_none {H : Hp} {a b : Addr} {o : HO} (h : H a = some o) (h' : H b = none) : a ≠ b := by
 intro e; subst e; rw [h] at h'; cases h'
section
variable (P : Program) (w : World)
noncomputable def ObjOk (H : Hp) (h : Heap) (a : Addr) : HO → Prop
 | .lst xs => xs.length ≤ sizeLine ∧ ∃ (its : List Value) (n : Nat), Vals xs its ∧ h.get? a = some { cls := .type "list", data := .seq its.toArray n }
 | .tup xs => xs.length ≤ sizeLine ∧ ∃ its : List Value, Vals xs its ∧ IsTup h a its.toArray
 | .dK kvs => kvs.length ≤ sizeLine ∧ (a == sysModules) = false ∧ ∃ vs, KV kvs vs ∧ h.DictOf (mixKind P w) a vs
 | .dT kvs => kvs.length ≤ sizeLine ∧ (a == sysModules) = false ∧ ∃ xs : List (List Key × Addr × Value),
   Paired (fun (p : List Key × V) (q : List Key × Addr × Value) => p.1 = q.1 ∧ H q.2.1 = some (.tup (p.1.map kV)) ∧ RelV p.2 q.2.2) kvs xs ∧
   ∃ o es ep, h.get? a = some o ∧ o.ExactDict ∧ o.data = .dict es ep ∧ es.toList = xs.map (entryOfKey (tupleKind (mixKind P w))) ∧ (xs.map (·.1)).Nodup
 | .set S n => h.SetOf (intKind P w) a S n
 | .ins C dx fs => H dx = some (.own a) ∧ fs.length ≤ 1000 ∧ dx ≠ a ∧ h.get? a = some (PySem.W.instObj C dx) ∧
   ∃ mA, h.Ns1 dx mA ∧ (∀ f, RelO (fs.lookup f) (mA f)) ∧ PySem.Within mA (fs.map (·.1))
 | .own _ => ∃ o, h.get? a = some o
 | .xd fs => ∃ mA, h.Ns1 a mA ∧ ∀ f, RelO (fs.lookup f) (mA f)
 | .rng lo hi => ∃ t u v, h.get? a = some { cls := .type "range", data := .fields #[.int lo t, .int hi u, .int 1 v] }
 | .frz o u => h.get? a = some o ∧ ObjOk H h a u
 | .tbl ps => h.get? a = some { cls := .none, data := .fields ps }
 | .met f x => h.get? a = some (PySem.W.methodObj (.ref f) (.ref x))
 | .ext φ => φ h ∧ (∃ o, h.get? a = some o) ∧ ∀ h1 h2 : Heap, φ h1 → (∀ o, h1.get? a = some o → h2.get? a = some o) → φ h2
noncomputable def HOk (H : Hp) (h : Heap) : Prop := ∀ a o, H a = some o → ObjOk P w H h a o
end
section
variable {P : Program} {w : World} {H H' : Hp} {h h' : Heap} {a : Addr} {o : HO}
theorem ObjOk.lt (x : ObjOk P w H h a o) : a < h.objs.size := by
 cases o with
 | lst xs => obtain ⟨_, _, _, _, e⟩ := x; exact Heap.lt_size e
 | tup xs => obtain ⟨_, _, _, p⟩ := x; exact p.lt
 | dK kvs => obtain ⟨_, _, _, _, o, _, _, e, _⟩ := x; exact Heap.lt_size e
 | dT kvs => obtain ⟨_, _, _, _, o, _, _, e, _⟩ := x; exact Heap.lt_size e
 | set S n => obtain ⟨o, _, _, _, e, _⟩ := x; exact Heap.lt_size e
 | ins C dx fs => obtain ⟨_, _, _, e, _⟩ := x; exact Heap.lt_size e
 | own y => obtain ⟨_, e⟩ := x; exact Heap.lt_size e
 | xd fs => obtain ⟨_, ⟨_, _, _, e, _⟩, _⟩ := x; exact Heap.lt_size e
 | rng lo hi => obtain ⟨_, _, _, e⟩ := x; exact Heap.lt_size e
 | frz ob u => obtain ⟨e, _⟩ := x; exact Heap.lt_size e
 | tbl ps => exact Heap.lt_size (show h.get? a = some _ from x)
 | met f y => exact Heap.lt_size (show h.get? a = some _ from x)
 | ext φ => obtain ⟨_, ⟨_, e⟩, _⟩ := x; exact Heap.lt_size e
theorem Paired.mapP {α β : Type} {F G : α → β → Prop} : ∀ {l₁ : List α} {l₂ : List β}, Paired F l₁ l₂ → (∀ a b, F a b → G a b) → Paired G l₁ l₂
 | _, _, .nil, _ => .nil
 | _, _, .cons r t, f => .cons (f _ _ r) (Paired.mapP t f)
theorem ObjOk.stay (x : ObjOk P w H h a o) (k : ∀ b u, (b = a ∨ H b = some (.own a)) → h.get? b = some u → h'.get? b = some u)
  (ho : ∀ b, H b = some (.own a) → H' b = some (.own a)) (ht : ∀ b xs, H b = some (.tup xs) → H' b = some (.tup xs)) : ObjOk P w H' h' a o := by
 induction o with
 | lst xs => obtain ⟨z, its, n, r, e⟩ := x; exact ⟨z, its, n, r, k _ _ (.inl rfl) e⟩
 | tup xs => obtain ⟨z, its, r, ob, e, c⟩ := x; exact ⟨z, its, r, ob, k _ _ (.inl rfl) e, c⟩
 | dK kvs => obtain ⟨z, y, vs, r, ob, es, ep, e, c⟩ := x; exact ⟨z, y, vs, r, ob, es, ep, k _ _ (.inl rfl) e, c⟩
 | dT kvs =>
  obtain ⟨z, y, xs, r, ob, es, ep, e, c⟩ := x
  exact ⟨z, y, xs, Paired.mapP r fun p q z => ⟨z.1, ht _ _ z.2.1, z.2.2⟩, ob, es, ep, k _ _ (.inl rfl) e, c⟩
 | set S n => obtain ⟨ob, es, ep, t, e, c⟩ := x; exact ⟨ob, es, ep, t, k _ _ (.inl rfl) e, c⟩
 | ins C dx fs =>
  obtain ⟨d, z, ne, e, mA, ⟨od, es, ep, e2, c⟩, r⟩ := x
  exact ⟨ho _ d, z, ne, k _ _ (.inl rfl) e, mA, ⟨od, es, ep, k _ _ (.inr d) e2, c⟩, r⟩
 | own y => obtain ⟨ob, e⟩ := x; exact ⟨ob, k _ _ (.inl rfl) e⟩
 | xd fs => obtain ⟨mA, ⟨od, es, ep, e, c⟩, r⟩ := x; exact ⟨mA, ⟨od, es, ep, k _ _ (.inl rfl) e, c⟩, r⟩
 | rng lo hi => obtain ⟨t, u, v, e⟩ := x; exact ⟨t, u, v, k _ _ (.inl rfl) e⟩
 | frz ob u ih => obtain ⟨e, q⟩ := x; exact ⟨k _ _ (.inl rfl) e, ih q⟩
 | tbl ps =>
  have e : h.get? a = some { cls := .none, data := .fields ps } := x
  show h'.get? a = some { cls := .none, data := .fields ps }
  exact k a _ (.inl rfl) e
 | met f y =>
  have e : h.get? a = some (PySem.W.methodObj (.ref f) (.ref y)) := x
  show h'.get? a = some (PySem.W.methodObj (.ref f) (.ref y))
  exact k a _ (.inl rfl) e
 | ext φ => obtain ⟨p, ⟨o, e⟩, st⟩ := x; exact ⟨st _ _ p fun o q => k _ _ (.inl rfl) q, ⟨o, k _ _ (.inl rfl) e⟩, st⟩
theorem HOk.lt (x : HOk P w H h) (e : H a = some o) : a < h.objs.size := (x a o e).lt
theorem HOk.fresh (x : HOk P w H h) (e : h.objs.size ≤ a) : H a = none := by
 cases q : H a with
 | none => rfl
 | some u => exact absurd (Nat.lt_of_lt_of_le (x.lt q) e) (Nat.lt_irrefl _)
theorem HOk.kept (x : HOk P w H h) (k : ∀ b u, h.get? b = some u → h'.get? b = some u) : HOk P w H h' := fun a o e =>
 (x a o e).stay (fun b u _ q => k b u q) (fun _ q => q) fun _ _ q => q
theorem HOk.laid (x : HOk P w H h) (k : ∀ b u, h.get? b = some u → h'.get? b = some u) (hp : h.objs.size ≤ a) (new : ObjOk P w (upd H a o) h' a o) : HOk P w (upd H a o) h' := fun b u e => by
 have hn := x.fresh hp
 by_cases hb : b = a
 ·subst hb; rw [qm] at e; cases e; exact new
 ·rw [qr hb] at e
  exact (x b u e).stay (fun c v _ q => k c v q) (fun c q => by rw [qr (ne_of_none q hn)]; exact q) fun c xs q => by rw [qr (ne_of_none q hn)]; exact q
end
noncomputable def Rd (H : Hp) (a : Addr) (u : HO) : Prop := H a = some u ∨ ∃ o, H a = some (.frz o u)
theorem Rd.ok {P : Program} {w : World} {H : Hp} {h : Heap} {a : Addr} {u : HO} (r : Rd H a u) (x : HOk P w H h) : ObjOk P w H h a u := by
 rcases r with r | ⟨o, r⟩
 ·exact x a u r
 ·obtain ⟨_, q⟩ := x a _ r
  exact q
noncomputable def Mut : Option HO → Prop
 | some (.lst _) => True
 | some (.dK _) => True
 | some (.dT _) => True
 | some (.set _ _) => True
 | some (.ins _ _ _) => True
 | some (.ext _) => True
 | _ => False
section
variable {P : Program} {w : World} {H : Hp} {h h' : Heap} {x e : Addr} {o' : HO}
theorem HOk.write (ok : HOk P w H h) (mu : Mut (H x)) (he : e = x ∨ H e = some (.own x)) (k : ∀ b u, b ≠ e → h.get? b = some u → h'.get? b = some u) (heo : ∃ u, h'.get? e = some u)
  (new : ObjOk P w (upd H x o') h' x o') : HOk P w (upd H x o') h' := fun b u q => by
 have nown : ∀ c y, H c = some (.own y) → c ≠ x := fun c y r z => by subst z; rw [r] at mu; exact mu
 have ntup : ∀ c xs, H c = some (.tup xs) → c ≠ x := fun c xs r z => by subst z; rw [r] at mu; exact mu
 by_cases hb : b = x
 ·subst hb; rw [qm] at q; cases q; exact new
 ·rw [qr hb] at q
  by_cases hbe : b = e
  ·have q' : H b = some (.own x) := by
    rcases he with z | z
    ·exact absurd (hbe.trans z) hb
    ·rw [hbe]; exact z
   rw [q] at q'; cases q'
   obtain ⟨v, hv⟩ := heo
   exact ⟨v, by rw [hbe]; exact hv⟩
  ·refine (ok b u q).stay (fun c v hc r => k c v ?_ r) (fun c r => by rw [qr (nown c b r)]; exact r) fun c xs r => by rw [qr (ntup c xs r)]; exact r
   rcases hc with rfl | hc
   ·exact hbe
   ·rintro rfl
    rcases he with z | z
    ·exact nown c b hc z
    ·rw [hc] at z; cases z; exact hb rfl
end
structure Un (fs ex : List Addr) (H H' : Hp) (h h' : Heap) : Prop where
 keep : ∀ b o, h.get? b = some o → H b = none → b ∉ fs → b ∉ ex → h'.get? b = some o
 slot : ∀ b o, h.get? b = some o → H b = none → b ∈ fs → b ∉ ex → ∃ sl, h'.get? b = some { o with slots := sl }
 free : ∀ b o, h.get? b = some o → H b = none → b ∉ ex → H' b = none
 there : ∀ b o, h.get? b = some o → b ∉ ex → ∃ o', h'.get? b = some o'
 tups : ∀ b xs, H b = some (.tup xs) → H' b = some (.tup xs)
 frzs : ∀ b o u, H b = some (.frz o u) → H' b = some (.frz o u)
 tbls : ∀ b ps, H b = some (.tbl ps) → ∃ more, H' b = some (.tbl (ps ++ more))
section
variable {fs fs' ex ex' : List Addr} {H H1 H2 : Hp} {h h1 h2 h' : Heap} {a x e : Addr} {o : HO}
theorem Un.any (u : Un fs ex H H1 h h1) {b : Addr} {ob : Obj} (q : h.get? b = some ob) (n : H b = none) (hx : b ∉ ex) : ∃ sl, h1.get? b = some { ob with slots := sl } := by
 by_cases hb : b ∈ fs
 ·exact u.slot b ob q n hb hx
 ·exact ⟨ob.slots, u.keep b ob q n hb hx⟩
theorem Un.kept (k : ∀ b u, h.get? b = some u → h'.get? b = some u) : Un fs ex H H h h' :=
 ⟨fun b ob q _ _ _ => k b ob q, fun b ob q _ _ _ => ⟨ob.slots, k b ob q⟩, fun _ _ _ n _ => n, fun b ob q _ => ⟨ob, k b ob q⟩, fun _ _ q => q, fun _ _ _ q => q, fun _ ps q => ⟨#[], by rw [q]; simp⟩⟩
theorem Un.refl : Un fs ex H H h h := Un.kept fun _ _ q => q
theorem Un.laid (k : ∀ b u, h.get? b = some u → h'.get? b = some u) (hp : h.objs.size ≤ a) (hn : H a = none) : Un fs ex H (upd H a o) h h' where
 keep := fun b u q _ _ _ => k b u q
 slot := fun b u q _ _ _ => ⟨u.slots, k b u q⟩
 free := fun b u q n _ => by rw [qr (Nat.ne_of_lt (Nat.lt_of_lt_of_le (Heap.lt_size q) hp))]; exact n
 there := fun b u q _ => ⟨u, k b u q⟩
 tups := fun b xs q => by rw [qr (ne_of_none q hn)]; exact q
 frzs := fun b u xs q => by rw [qr (ne_of_none q hn)]; exact q
 tbls := fun b ps q => ⟨#[], by rw [qr (ne_of_none q hn), q]; simp⟩
theorem Un.write (mu : Mut (H x)) (he : e = x ∨ H e = some (.own x)) (k : ∀ b u, b ≠ e → h.get? b = some u → h'.get? b = some u) (heo : ∃ u, h'.get? e = some u) : Un fs ex H (upd H x o) h h' := by
 have hx : ∀ b, H b = none → b ≠ x := fun b n z => by subst z; rw [n] at mu; exact mu
 have hb : ∀ b, H b = none → b ≠ e := fun b n z => by
  subst z
  rcases he with r | r
  ·exact hx b n r
  ·rw [n] at r; cases r
 have hm : ∀ b u, H b = some u → ¬ Mut (some u) → b ≠ x := fun b u q nm z => by subst z; rw [q] at mu; exact nm mu
 refine ⟨fun b u q n _ _ => k b u (hb b n) q, fun b u q n _ _ => ⟨u.slots, k b u (hb b n) q⟩, fun b u q n _ => by rw [qr (hx b n)]; exact n, fun b u q _ => ?_,
  fun b xs q => by rw [qr (hm b _ q fun z => z)]; exact q, fun b u xs q => by rw [qr (hm b _ q fun z => z)]; exact q, fun b ps q => ⟨#[], by rw [qr (hm b _ q fun z => z), q]; simp⟩⟩
 by_cases hbe : b = e
 ·subst hbe; exact heo
 ·exact ⟨u, k b u hbe q⟩
end
noncomputable def trk (h : Heap) (H : Hp) : List Addr := (List.range h.objs.size).filter fun a => (H a).isSome
noncomputable def hidT (h : Heap) (H : Hp) : Heap := PySem.W.hideAll h (trk h H)
theorem hidT_size (h : Heap) (H : Hp) : (hidT h H).objs.size = h.objs.size := PySem.W.hideAll_size _ _
theorem hidT_get {h : Heap} {H : Hp} {b : Addr} {o : Obj} (e : h.get? b = some o) (n : H b = none) : (hidT h H).get? b = some o :=
 PySem.W.hideAll_get _ e fun hm => by
  have q : (H b).isSome = true := (List.mem_filter.mp hm).2
  rw [n] at q; simp at q
theorem of_hidT {h : Heap} {H : Hp} {b : Addr} {o : Obj} (e : (hidT h H).get? b = some o) : h.get? b = some o ∧ H b = none := by
 have e' : h.get? b = some o := PySem.W.of_hideAll (trk h H) e
 refine ⟨e', ?_⟩
 cases q : H b with
 | none => rfl
 | some x =>
  have hm : b ∈ trk h H := List.mem_filter.mpr ⟨List.mem_range.mpr (Heap.lt_size e'), by simp [q]⟩
  have z : (hidT h H).get? b = none := PySem.W.hideAll_none (trk h H) hm
  rw [z] at e; cases e
noncomputable def allNews (g h : Heap) (L : Addr) : List (Addr × Obj) := (List.range h.objs.size).filterMap fun a => if a = L ∨ (g.get? a).isSome = true then none else (h.get? a).map fun o => (a, o)
noncomputable def rest (g h : Heap) (L d : Addr) : List (Addr × Obj) := (allNews g h L).filter fun p => decide (p.1 ≠ d)
end L2
namespace L2
open PySem PySem.Spec PyProof.Rows
structure Mod (K : PySem.W.Frag) (mg : Str → Option Value) (base : Heap) : Prop where
 kin : K.In base
 glob : base.Ns mainGlobals mg
 blt : ∃ mb, base.Ns builtinsNs mb ∧ ∀ x : Str, x ≠ "__name__" → mb x = bootBuiltins x
 nolimit : base.NoLimit
structure Cx where
 prog : Program
 w : World
 K : PySem.W.Frag
 mg : Str → Option Value
 base : Heap
 A : Around
 N : List Str
 s₀ : Shared
 H₀ : Hp
 env : Env
 outer : List Env
 stack : List Env
 ex : List Addr
 fn : Str → Bool
 calm : Bool
 pn : List (Addr × Obj)
 xe : Value → Shared → Prop
noncomputable def frs (l : List Env) : List Addr := l.filterMap (·.frame)
noncomputable abbrev Cx.fs (X : Cx) : List Addr := frs X.outer
noncomputable def Vis (sc : Scope) (x : Str) : Prop := sc.names.lookup x = some .local ∨ sc.names.lookup x = some .cell ∨ sc.names.lookup x = some .free
noncomputable def Loc (sc : Scope) (x : Str) : Prop := sc.names.lookup x = some .local ∨ sc.names.lookup x = some .cell
noncomputable def Look (env : Env) (h : Heap) (m : Str → Option Value) (x : Str) (u : Value) : Prop :=
 (env.kindOf x = some .local ∧ m x = some u) ∨ ((env.kindOf x = some .cell ∨ env.kindOf x = some .free) ∧ ∃ c, env.cells.lookup x = some c ∧ h.IsCell c (some u))
structure Cx.Ok (X : Cx) : Prop where
 mod : Mod X.K X.mg X.base
 kind : X.env.scope.kind = .function
 glob : X.env.globals = mainGlobals
 blt : X.env.builtins = builtinsNs
 above : X.s₀.heap.objs.size ≤ X.env.locals
 inj : ∀ x y c, X.env.cells.lookup x = some c → X.env.cells.lookup y = some c → x = y
 has : ∀ x, (X.env.kindOf x = some .cell ∨ X.env.kindOf x = some .free) → ∃ c, X.env.cells.lookup x = some c
 cab : ∀ x c, X.fn x = true → X.env.cells.lookup x = some c → X.s₀.heap.objs.size ≤ c
 hd : X.calm = true → X.A.handled = none
 frames : X.A.frames = some X.stack
 stk : X.stack = X.outer ∨ (X.stack = X.env :: X.outer ∧ X.env.frame = some X.env.locals)
 exf : ∀ b ∈ X.ex, b ≠ X.env.locals ∧ ∀ x c, X.env.cells.lookup x = some c → c ≠ b
 bs : ∀ b o, X.base.get? b = some o → X.s₀.heap.get? b = some o ∧ X.H₀ b = none
 bsz : X.base.objs.size ≤ X.s₀.heap.objs.size
 noex : ∀ b o, X.base.get? b = some o → b ∉ X.ex
 exfs : ∀ b ∈ X.ex, b ∉ X.fs
 funs : X.s₀.heap.FunFrames X.base X.outer
 frf : ∀ b ∈ X.fs, X.H₀ b = none
structure Inv (X : Cx) (pins : List (Addr × Obj)) (σ : List (Option V)) (H : Hp) (s : Shared) : Prop where
 ok : X.Ok
 os : s.os = X.s₀.os
 bare : AllBare s.gens
 base : Un X.fs X.ex X.H₀ H X.s₀.heap s.heap
 loc : ∃ m, s.heap.Ns X.env.locals m ∧ ∀ (i : Nat) (x : Str) (v : V), X.N[i]? = some x → σ[i]? = some (some v) → Vis X.env.scope x → ∃ u, RelV v u ∧ Look X.env s.heap m x u
 cell : ∀ x c, X.env.cells.lookup x = some c → ∃ v, s.heap.IsCell c v
 free : H X.env.locals = none
 freeC : ∀ x c, X.env.cells.lookup x = some c → H c = none
 pin : ∀ p ∈ X.pn ++ pins, s.heap.get? p.1 = some p.2 ∧ H p.1 = none ∧ p.1 ≠ X.env.locals ∧ p.1 ∉ X.fs ∧ ∀ v, p.2.data ≠ .cell v
 hok : HOk X.prog X.w H s.heap
 len : σ.length = X.N.length
section
variable {X : Cx} {pins : List (Addr × Obj)} {σ : List (Option V)} {H H' : Hp} {s : Shared} {h' : Heap}
theorem Cx.Ok.nofr (ok : X.Ok) {b : Addr} {o : Obj} (e : X.base.get? b = some o) : b ∉ X.fs := fun hb => by
 have := (ok.funs.mem hb).1
 rw [e] at this; cases this
theorem Inv.bs (I : Inv X pins σ H s) : ∀ b o, X.base.get? b = some o → s.heap.get? b = some o ∧ H b = none := fun b o e =>
 ⟨I.base.keep b o (I.ok.bs b o e).1 (I.ok.bs b o e).2 (I.ok.nofr e) (I.ok.noex b o e), I.base.free b o (I.ok.bs b o e).1 (I.ok.bs b o e).2 (I.ok.noex b o e)⟩
theorem Inv.bk (I : Inv X pins σ H s) : ∀ b o, X.base.get? b = some o → s.heap.get? b = some o := fun b o e => (I.bs b o e).1
theorem Inv.mod (I : Inv X pins σ H s) : Mod X.K X.mg X.base := I.ok.mod
theorem Inv.kIn (I : Inv X pins σ H s) : X.K.In s.heap := I.ok.mod.kin.keeps I.bk
theorem Inv.lt (I : Inv X pins σ H s) : X.env.locals < s.heap.objs.size := let ⟨_, hn, _⟩ := I.loc; hn.lt
theorem Inv.sz (I : Inv X pins σ H s) : X.s₀.heap.objs.size ≤ s.heap.objs.size := Nat.le_trans I.ok.above (Nat.le_of_lt I.lt)
theorem Inv.nofs (I : Inv X pins σ H s) {a : Addr} (h : s.heap.objs.size ≤ a) : a ∉ X.fs := fun hb => by
 obtain ⟨_, o, ho, _⟩ := I.ok.funs.mem hb
 exact absurd (Nat.lt_of_lt_of_le (Heap.lt_size ho) (Nat.le_trans I.sz h)) (Nat.lt_irrefl _)
theorem Inv.cne (I : Inv X pins σ H s) : ∀ x c, X.env.cells.lookup x = some c → c ≠ X.env.locals := fun x c e z => by
 obtain ⟨v, o, ho, hd⟩ := I.cell x c e
 obtain ⟨m, ⟨o', es, ep, ho', hd', _⟩, _⟩ := I.loc
 rw [z, ho'] at ho; cases ho; rw [hd'] at hd; cases hd
theorem Inv.funs (I : Inv X pins σ H s) : s.heap.FunFrames X.base X.outer := by
 have all : ∀ (l : List Env), (∀ b ∈ frs l, b ∈ X.fs) → X.s₀.heap.FunFrames X.base l → s.heap.FunFrames X.base l := by
  intro l
  induction l with
  | nil => intro _ _; trivial
  | cons env r ih =>
   intro hs hl
   obtain ⟨hk, ⟨L, o, hf, hn, ho, hd⟩, hr⟩ := hl
   have hL : L ∈ X.fs := hs L (by unfold frs; rw [List.filterMap_cons, hf]; exact List.mem_cons_self)
   obtain ⟨sl, e⟩ := I.base.slot L o ho (I.ok.frf L hL) hL fun z => I.ok.exfs L z hL
   exact ⟨hk, ⟨L, _, hf, hn, e, hd⟩, ih (fun b hb => hs b (by unfold frs; rw [List.filterMap_cons, hf]; exact List.mem_cons_of_mem _ hb)) hr⟩
 exact all X.outer (fun _ hb => hb) I.ok.funs
theorem Inv.stack (I : Inv X pins σ H s) : s.heap.FunFrames X.base X.stack := by
 rcases I.ok.stk with e | ⟨e, hf⟩
 ·rw [e]; exact I.funs
 ·rw [e]
  obtain ⟨m, hn, _⟩ := I.loc
  refine .cons (by rw [I.ok.kind]; decide) hf hn ?_ I.funs
  exact Heap.get?_none_of_le (Nat.le_trans I.ok.bsz I.ok.above)
theorem Inv.stkSub (I : Inv X pins σ H s) : ∀ b ∈ frs X.stack, b ∈ X.env.locals :: X.fs := fun b hb => by
 rcases I.ok.stk with e | ⟨e, hf⟩
 ·rw [e] at hb; exact List.mem_cons_of_mem _ hb
 ·rw [e] at hb
  unfold frs at hb
  rw [List.filterMap_cons, hf] at hb
  exact hb
theorem Inv.stkFree (I : Inv X pins σ H s) : ∀ b ∈ frs X.stack, H b = none := fun b hb => by
 rcases List.mem_cons.mp (I.stkSub b hb) with e | hb
 ·rw [e]; exact I.free
 ·obtain ⟨_, o, ho, _⟩ := I.ok.funs.mem hb
  exact I.base.free b o ho (I.ok.frf b hb) fun z => I.ok.exfs b z hb
theorem Inv.step {g' : Array GenState} {t' : Nat} {d' : Drawn} {ch : List Addr} (I : Inv X pins σ H s)
  (hch : ∀ b ∈ ch, (b ∈ X.ex ∨ X.s₀.heap.objs.size ≤ b) ∧ b ≠ X.env.locals ∧ (∀ x c, X.env.cells.lookup x = some c → c ≠ b) ∧ ∀ p ∈ X.pn ++ pins, p.1 ≠ b)
  (keep : ∀ b o, b ≠ X.env.locals → b ∉ X.fs → b ∉ ch → s.heap.get? b = some o → H b = none → h'.get? b = some o)
  (slot : ∀ b o, b ≠ X.env.locals → b ∈ X.fs → b ∉ ch → s.heap.get? b = some o → H b = none → ∃ sl, h'.get? b = some { o with slots := sl }) (free : ∀ b o, b ∉ ch → s.heap.get? b = some o → H b = none → H' b = none)
  (there : ∀ b o, b ∉ ch → s.heap.get? b = some o → ∃ o', h'.get? b = some o')
  (tups : ∀ b xs, H b = some (.tup xs) → H' b = some (.tup xs)) (frzs : ∀ b o u, H b = some (.frz o u) → H' b = some (.frz o u)) (tbls : ∀ b ps, H b = some (.tbl ps) → ∃ more, H' b = some (.tbl (ps ++ more)))
  (ns : ∀ m, s.heap.Ns X.env.locals m → h'.Ns X.env.locals m) (hok : HOk X.prog X.w H' h') (hg : AllBare g') :
  Inv X pins σ H' { s with heap := h', gens := g', drawn := d', toks := t' } := by
 have neL : ∀ b o, X.s₀.heap.get? b = some o → b ≠ X.env.locals := fun b o e => Nat.ne_of_lt (Nat.lt_of_lt_of_le (Heap.lt_size e) I.ok.above)
 have neC : ∀ b o, X.s₀.heap.get? b = some o → b ∉ X.ex → b ∉ ch := fun b o e hx hb => by
  rcases (hch b hb).1 with z | z
  ·exact hx z
  ·exact absurd (Nat.lt_of_lt_of_le (Heap.lt_size e) z) (Nat.lt_irrefl _)
 have cellK : ∀ x c, X.env.cells.lookup x = some c → ∀ v, s.heap.IsCell c v → h'.IsCell c v := fun x c e v ⟨o, ho, hd⟩ => by
  have nch : c ∉ ch := fun z => (hch c z).2.2.1 x c e rfl
  by_cases hc : c ∈ X.fs
  ·obtain ⟨sl, q⟩ := slot c o (I.cne x c e) hc nch ho (I.freeC x c e)
   exact ⟨_, q, hd⟩
  ·exact ⟨o, keep c o (I.cne x c e) hc nch ho (I.freeC x c e), hd⟩
 refine ⟨I.ok, I.os, hg, ⟨fun b o e n hb hx => ?_, fun b o e n hb hx => ?_, fun b o e n hx => ?_, fun b o e hx => ?_, fun b xs e => tups b xs (I.base.tups b xs e), fun b o xs e => frzs b o xs (I.base.frzs b o xs e), fun b ps e => ?_⟩, ?_, fun x c e => ?_, ?_, fun x c e => ?_, fun p hp => ?_, hok, I.len⟩
 ·exact keep b o (neL b o e) hb (neC b o e hx) (I.base.keep b o e n hb hx) (I.base.free b o e n hx)
 ·obtain ⟨sl, e1⟩ := I.base.slot b o e n hb hx
  obtain ⟨sl', e2⟩ := slot b _ (neL b o e) hb (neC b o e hx) e1 (I.base.free b o e n hx)
  exact ⟨sl', e2⟩
 ·obtain ⟨o', e1⟩ := I.base.there b o e hx
  exact free b o' (neC b o e hx) e1 (I.base.free b o e n hx)
 ·obtain ⟨o', e1⟩ := I.base.there b o e hx
  exact there b o' (neC b o e hx) e1
 ·obtain ⟨m1, e1⟩ := I.base.tbls b ps e
  obtain ⟨m2, e2⟩ := tbls b _ e1
  exact ⟨m1 ++ m2, by rw [e2, Array.append_assoc]⟩
 ·obtain ⟨m, hn, hl⟩ := I.loc
  refine ⟨m, ns m hn, fun i x v e1 e2 e3 => ?_⟩
  obtain ⟨u, r, l⟩ := hl i x v e1 e2 e3
  refine ⟨u, r, ?_⟩
  rcases l with l | ⟨k, c, e, z⟩
  ·exact .inl l
  ·exact .inr ⟨k, c, e, cellK x c e _ z⟩
 ·obtain ⟨v, z⟩ := I.cell x c e
  exact ⟨v, cellK x c e v z⟩
 ·obtain ⟨m, ⟨o, _, _, ho, _⟩, _⟩ := I.loc
  exact free _ o (fun z => (hch _ z).2.1 rfl) ho I.free
 ·obtain ⟨v, o, ho, hd⟩ := I.cell x c e
  exact free c o (fun z => (hch c z).2.2.1 x c e rfl) ho (I.freeC x c e)
 ·obtain ⟨e, n, ne, nf, d⟩ := I.pin p hp
  have nch : p.1 ∉ ch := fun z => (hch p.1 z).2.2.2 p hp rfl
  exact ⟨keep p.1 p.2 ne nf nch e n, free p.1 p.2 nch e n, ne, nf, d⟩
theorem Inv.un {t' : Nat} (I : Inv X pins σ H s) (u : Un X.fs [] H H' s.heap h') (hok : HOk X.prog X.w H' h') : Inv X pins σ H' { s with heap := h', toks := t' } := by
 obtain ⟨m, ⟨o, es, ep, ho, r⟩, _⟩ := id I.loc
 obtain ⟨sl, hL⟩ := u.any ho I.free (by simp)
 exact I.step (g' := s.gens) (d' := s.drawn) (ch := []) (fun _ z => nomatch z) (fun b o _ hb _ e n => u.keep b o e n hb (by simp)) (fun b o _ hb _ e n => u.slot b o e n hb (by simp)) (fun b o _ e n => u.free b o e n (by simp)) (fun b o _ e => u.there b o e (by simp)) u.tups u.frzs u.tbls (fun m' hm => by
  obtain ⟨o', es', ep', ho', r'⟩ := hm
  rw [ho] at ho'; cases ho'
  exact ⟨_, es', ep', hL, r'⟩) hok I.bare
theorem Inv.call {g' : Array GenState} {t' : Nat} {d' : Drawn} {ch : List Addr} (I : Inv X pins σ H s) (u : Un (frs X.stack) ch H H' s.heap h') (hok : HOk X.prog X.w H' h') (hg : AllBare g')
  (hch : ∀ b ∈ ch, (b ∈ X.ex ∨ X.s₀.heap.objs.size ≤ b) ∧ b ≠ X.env.locals ∧ (∀ x c, X.env.cells.lookup x = some c → c ≠ b) ∧ ∀ p ∈ X.pn ++ pins, p.1 ≠ b) :
  Inv X pins σ H' { s with heap := h', gens := g', drawn := d', toks := t' } := by
 obtain ⟨m, ⟨o, es, ep, ho, r⟩, _⟩ := id I.loc
 obtain ⟨sl, hL⟩ := u.any ho I.free fun z => (hch _ z).2.1 rfl
 exact I.step (ch := ch) hch (fun b o hL hb hc e n => u.keep b o e n (fun z => (List.mem_cons.mp (I.stkSub b z)).elim hL hb) hc) (fun b o _ _ hc e n => u.any e n hc) (fun b o hc e n => u.free b o e n hc) (fun b o hc e => u.there b o e hc) u.tups u.frzs u.tbls (fun m' hm => by
  obtain ⟨o', es', ep', ho', r'⟩ := hm
  rw [ho] at ho'; cases ho'
  exact ⟨_, es', ep', hL, r'⟩) hok hg
theorem Inv.turned {t' : Nat} {it : Addr} (I : Inv X pins σ H s) (k : ∀ b o, b ≠ it → s.heap.get? b = some o → h'.get? b = some o) (hn : H it = none) (hL : it ≠ X.env.locals)
  (h1 : it ∈ X.ex ∨ X.s₀.heap.objs.size ≤ it) (h2 : ∀ x c, X.env.cells.lookup x = some c → c ≠ it) (h3 : ∀ p ∈ X.pn ++ pins, p.1 ≠ it) : Inv X pins σ H { s with heap := h', toks := t' } := by
 have nit : ∀ b u, H b = some u → b ≠ it := fun b u e z => by rw [z, hn] at e; cases e
 refine I.step (g' := s.gens) (d' := s.drawn) (ch := [it]) (fun b hb => ?_) (fun b o _ _ hc e _ => k b o (fun z => hc (by simp [z])) e) (fun b o _ _ hc e _ => ⟨o.slots, k b o (fun z => hc (by simp [z])) e⟩) (fun _ _ _ _ n => n)
  (fun b o hc e => ⟨o, k b o (fun z => hc (by simp [z])) e⟩) (fun _ _ e => e) (fun _ _ _ e => e) (fun b ps e => ⟨#[], by rw [e]; simp⟩) (fun m hm => ?_) (fun b u e => ?_) I.bare
 ·have e : b = it := by simpa using hb
  subst e
  exact ⟨h1, hL, h2, h3⟩
 ·obtain ⟨o, es, ep, ho, r⟩ := hm
  exact ⟨o, es, ep, k _ o (Ne.symm hL) ho, r⟩
 ·refine (I.hok b u e).stay (fun c v hc q => k c v ?_ q) (fun _ q => q) fun _ _ q => q
  rcases hc with z | z
  ·rw [z]; exact nit b u e
  ·exact nit c _ z
theorem Inv.tok (I : Inv X pins σ H s) (t : Nat) : Inv X pins σ H { s with toks := t } := I.un (h' := s.heap) (t' := t) Un.refl I.hok
theorem Inv.kept {t' : Nat} (I : Inv X pins σ H s) (k : ∀ b u, s.heap.get? b = some u → h'.get? b = some u) : Inv X pins σ H { s with heap := h', toks := t' } := I.un (Un.kept k) (I.hok.kept k)
theorem Inv.laid {a : Addr} {o : HO} {t' : Nat} (I : Inv X pins σ H s) (k : ∀ b u, s.heap.get? b = some u → h'.get? b = some u) (hp : s.heap.objs.size ≤ a) (new : ObjOk X.prog X.w (upd H a o) h' a o) :
  Inv X pins σ (upd H a o) { s with heap := h', toks := t' } := I.un (Un.laid k hp (I.hok.fresh hp)) (I.hok.laid k hp new)
theorem Inv.write {x e : Addr} {o : HO} {t' : Nat} (I : Inv X pins σ H s) (mu : Mut (H x)) (he : e = x ∨ H e = some (.own x)) (k : ∀ b u, b ≠ e → s.heap.get? b = some u → h'.get? b = some u) (heo : ∃ u, h'.get? e = some u)
  (new : ObjOk X.prog X.w (upd H x o) h' x o) : Inv X pins σ (upd H x o) { s with heap := h', toks := t' } := I.un (Un.write mu he k heo) (I.hok.write mu he k heo new)
theorem Inv.pins_of {pins' : List (Addr × Obj)} (I : Inv X pins σ H s) (h : ∀ p ∈ pins', s.heap.get? p.1 = some p.2 ∧ H p.1 = none ∧ p.1 ≠ X.env.locals ∧ p.1 ∉ X.fs ∧ ∀ v, p.2.data ≠ .cell v) : Inv X pins' σ H s :=
 ⟨I.ok, I.os, I.bare, I.base, I.loc, I.cell, I.free, I.freeC, fun p hp => (List.mem_append.mp hp).elim (fun z => I.pin p (List.mem_append_left _ z)) (h p), I.hok, I.len⟩
theorem nodup_ix {N : List Str} (hN : N.Nodup) {i j : Nat} {x : Str} (a : N[i]? = some x) (b : N[j]? = some x) : i = j := by
 obtain ⟨h1, e1⟩ := List.getElem?_eq_some_iff.mp a
 obtain ⟨h2, e2⟩ := List.getElem?_eq_some_iff.mp b
 exact (List.getElem_inj hN).mp (e1.trans e2.symm)
theorem store_ok2 {M : Model} {A : Around} {E : Value → Shared → Prop} {i : Nat} {x : Str} {v : V} {u : Value} {Q : Unit → Shared → Prop} (I : Inv X pins σ H s) (hN : X.N.Nodup) (hi : X.N[i]? = some x) (hx : Loc X.env.scope x) (r : RelV v u)
  (h : ∀ s', Inv X pins (σ.set i (some v)) H s' → (∃ a, Heap.SameBut a s.heap s'.heap ∧ (a = X.env.locals ∨ X.env.cells.lookup x = some a)) → Q () s') (hf : X.fn x = true ∨ X.env.scope.names.lookup x = some .local := by first | exact .inl rfl | exact .inr rfl | assumption) : wpAny M A (storeName X.env x u) Q E s := by
 obtain ⟨m, hn, hl⟩ := id I.loc
 have hcls : (X.env.scope.kind == .class || (X.env.scope.kind == .module && X.env.locals != X.env.globals)) = false := by rw [I.ok.kind]; rfl
 have hiσ : i < σ.length := by rw [I.len]; exact (List.getElem?_eq_some_iff.mp hi).1
 have cne := I.cne
 have tracked : ∀ {a : Addr} {h' : Heap}, (∃ o, s.heap.get? a = some o ∧ H a = none) → Heap.SameBut a s.heap h' → HOk X.prog X.w H h' := fun {a h'} ha hs b ob e => by
  obtain ⟨_, _, hfree⟩ := ha
  refine (I.hok b ob e).stay (fun c w' hc q => (hs.2 c ?_).trans q) (fun _ q => q) fun _ _ q => q
  rintro rfl
  rcases hc with rfl | hc
  ·rw [hfree] at e; cases e
  ·rw [hfree] at hc; cases hc
 rcases hx with hk | hk
 ·refine wpAny_storeName_local hk hn (fun h' hn' hs => ?_) hcls
  obtain ⟨oL, _, _, hoL, _⟩ := id hn
  refine h _ ⟨I.ok, I.os, I.bare, ⟨fun b o e n hb hx => ?_, fun b o e n hb hx => ?_, I.base.free, fun b o e hx => ?_, I.base.tups, I.base.frzs, I.base.tbls⟩, ⟨_, hn', fun j y v' e1 e2 e3 => ?_⟩, fun y c e => ?_, I.free, I.freeC, fun p hp => ?_, tracked ⟨oL, hoL, I.free⟩ hs, by simpa using I.len⟩ ⟨_, hs, .inl rfl⟩
  ·exact (hs.2 b (Nat.ne_of_lt (Nat.lt_of_lt_of_le (Heap.lt_size e) I.ok.above))).trans (I.base.keep b o e n hb hx)
  ·obtain ⟨sl, e1⟩ := I.base.slot b o e n hb hx
   exact ⟨sl, (hs.2 b (Nat.ne_of_lt (Nat.lt_of_lt_of_le (Heap.lt_size e) I.ok.above))).trans e1⟩
  ·obtain ⟨o', e1⟩ := I.base.there b o e hx
   exact ⟨o', (hs.2 b (Nat.ne_of_lt (Nat.lt_of_lt_of_le (Heap.lt_size e) I.ok.above))).trans e1⟩
  ·by_cases hj : j = i
   ·subst hj
    rw [hi] at e1; cases e1
    rw [List.getElem?_set_self hiσ] at e2
    cases e2
    exact ⟨u, r, .inl ⟨hk, by simp⟩⟩
   ·rw [List.getElem?_set_ne (Ne.symm hj)] at e2
    obtain ⟨u', r', q⟩ := hl j y v' e1 e2 e3
    refine ⟨u', r', ?_⟩
    rcases q with ⟨k, e⟩ | ⟨k, c, e, z⟩
    ·refine .inl ⟨k, ?_⟩
     have : y ≠ x := fun e => hj (nodup_ix hN e1 (e ▸ hi))
     simp [this, e]
    ·exact .inr ⟨k, c, e, z.sameBut hs (cne y c e)⟩
  ·obtain ⟨w', z⟩ := I.cell y c e
   exact ⟨w', z.sameBut hs (cne y c e)⟩
  ·obtain ⟨e, n, ne, nf, d⟩ := I.pin p hp
   exact ⟨(hs.2 p.1 ne).trans e, n, ne, nf, d⟩
 ·have hfn : X.fn x = true := by
   rcases hf with z | z
   ·exact z
   ·rw [z] at hk; cases hk
  obtain ⟨c, hc⟩ := I.ok.has x (.inl hk)
  obtain ⟨w', z⟩ := I.cell x c hc
  refine wpAny_storeName_cell I.ok.kind hk hc z (fun h' hc' hs => ?_)
  obtain ⟨oc, hoc, hocd⟩ := id z
  refine h { s with heap := h' } ⟨I.ok, I.os, I.bare, ⟨fun b o e n hb hx => ?_, fun b o e n hb hx => ?_, I.base.free, fun b o e hx => ?_, I.base.tups, I.base.frzs, I.base.tbls⟩, ⟨m, hn.sameBut hs (Ne.symm (cne x c hc)), fun j y v' e1 e2 e3 => ?_⟩, fun y c' e => ?_, I.free, I.freeC, fun p hp => ?_, tracked ⟨oc, hoc, I.freeC x c hc⟩ hs, by simpa using I.len⟩ ⟨c, hs, .inr hc⟩
  ·exact (hs.2 b (Nat.ne_of_lt (Nat.lt_of_lt_of_le (Heap.lt_size e) (I.ok.cab x c hfn hc)))).trans (I.base.keep b o e n hb hx)
  ·obtain ⟨sl, e1⟩ := I.base.slot b o e n hb hx
   exact ⟨sl, (hs.2 b (Nat.ne_of_lt (Nat.lt_of_lt_of_le (Heap.lt_size e) (I.ok.cab x c hfn hc)))).trans e1⟩
  ·obtain ⟨o', e1⟩ := I.base.there b o e hx
   exact ⟨o', (hs.2 b (Nat.ne_of_lt (Nat.lt_of_lt_of_le (Heap.lt_size e) (I.ok.cab x c hfn hc)))).trans e1⟩
  ·by_cases hj : j = i
   ·subst hj
    rw [hi] at e1; cases e1
    rw [List.getElem?_set_self hiσ] at e2
    cases e2
    exact ⟨u, r, .inr ⟨.inl hk, c, hc, hc'⟩⟩
   ·rw [List.getElem?_set_ne (Ne.symm hj)] at e2
    obtain ⟨u', r', q⟩ := hl j y v' e1 e2 e3
    refine ⟨u', r', ?_⟩
    rcases q with q | ⟨k, c', e, z'⟩
    ·exact .inl q
    ·refine .inr ⟨k, c', e, z'.sameBut hs ?_⟩
     rintro rfl
     exact hj (nodup_ix hN e1 (I.ok.inj _ _ _ e hc ▸ hi))
  ·by_cases hcc : c' = c
   ·subst hcc; exact ⟨_, hc'⟩
   ·obtain ⟨w2, z2⟩ := I.cell y c' e
    exact ⟨w2, z2.sameBut hs hcc⟩
  ·obtain ⟨e, n, ne, nf, d⟩ := I.pin p hp
   refine ⟨(hs.2 p.1 ?_).trans e, n, ne, nf, d⟩
   intro q
   rw [q, hoc] at e
   have q' : oc = p.2 := Option.some.inj e
   exact d w' (by rw [← q']; exact hocd)
theorem store_ok {M : Model} {A : Around} {E : Value → Shared → Prop} {i : Nat} {x : Str} {v : V} {u : Value} {Q : Unit → Shared → Prop} (I : Inv X pins σ H s) (hN : X.N.Nodup) (hi : X.N[i]? = some x) (hx : Loc X.env.scope x) (r : RelV v u)
  (h : ∀ s', Inv X pins (σ.set i (some v)) H s' → Q () s') (hf : X.fn x = true ∨ X.env.scope.names.lookup x = some .local := by first | exact .inl rfl | exact .inr rfl | assumption) : wpAny M A (storeName X.env x u) Q E s :=
 store_ok2 I hN hi hx r (fun s' I' _ => h s' I') hf
theorem Inv.call' {s' : Shared} {ch : List Addr} (I : Inv X pins σ H s) (ho : s'.os = s.os) (u : Un (frs X.stack) ch H H' s.heap s'.heap) (hok : HOk X.prog X.w H' s'.heap) (hg : AllBare s'.gens)
  (hch : ∀ b ∈ ch, (b ∈ X.ex ∨ X.s₀.heap.objs.size ≤ b) ∧ b ≠ X.env.locals ∧ (∀ x c, X.env.cells.lookup x = some c → c ≠ b) ∧ ∀ p ∈ X.pn ++ pins, p.1 ≠ b) : Inv X pins σ H' s' := by
 obtain ⟨h', g', d', t', o'⟩ := s'
 have e : o' = s.os := ho
 subst e
 exact I.call (g' := g') (t' := t') (d' := d') u hok hg hch
end
noncomputable abbrev XK := Value → Option Addr → Hp → Prop
noncomputable abbrev St := List (Option V)
noncomputable abbrev VK := V → Hp → Prop
noncomputable abbrev TE := St → Hp → VK → Prop
noncomputable abbrev TT := St → Hp → (Bool → Hp → Prop) → Prop
noncomputable abbrev TA := St → Hp → (List V → Hp → Prop) → Prop
structure Ends where
 nx : St → Hp → Prop
 rt : VK
 bk : St → Hp → Prop := fun _ _ => False
 ct : St → Hp → Prop := fun _ _ => False
noncomputable abbrev TS := Ends → St → Hp → Prop
noncomputable def EP (X : Cx) (pins : List (Addr × Obj)) (σ : St) (Q : VK) (u : Value) (s' : Shared) : Prop := ∃ v H', Inv X pins σ H' s' ∧ RelV v u ∧ Q v H'
noncomputable def TP (X : Cx) (pins : List (Addr × Obj)) (σ : St) (Q : Bool → Hp → Prop) (b : Bool) (s' : Shared) : Prop := ∃ H', Inv X pins σ H' s' ∧ Q b H'
noncomputable def AP (X : Cx) (pins : List (Addr × Obj)) (σ : St) (Q : List V → Hp → Prop) (us : List Value) (s' : Shared) : Prop := ∃ vs H', Inv X pins σ H' s' ∧ Vals vs us ∧ Q vs H'
noncomputable def SP (X : Cx) (pins : List (Addr × Obj)) (D : Ends) (f : Flow) (s' : Shared) : Prop :=
 match f with
 | .next => ∃ σ' H', Inv X pins σ' H' s' ∧ D.nx σ' H'
 | .brk => ∃ σ' H', Inv X pins σ' H' s' ∧ D.bk σ' H'
 | .cont => ∃ σ' H', Inv X pins σ' H' s' ∧ D.ct σ' H'
 | .ret u => ∃ v σ' H', Inv X pins σ' H' s' ∧ RelV v u ∧ D.rt v H'
noncomputable def PE (X : Cx) (e : Expr) (t : TE) : Prop :=
 ∀ (pins : List (Addr × Obj)) (s : Shared) (σ : St) (H : Hp) (Q : VK), Inv X pins σ H s → t σ H Q → wpAny (model X.prog X.w) X.A (eval e X.env) (EP X pins σ Q) X.xe s
noncomputable def PT (X : Cx) (e : Expr) (t : TT) : Prop :=
 ∀ (pins : List (Addr × Obj)) (s : Shared) (σ : St) (H : Hp) (Q : Bool → Hp → Prop), Inv X pins σ H s → t σ H Q → wpAny (model X.prog X.w) X.A (isTrue e X.env (eval e X.env)) (TP X pins σ Q) X.xe s
noncomputable def PW (X : Cx) (e : Expr) (t : TT) : Prop :=
 ∀ (whole : Sem Value) (pins : List (Addr × Obj)) (s : Shared) (σ : St) (H : Hp) (Q : Bool → Hp → Prop), Inv X pins σ H s → t σ H Q → wpAny (model X.prog X.w) X.A (isTrue e X.env whole) (TP X pins σ Q) X.xe s
theorem PW.pt {X : Cx} {e : Expr} {t : TT} (h : PW X e t) : PT X e t := h _
noncomputable def PA (X : Cx) (es : List Expr) (t : TA) : Prop :=
 ∀ (pos : Pos) (pins : List (Addr × Obj)) (s : Shared) (σ : St) (H : Hp) (Q : List V → Hp → Prop), Inv X pins σ H s → t σ H Q → wpAny (model X.prog X.w) X.A (spliced (backTo pos (starEach es X.env))) (AP X pins σ Q) X.xe s
noncomputable def PS (X : Cx) (st : Stmt) (t : TS) : Prop :=
 ∀ (pins : List (Addr × Obj)) (s : Shared) (σ : St) (H : Hp) (D : Ends), Inv X pins σ H s → t D σ H → wpAny (model X.prog X.w) X.A (exec st X.env) (SP X pins D) X.xe s
noncomputable def PSs (X : Cx) (st : List Stmt) (t : TS) : Prop :=
 ∀ (pins : List (Addr × Obj)) (s : Shared) (σ : St) (H : Hp) (D : Ends), Inv X pins σ H s → t D σ H → wpAny (model X.prog X.w) X.A (execs st X.env) (SP X pins D) X.xe s
theorem thn {α : Type} {t : Sem α} {Q Q' : α → Shared → Prop} {M : Model} {A : Around} {E : Value → Shared → Prop} {s : Shared} (h : wpAny M A t Q E s) (hQ : ∀ a s, Q a s → Q' a s) : wpAny M A t Q' E s := wpAny_mono h hQ fun _ _ x => x
end L2
namespace L2
open PySem PySem.Spec PyProof.Rows
section
variable {X : Cx}
noncomputable def tVar (i : Nat) : TE := fun σ H Q => ∃ v, σ[i]? = some (some v) ∧ Q v H
noncomputable def tC (v : V) : TE := fun _ H Q => Q v H
theorem pe_var {i : Nat} {x : Str} {pos : Pos} (hN : X.N[i]? = some x) (hv : Vis X.env.scope x) (hd : (x == ("__debug__" : Str)) = false := by decide) (hcd : (x == ("__classdict__" : Str)) = false := by decide) : PE X (.Name x pos) (tVar i) := by
 intro pins s σ H Q I h
 obtain ⟨v, e, h⟩ := h
 obtain ⟨m, hn, hl⟩ := I.loc
 obtain ⟨u, r, l⟩ := hl i x v hN e hv
 have fin : EP X pins σ Q u s := ⟨v, H, I, r, h⟩
 rcases l with ⟨hk, hm⟩ | ⟨hk, c, hc, hcell⟩
 ·exact wpAny_Name (wpAny_loadName_local I.ok.kind hk hn hm fin) hd
 ·rcases hk with hk | hk
  ·exact wpAny_Name (wpAny_loadName_cell I.ok.kind hk hc hcell fin) hd
  ·exact wpAny_Name (wpAny_loadName_free I.ok.kind hk hc hcell fin hcd) hd
theorem qk {i j pos} : PE X (.Constant (.int i) j pos) (tC (.int i)) := fun _ _ _ H _ I h => wpAny_Constant_int ⟨.int i, H, I.tok _, ⟨_, rfl⟩, h⟩
theorem pe_bl {b j pos} : PE X (.Constant (.bool b) j pos) (tC (.bl b)) := fun _ _ _ H _ I h => Constant_bool ⟨.bl b, H, I, rfl, h⟩
theorem pe_non {j pos} : PE X (.Constant .none j pos) (tC .non) := fun _ _ _ H _ I h => Constant_none ⟨.non, H, I, rfl, h⟩
theorem zg {x j pos} : PE X (.Constant (.str x) j pos) (tC (.str x)) := fun _ _ _ H _ I h => Calls.Constant_str ⟨.str x, H, I.tok _, ⟨_, rfl⟩, h⟩
noncomputable def Gl (X : Cx) (x : Str) : Prop := X.env.kindOf x = some .globalImplicit
theorem ld_glob {E : Value → Shared → Prop} {pins : List (Addr × Obj)} {s : Shared} {σ : St} {H : Hp} {x : Str} {u : Value} {pos : Pos} {Q : Value → Shared → Prop} (I : Inv X pins σ H s) (hg : Gl X x) (hm : X.mg x = some u) (h : Q u s)
  (hd : (x == ("__debug__" : Str)) = false := by decide) : wpAny (model X.prog X.w) X.A (eval (.Name x pos) X.env) Q E s :=
 Calls.Name_function_global I.ok.kind hg (Calls.loadGlobal_global (by rw [I.ok.glob]; exact I.mod.glob.keeps I.bk) hm h) hd
theorem ld_blt {E : Value → Shared → Prop} {pins : List (Addr × Obj)} {s : Shared} {σ : St} {H : Hp} {x : Str} {u : Value} {pos : Pos} {Q : Value → Shared → Prop} (I : Inv X pins σ H s) (hg : Gl X x) (hm : X.mg x = none) (hv : bootBuiltins x = some u) (h : Q u s)
  (hn : x ≠ "__name__" := by decide) (hd : (x == ("__debug__" : Str)) = false := by decide) : wpAny (model X.prog X.w) X.A (eval (.Name x pos) X.env) Q E s := by
 obtain ⟨mb, h1, h2⟩ := I.mod.blt
 exact Calls.Name_function_global I.ok.kind hg (Calls.loadGlobal_builtin (by rw [I.ok.glob]; exact I.mod.glob.keeps I.bk) hm (by rw [I.ok.blt]; exact h1.keeps I.bk) ((h2 x hn).trans hv) h) hd
theorem pe_glob {x : Str} {v : V} {u : Value} {pos : Pos} (hg : Gl X x) (hm : X.mg x = some u) (r : RelV v u) (hd : (x == ("__debug__" : Str)) = false := by decide) : PE X (.Name x pos) (tC v) :=
 fun _ _ _ H _ I h => ld_glob I hg hm ⟨v, H, I, r, h⟩ hd
theorem pe_bltn {x : Str} {v : V} {u : Value} {pos : Pos} (hg : Gl X x) (hm : X.mg x = none) (hv : bootBuiltins x = some u) (r : RelV v u) (hn : x ≠ "__name__" := by decide) (hd : (x == ("__debug__" : Str)) = false := by decide) : PE X (.Name x pos) (tC v) :=
 fun _ _ _ H _ I h => ld_blt I hg hm hv ⟨v, H, I, r, h⟩ hn hd
variable {a b : Expr} {ta tb : TE} {pos : Pos}
noncomputable def PC (X : Cx) (op : CmpOp) (a b : Expr) (t : TE) : Prop :=
 ∀ (pins : List (Addr × Obj)) (s : Shared) (σ : St) (H : Hp) (Q : VK), Inv X pins σ H s → t σ H Q →
  wpAny (model X.prog X.w) X.A (eval a X.env) (fun v s₁ => wpAny (model X.prog X.w) X.A (eval b X.env) (fun u s₂ => wpAny (model X.prog X.w) X.A (compareOp op v u) (EP X pins σ Q) X.xe s₂) X.xe s₁) X.xe s
noncomputable def tB (t : TE) : TT := fun σ H Q => t σ H fun x H1 => ∃ c, x = .bl c ∧ Q c H1
theorem zf {e : Expr} {t : TE} (h : PE X e t) (he : ∀ whole, isTrue e X.env whole = (do let v ← whole; standAt e.pos; holding [v] (truthy v)) := by intro _; rfl) : PT X e (tB t) := by
 intro pins s σ H Q I hw
 refine isTrue_plain (thn (h pins s σ H _ I hw) fun v s1 hh9 => ?_) (he _)
 obtain ⟨x, H1, I1, r1, q1⟩ := hh9
 obtain ⟨d, rfl, q⟩ := q1
 cases r1
 exact wpAny_truthy_bool ⟨H1, I1, q⟩
variable {tA tB' : TT} {rest : List Expr}
noncomputable def tAnd (t u : TT) : TT := fun σ H Q => t σ H fun c H1 => if c = true then u σ H1 Q else Q false H1
noncomputable def tOr (t u : TT) : TT := fun σ H Q => t σ H fun c H1 => if c = true then Q true H1 else u σ H1 Q
noncomputable def tNot (t : TT) : TT := fun σ H Q => t σ H fun c H1 => Q (!c) H1
theorem pw_and1 (ha : PT X a tA) : PW X (.BoolOp .And [a] pos) tA := by
 intro wh pins s σ H Q I h
 refine isTrue_and (thn (ha pins s σ H Q I h) fun c s1 e => ?_)
 cases c with
 | true => exact isTrue_and_nil e
 | false => exact e
theorem pw_or1 (ha : PT X a tA) : PW X (.BoolOp .Or [a] pos) tA := by
 intro wh pins s σ H Q I h
 refine isTrue_or (thn (ha pins s σ H Q I h) fun c s1 e => ?_)
 cases c with
 | false => exact isTrue_or_nil e
 | true => exact e
theorem pw_and (ha : PT X a tA) (hb : PW X (.BoolOp .And (b :: rest) pos) tB') : PW X (.BoolOp .And (a :: b :: rest) pos) (tAnd tA tB') := by
 intro wh pins s σ H Q I h
 refine isTrue_and (thn (ha pins s σ H _ I h) fun c s1 hh9 => ?_)
 obtain ⟨H1, I1, q1⟩ := hh9
 cases c with
 | true => exact hb wh pins s1 σ H1 Q I1 q1
 | false => exact ⟨H1, I1, q1⟩
theorem pw_or (ha : PT X a tA) (hb : PW X (.BoolOp .Or (b :: rest) pos) tB') : PW X (.BoolOp .Or (a :: b :: rest) pos) (tOr tA tB') := by
 intro wh pins s σ H Q I h
 refine isTrue_or (thn (ha pins s σ H _ I h) fun c s1 hh9 => ?_)
 obtain ⟨H1, I1, q1⟩ := hh9
 cases c with
 | true => exact ⟨H1, I1, q1⟩
 | false => exact hb wh pins s1 σ H1 Q I1 q1
theorem pt_not (ha : PT X a tA) : PT X (.UnaryOp .Not a pos) (tNot tA) := by
 intro pins s σ H Q I h
 exact isTrue_not (ha pins s σ H (fun c H1 => Q (!c) H1) I h)
noncomputable def tAndV (ta tb : TE) : TE := fun σ H Q => ta σ H fun x H1 => ∃ c, x = .bl c ∧ if c = true then tb σ H1 Q else Q (.bl false) H1
noncomputable def tOrV (ta tb : TE) : TE := fun σ H Q => ta σ H fun x H1 => ∃ c, x = .bl c ∧ if c = true then Q (.bl true) H1 else tb σ H1 Q
noncomputable def tNotV (ta : TE) : TE := fun σ H Q => ta σ H fun x H1 => ∃ c, x = .bl c ∧ Q (.bl (!c)) H1
theorem pe_one {op} {t : TE} (h : PE X a t) : PE X (.BoolOp op [a] pos) t := fun pins s σ H Q I hw => BoolOp_one (h pins s σ H Q I hw)
theorem pe_and (ha : PE X a ta) (hb : PE X (.BoolOp .And (b :: rest) pos) tb) : PE X (.BoolOp .And (a :: b :: rest) pos) (tAndV ta tb) := by
 intro pins s σ H Q I h
 refine BoolOp_and (thn (ha pins s σ H _ I h) fun v s1 hh9 => ?_)
 obtain ⟨x, H1, I1, r1, q1⟩ := hh9
 obtain ⟨c, rfl, q1⟩ := q1
 cases r1
 refine wpAny_truthy_bool ?_
 cases c with
 | true => exact hb pins s1 σ H1 Q I1 q1
 | false => exact ⟨.bl false, H1, I1, rfl, q1⟩
theorem pe_or (ha : PE X a ta) (hb : PE X (.BoolOp .Or (b :: rest) pos) tb) : PE X (.BoolOp .Or (a :: b :: rest) pos) (tOrV ta tb) := by
 intro pins s σ H Q I h
 refine BoolOp_or (thn (ha pins s σ H _ I h) fun v s1 hh9 => ?_)
 obtain ⟨x, H1, I1, r1, q1⟩ := hh9
 obtain ⟨c, rfl, q1⟩ := q1
 cases r1
 refine wpAny_truthy_bool ?_
 cases c with
 | false => exact hb pins s1 σ H1 Q I1 q1
 | true => exact ⟨.bl true, H1, I1, rfl, q1⟩
theorem pe_not (ha : PE X a ta) : PE X (.UnaryOp .Not a pos) (tNotV ta) := by
 intro pins s σ H Q I h
 refine UnaryOp_ (thn (ha pins s σ H _ I h) fun v s1 hh9 => ?_)
 obtain ⟨x, H1, I1, r1, q1⟩ := hh9
 obtain ⟨c, rfl, q1⟩ := q1
 cases r1
 exact not_of (wpAny_truthy_bool ⟨.bl (!c), H1, I1, rfl, q1⟩)
noncomputable def tIf (t : TT) (ta tb : TE) : TE := fun σ H Q => t σ H fun c H1 => if c = true then ta σ H1 Q else tb σ H1 Q
theorem pe_ifExp {c : Expr} (hc : PT X c tA) (ha : PE X a ta) (hb : PE X b tb) : PE X (.IfExp c a b pos) (tIf tA ta tb) := by
 intro pins s σ H Q I h
 refine wpAny_IfExp (thn (hc pins s σ H _ I h) fun d s1 hh9 => ?_)
 obtain ⟨H1, I1, q1⟩ := hh9
 cases d with
 | true => exact ha pins s1 σ H1 Q I1 q1
 | false => exact hb pins s1 σ H1 Q I1 q1
end
end L2
namespace L2
open PySem PySem.Spec PyProof.Rows
noncomputable def SqL (K : PySem.W.Frag) (H : Hp) (a : Addr) (xs : List V) : Prop :=
 Rd H a (.lst xs) ∨
  ∃ (o : Obj) (its : Array Value) (n : Nat), K.lookup a = some o ∧ o.cls = .type "list" ∧ o.dict = none ∧ o.data = .seq its n ∧ its.size ≤ sizeLine ∧ Vals xs its.toList
noncomputable def SqT (K : PySem.W.Frag) (H : Hp) (a : Addr) (xs : List V) : Prop :=
 Rd H a (.tup xs) ∨
  ∃ (o : Obj) (its : Array Value) (n : Nat), K.lookup a = some o ∧ o.cls = .type "tuple" ∧ o.data = .seq its n ∧ its.size ≤ sizeLine ∧ Vals xs its.toList
noncomputable def absV : Value → Option V
 | .none => some .non
 | .bool b => some (.bl b)
 | .int i _ => some (.int i)
 | .str x _ => some (.str x)
 | .bytes b _ => some (.byt b)
 | .float b _ => some (.flt b)
 | .ref a => some (.ref a)
 | .type n => some (.ty n)
 | _ => none
theorem RelV.abs {x : V} {u : Value} (r : RelV x u) : absV u = some x := by
 cases x with
 | non => cases r; rfl
 | bl _ => cases r; rfl
 | int _ => obtain ⟨t, rfl⟩ := r; rfl
 | str _ => obtain ⟨t, rfl⟩ := r; rfl
 | byt _ => obtain ⟨t, rfl⟩ := r; rfl
 | flt _ => obtain ⟨t, rfl⟩ := r; rfl
 | ref _ => cases r; rfl
 | ty _ => cases r; rfl
theorem RelV.inj {x y : V} {u : Value} (r : RelV x u) (q : RelV y u) : x = y := Option.some.inj (r.abs.symm.trans q.abs)
theorem Vals.inj : ∀ {xs ys : List V} {us : List Value}, Vals xs us → Vals ys us → xs = ys
 | _, _, _, .nil, .nil => rfl
 | _, _, _, .cons r t, .cons r' t' => by rw [r.inj r', Vals.inj t t']
section
variable {X : Cx} {pins : List (Addr × Obj)} {σ : St} {H : Hp} {s : Shared} {a : Addr} {xs ys : List V}
theorem SqL.of {K : PySem.W.Frag} (h : H a = some (.lst xs)) : SqL K H a xs := .inl (.inl h)
theorem SqT.of {K : PySem.W.Frag} (h : H a = some (.tup xs)) : SqT K H a xs := .inl (.inl h)
theorem Inv.list (I : Inv X pins σ H s) (h : SqL X.K H a xs) : ∃ its : List Value, Vals xs its ∧ PlainL s.heap a its.toArray ∧ xs.length ≤ sizeLine := by
 rcases h with h | ⟨o, its, n, hk, hc, hd, hs, hz, r⟩
 ·obtain ⟨z, its, n, r, e⟩ := h.ok I.hok
  exact ⟨its, r, ⟨_, n, e, rfl, rfl, rfl⟩, z⟩
 ·refine ⟨its.toList, r, ⟨o, n, I.kIn a o hk, hc, hd, by simpa using hs⟩, ?_⟩
  have e := r.length
  simp only [Array.length_toList] at e
  omega
theorem Inv.tuple (I : Inv X pins σ H s) (h : SqT X.K H a xs) : ∃ its : List Value, Vals xs its ∧ IsTup s.heap a its.toArray ∧ xs.length ≤ sizeLine := by
 rcases h with h | ⟨o, its, n, hk, hc, hs, hz, r⟩
 ·obtain ⟨z, its, r, p⟩ := h.ok I.hok
  exact ⟨its, r, p, z⟩
 ·refine ⟨its.toList, r, ⟨o, I.kIn a o hk, hc, n, by simpa using hs⟩, ?_⟩
  have e := r.length
  simp only [Array.length_toList] at e
  omega
theorem Inv.list_inj (I : Inv X pins σ H s) (h : SqL X.K H a xs) (h' : SqL X.K H a ys) : xs = ys := by
 obtain ⟨its, r, ⟨o, n, e, _, _, d⟩, _⟩ := I.list h
 obtain ⟨its', r', ⟨o', n', e', _, _, d'⟩, _⟩ := I.list h'
 rw [e] at e'; cases e'
 rw [d] at d'
 injection d' with d1 _
 have : its = its' := by simpa using congrArg Array.toList d1
 subst this
 exact r.inj r'
end
noncomputable abbrev Cx.wish (X : Cx) (E : Value → Shared → Prop) : Cx := { X with xe := E }
noncomputable abbrev Cx.nox (X : Cx) : Cx := X.wish fun _ _ => False
theorem Cx.Ok.wish {X : Cx} (ok : X.Ok) (E : Value → Shared → Prop) : (X.wish E).Ok :=
 ⟨ok.mod, ok.kind, ok.glob, ok.blt, ok.above, ok.inj, ok.has, ok.cab, ok.hd, ok.frames, ok.stk, ok.exf, ok.bs, ok.bsz, ok.noex, ok.exfs, ok.funs, ok.frf⟩
theorem Cx.Ok.unwish {X : Cx} {E : Value → Shared → Prop} (ok : (X.wish E).Ok) : X.Ok :=
 ⟨ok.mod, ok.kind, ok.glob, ok.blt, ok.above, ok.inj, ok.has, ok.cab, ok.hd, ok.frames, ok.stk, ok.exf, ok.bs, ok.bsz, ok.noex, ok.exfs, ok.funs, ok.frf⟩
section
variable {X : Cx} {pins : List (Addr × Obj)} {σ : St} {H : Hp} {s : Shared} {E : Value → Shared → Prop}
theorem Inv.wish (I : Inv X pins σ H s) (E : Value → Shared → Prop) : Inv (X.wish E) pins σ H s := ⟨I.ok.wish E, I.os, I.bare, I.base, I.loc, I.cell, I.free, I.freeC, I.pin, I.hok, I.len⟩
theorem Inv.unwish (I : Inv (X.wish E) pins σ H s) : Inv X pins σ H s := ⟨I.ok.unwish, I.os, I.bare, I.base, I.loc, I.cell, I.free, I.freeC, I.pin, I.hok, I.len⟩
theorem SP.unwish {D : Ends} {f : Flow} {s' : Shared} (h : SP (X.wish E) pins D f s') : SP X pins D f s' := by
 cases f with
 | next => obtain ⟨σ', H', I, q⟩ := h; exact ⟨σ', H', I.unwish, q⟩
 | brk => obtain ⟨σ', H', I, q⟩ := h; exact ⟨σ', H', I.unwish, q⟩
 | cont => obtain ⟨σ', H', I, q⟩ := h; exact ⟨σ', H', I.unwish, q⟩
 | ret u => obtain ⟨v, σ', H', I, r, q⟩ := h; exact ⟨v, σ', H', I.unwish, r, q⟩
theorem PSs.nox {st : List Stmt} {t : TS} (h : PSs X.nox st t) : PSs X st t := fun pins s σ H D I hw =>
 wpAny_mono (h pins s σ H D (I.wish _) hw) (fun _ _ q => q.unwish) fun _ _ z => False.elim z
end
section
variable {X : Cx} {st : Stmt} {rest : List Stmt} {t u : TS} {e : Expr} {te : TE} {pos : Pos}
noncomputable def tNext : TS := fun D σ H => D.nx σ H
noncomputable def tSeq (t u : TS) : TS := fun D σ H => t { D with nx := u D } σ H
theorem pss_nil : PSs X [] tNext := fun _ _ σ H _ I h => wpAny_execs_nil ⟨σ, H, I, h⟩
theorem qi (h1 : PS X st t) (h2 : PSs X rest u) : PSs X (st :: rest) (tSeq t u) := by
 intro pins s σ H D I h
 refine wpAny_execs_cons (thn (h1 pins s σ H { D with nx := u D } I h) fun f s1 q => ?_)
 cases f with
 | next =>
  obtain ⟨σ', H', I', q⟩ := q
  exact h2 pins s1 σ' H' D I' q
 | ret v => exact q
 | brk => exact q
 | cont => exact q
theorem ql (h1 : PS X st t) : PSs X [st] t := by
 intro pins s σ H D I h
 refine wpAny_execs_cons (thn (h1 pins s σ H D I h) fun f s1 q => ?_)
 cases f with
 | next => exact wpAny_execs_nil q
 | ret v => exact q
 | brk => exact q
 | cont => exact q
noncomputable def tBreak : TS := fun D σ H => D.bk σ H
theorem ps_break : PS X (.Break pos) tBreak := fun _ _ σ H _ I h => wpAny_Break ⟨σ, H, I, h⟩
theorem Inv.quiet {pins : List (Addr × Obj)} {σ : St} {H : Hp} {s : Shared} (I : Inv X pins σ H s) : interactive X.env = false := by simp [interactive, I.ok.kind]
noncomputable def tDrop (te : TE) : TS := fun D σ H => te σ H fun _ H1 => D.nx σ H1
theorem qz (he : PE X e te) (hs : swapsWith e none pos.line X.env = pure false := by rfl) : PS X (.Expr e pos) (tDrop te) := by
 intro pins s σ H D I h
 exact wpAny_Expr_any (thn (he pins s σ H _ I h) fun v s1 ⟨x, H1, I1, r1, q1⟩ => ⟨σ, H1, I1, q1⟩) I.quiet hs
noncomputable def tRet (te : TE) : TS := fun D σ H => te σ H D.rt
theorem qp (he : PE X e te) : PS X (.Return (some e) pos) (tRet te) := by
 intro pins s σ H D I h
 exact wpAny_Return_some (thn (he pins s σ H _ I h) fun v s1 ⟨x, H1, I1, r1, q1⟩ => ⟨x, σ, H1, I1, r1, q1⟩)
noncomputable def tIfS (c : TT) (t u : TS) : TS := fun D σ H => c σ H fun b H1 => if b = true then t D σ H1 else u D σ H1
theorem zb {c : Expr} {a b : List Stmt} {tc : TT} (hc : PT X c tc) (ha : PSs X a t) (hb : PSs X b u) : PS X (.If c a b pos) (tIfS tc t u) := by
 intro pins s σ H D I h
 refine wpAny_If (thn (hc pins s σ H _ I h) fun d s1 hh9 => ?_)
 obtain ⟨H1, I1, q1⟩ := hh9
 cases d with
 | true => exact ha pins s1 σ H1 D I1 q1
 | false => exact hb pins s1 σ H1 D I1 q1
noncomputable def tNever : TS := fun _ _ _ => False
theorem ps_never : PS X st tNever := fun _ _ _ _ _ _ h => h.elim
end
noncomputable abbrev TG := V → St → Hp → (St → Hp → Prop) → Prop
noncomputable abbrev TGs := List V → St → Hp → (St → Hp → Prop) → Prop
noncomputable def PG (X : Cx) (target : Expr) (t : TG) : Prop :=
 ∀ (pins : List (Addr × Obj)) (s : Shared) (σ : St) (H : Hp) (v : V) (u : Value) (Q : St → Hp → Prop), Inv X pins σ H s → RelV v u → t v σ H Q →
  wpAny (model X.prog X.w) X.A (assign target X.env u) (fun _ s' => ∃ σ' H', Inv X pins σ' H' s' ∧ Q σ' H') X.xe s
noncomputable def PGs (X : Cx) (ts : List Expr) (t : TGs) : Prop :=
 ∀ (pins : List (Addr × Obj)) (s : Shared) (σ : St) (H : Hp) (vs : List V) (us : List Value) (Q : St → Hp → Prop), Inv X pins σ H s → Vals vs us → t vs σ H Q →
  wpAny (model X.prog X.w) X.A (assignInOrder ((assignEach ts X.env).map (·.2)) us) (fun _ s' => ∃ σ' H', Inv X pins σ' H' s' ∧ Q σ' H') X.xe s
noncomputable abbrev TSet := V → V → V → Hp → (Hp → Prop) → Prop
noncomputable def PSet (X : Cx) (t : TSet) : Prop :=
 ∀ (pins : List (Addr × Obj)) (s : Shared) (σ : St) (H : Hp) (o i v : V) (ov iv u : Value) (Q : Hp → Prop), Inv X pins σ H s → RelV o ov → RelV i iv → RelV v u → t o i v H Q →
  wpAny (model X.prog X.w) X.A (setItem ov iv u) (fun _ s' => ∃ H', Inv X pins σ H' s' ∧ Q H') X.xe s
noncomputable abbrev TIp := V → V → Hp → VK → Prop
noncomputable def PIp (X : Cx) (op : Operator) (t : TIp) : Prop :=
 ∀ (pins : List (Addr × Obj)) (s : Shared) (σ : St) (H : Hp) (x y : V) (v u : Value) (Q : VK), Inv X pins σ H s → RelV x v → RelV y u → t x y H Q →
  wpAny (model X.prog X.w) X.A (inplaceOp op v u) (EP X pins σ Q) X.xe s
section
variable {X : Cx} {pos : Pos}
noncomputable def gName (i : Nat) : TG := fun v σ H Q => Q (σ.set i (some v)) H
theorem pg_name {i : Nat} {x : Str} (hN : X.N.Nodup) (hi : X.N[i]? = some x) (hx : Loc X.env.scope x) (hf : X.fn x = true ∨ X.env.scope.names.lookup x = some .local := by first | exact .inl rfl | exact .inr rfl | assumption) : PG X (.Name x pos) (gName i) := by
 intro pins s σ H v u Q I r h
 exact wpAny_assign_Name (store_ok I hN hi hx r (fun s' I' => ⟨_, H, I', h⟩) hf)
noncomputable def gNil : TGs := fun vs σ H Q => vs = [] ∧ Q σ H
noncomputable def gCons (t : TG) (u : TGs) : TGs := fun vs σ H Q => ∃ v r, vs = v :: r ∧ t v σ H fun σ' H' => u r σ' H' Q
theorem pgs_nil : PGs X [] gNil := by
 intro pins s σ H vs us Q I r h
 obtain ⟨e, h⟩ := h
 subst e
 cases r
 exact assignInOrder_nil ⟨σ, H, I, h⟩
theorem pgs_cons {e : Expr} {es : List Expr} {t : TG} {u : TGs} (h1 : PG X e t) (h2 : PGs X es u)
  (hs : (assignEach (e :: es) X.env).map (·.2) = assign e X.env :: (assignEach es X.env).map (·.2) := by rfl) : PGs X (e :: es) (gCons t u) := by
 intro pins s σ H vs us Q I r h
 obtain ⟨v, vr, e1, h⟩ := h
 subst e1
 cases r with
 | cons r rr =>
  rw [hs]
  refine assignInOrder_cons (thn (h1 pins s σ H _ _ _ I r h) fun _ s1 hh9 => ?_)
  obtain ⟨σ1, H1, I1, q1⟩ := hh9
  exact h2 pins s1 σ1 H1 _ _ Q I1 rr q1
noncomputable def gTup (K : PySem.W.Frag) (n : Nat) (t : TGs) : TG := fun v σ H Q => ∃ a xs, v = .ref a ∧ SqT K H a xs ∧ xs.length = n ∧ t xs σ H Q
theorem pg_tup {es : List Expr} {k : Nat} {t : TGs} {n : Nat} (hc : X.calm = true) (h : PGs X es t)
  (hn : (assignEach es X.env).length = n := by rfl) (hst : (assignEach es X.env).findIdx? (·.1) = none := by rfl) : PG X (.Tuple es k pos) (gTup X.K n t) := by
 intro pins s σ H v u Q I r hw
 obtain ⟨a, xs, e1, hq, hl, hw⟩ := hw
 subst e1
 cases r
 obtain ⟨its, rv, ht, hz⟩ := I.tuple hq
 refine assign_Tuple_tuple (I.ok.hd hc) ht (by simp [hn, ← hl, rv.length]) hst fun h' hx => ?_
 have I1 : Inv X pins σ H { s with heap := h' } := I.kept (t' := s.toks) fun b o e => hx b o (Nat.ne_of_lt (Heap.lt_size e)) e
 exact h pins _ σ H xs _ Q I1 (by simpa using rv) hw
noncomputable def gSub (to ti : TE) (t : TSet) : TG := fun v σ H Q => to σ H fun o H1 => ti σ H1 fun i H2 => t o i v H2 fun H3 => Q σ H3
theorem pg_sub {o i : Expr} {to ti : TE} {t : TSet} (ho : PE X o to) (hi : PE X i ti) (hs : PSet X t)
  (ha : ∀ v, assign (.Subscript o i pos) X.env v = (do
   let ov ← holding [v] (eval o X.env)
   let iv ← holding [v, ov] (eval i X.env)
   standAt pos
   holding [v, ov, iv] (setItem ov iv v)
   release [v, ov, iv] []) := by intro _; rfl) : PG X (.Subscript o i pos) (gSub to ti t) := by
 intro pins s σ H v u Q I r h
 rw [ha]
 refine wpAny_bind (wpAny_holding (thn (ho pins s σ H _ I h) fun ov s1 hh9 => ?_))
 obtain ⟨x, H1, I1, r1, q1⟩ := hh9
 refine wpAny_bind (wpAny_holding (thn (hi pins s1 σ H1 _ I1 q1) fun iv s2 hh9 => ?_))
 obtain ⟨y, H2, I2, r2, q2⟩ := hh9
 refine wpAny_bind (wpAny_standAt (wpAny_bind (wpAny_holding (thn (hs pins s2 σ H2 x y v ov iv u _ I2 r1 r2 r q2) fun _ s3 hh9 => ?_))))
 obtain ⟨H3, I3, q3⟩ := hh9
 exact wpAny_release ⟨σ, H3, I3, q3⟩
noncomputable def tAsg (te : TE) (g : TG) : TS := fun D σ H => te σ H fun x H1 => g x σ H1 D.nx
theorem ps_asg {tg e : Expr} {te : TE} {g : TG} (he : PE X e te) (hg : PG X tg g) (hs : swapsWithSole [tg] e pos.line X.env = pure false := by rfl) (hw : swappedStores [tg] e X.env = pure none := by rfl)
  (h1 : (assignEach [tg] X.env).map (·.2) = [assign tg X.env] := by rfl) : PS X (.Assign [tg] e pos) (tAsg te g) := by
 intro pins s σ H D I h
 refine wpAny_Assign_stores (thn (he pins s σ H _ I h) fun v s1 hh9 => ?_) hs hw
 obtain ⟨x, H1, I1, r1, q1⟩ := hh9
 rw [h1]
 exact thn (hg pins s1 σ H1 x v _ I1 r1 q1) fun _ s2 q => q
theorem qv {i : Nat} {x : Str} {e : Expr} {te : TE} {pos' : Pos} (hN : X.N.Nodup) (hi : X.N[i]? = some x) (hx : Loc X.env.scope x) (he : PE X e te) (hs : swapsWith e (some (.Name x pos')) pos.line X.env = pure false := by rfl) (hf : X.fn x = true ∨ X.env.scope.names.lookup x = some .local := by first | exact .inl rfl | exact .inr rfl | assumption) :
  PS X (.Assign [.Name x pos'] e pos) (tAsg te (gName i)) := by
 intro pins s σ H D I h
 refine wpAny_Assign_Name (thn (he pins s σ H _ I h) fun v s1 hh9 => ?_) hs
 obtain ⟨y, H1, I1, r1, q1⟩ := hh9
 exact store_ok I1 hN hi hx r1 (fun s2 I2 => ⟨_, H1, I2, q1⟩) hf
noncomputable def tAug (i : Nat) (te : TE) (ti : TIp) : TS := fun D σ H => ∃ x, σ[i]? = some (some x) ∧ te σ H fun y H1 => ti x y H1 fun z H2 => D.nx (σ.set i (some z)) H2
theorem ps_aug {i : Nat} {x : Str} {e : Expr} {te : TE} {op : Operator} {ti : TIp} {pos' : Pos} (hN : X.N.Nodup) (hi : X.N[i]? = some x) (hx : Loc X.env.scope x) (he : PE X e te) (ho : PIp X op ti) (hf : X.fn x = true ∨ X.env.scope.names.lookup x = some .local := by first | exact .inl rfl | exact .inr rfl | assumption) :
  PS X (.AugAssign (.Name x pos') op e pos) (tAug i te ti) := by
 intro pins s σ H D I h
 obtain ⟨v, e1, h⟩ := h
 obtain ⟨m, hn, hl⟩ := I.loc
 have vis : Vis X.env.scope x := by rcases hx with k | k; exact .inl k; exact .inr (.inl k)
 obtain ⟨u, r, l⟩ := hl i x v hi e1 vis
 refine wpAny_AugAssign_Name ?_
 have go : wpAny (model X.prog X.w) X.A (eval e X.env) (fun w s₂ => wpAny (model X.prog X.w) X.A (inplaceOp op u w) (fun r s₃ => wpAny (model X.prog X.w) X.A (storeName X.env x r) (fun _ => SP X pins D .next) X.xe s₃) X.xe s₂) X.xe s := by
  refine thn (he pins s σ H _ I h) fun w s1 hh9 => ?_
  obtain ⟨y, H1, I1, r1, q1⟩ := hh9
  refine thn (ho pins s1 σ H1 v y u w _ I1 r r1 q1) fun z s2 hh9 => ?_
  obtain ⟨zv, H2, I2, r2, q2⟩ := hh9
  exact store_ok I2 hN hi hx r2 (fun s3 I3 => ⟨_, H2, I3, q2⟩) hf
 rcases l with ⟨hk, hm⟩ | ⟨hk, c, hc, hcell⟩
 ·exact wpAny_loadName_local I.ok.kind hk hn hm go
 ·rcases hk with hk | hk
  ·exact wpAny_loadName_cell I.ok.kind hk hc hcell go
  ·rcases hx with k | k
   ·have : X.env.scope.names.lookup x = some .free := hk
    rw [k] at this; cases this
   ·have : X.env.scope.names.lookup x = some .free := hk
    rw [k] at this; cases this
noncomputable def ipI (f : Int → Int → Int) : TIp := fun x y H Q => ∃ i j, x = .int i ∧ y = .int j ∧ Q (.int (f i j)) H
theorem ip_add : PIp X .Add (ipI fun i j => i + j) := by
 intro pins s σ H x y v u Q I r1 r2 h
 obtain ⟨i, j, e1, e2, q⟩ := h
 subst e1; subst e2
 obtain ⟨t, rfl⟩ := r1
 obtain ⟨t', rfl⟩ := r2
 exact iadd_int ⟨.int _, H, I.tok _, ⟨_, rfl⟩, q⟩
theorem ip_sub : PIp X .Sub (ipI fun i j => i - j) := by
 intro pins s σ H x y v u Q I r1 r2 h
 obtain ⟨i, j, e1, e2, q⟩ := h
 subst e1; subst e2
 obtain ⟨t, rfl⟩ := r1
 obtain ⟨t', rfl⟩ := r2
 exact isub_int ⟨.int _, H, I.tok _, ⟨_, rfl⟩, q⟩
end
section
variable {X : Cx} {pos : Pos}
noncomputable def tWhile (c : TT) (tb : TS) : TS := fun D σ H => ∃ W : Nat → St → Hp → Prop, (∃ m, W m σ H) ∧ ∀ m σ H, W m σ H →
 c σ H fun b H1 => if b = true then ∃ N : St → Hp → Prop, (∀ σ' H', N σ' H' → ∃ m', m' < m ∧ W m' σ' H') ∧ tb { D with nx := N, ct := N, bk := D.nx } σ H1 else D.nx σ H1
theorem ps_while {c : Expr} {body : List Stmt} {tc : TT} {tb : TS} (hp : PassesOwn (model X.prog X.w) X.A X.env X.xe) (hc : PT X c tc) (hb : PSs X body tb) : PS X (.While c body [] pos) (tWhile tc tb) := by
 intro pins s σ H D I h
 obtain ⟨W, ⟨m0, w0⟩, turn⟩ := h
 refine wpAny_While (codeAny_whileLoop (fun n s' => ∃ σ' H', Inv X pins σ' H' s' ∧ W n σ' H') ?_ m0 ⟨σ, H, I, w0⟩)
 rintro n s1 ⟨σ1, H1, I1, w1⟩
 refine wpAny_passesOwn hp (thn (hc pins s1 σ1 H1 _ I1 (turn n σ1 H1 w1)) fun b s2 hh9 => ?_)
 obtain ⟨H2, I2, q2⟩ := hh9
 cases b with
 | true =>
  obtain ⟨N, hN, q2⟩ := q2
  rw [if_pos rfl]
  refine wpAny_passesOwn hp (thn (hb pins s2 σ1 H2 _ I2 q2) fun f s3 q3 => ?_)
  cases f with
  | next =>
   obtain ⟨σ3, H3, I3, n3⟩ := q3
   obtain ⟨m', hm, w3⟩ := hN σ3 H3 n3
   exact ⟨m', hm, σ3, H3, I3, w3⟩
  | cont =>
   obtain ⟨σ3, H3, I3, n3⟩ := q3
   obtain ⟨m', hm, w3⟩ := hN σ3 H3 n3
   exact ⟨m', hm, σ3, H3, I3, w3⟩
  | brk => exact q3
  | ret v => exact q3
 | false =>
  rw [if_neg Bool.false_ne_true]
  exact wpAny_execs_nil ⟨σ1, H2, I2, q2⟩
end
structure It where
 go : Nat → Hp → Prop
 yld : Nat → Hp → V → Hp → Prop
 stop : Nat → Hp → Prop
noncomputable def FpOk (X : Cx) (pins : List (Addr × Obj)) (H : Hp) (b : Addr) : Prop :=
 H b = none ∧ b ≠ X.env.locals ∧ b ∉ X.fs ∧ (b ∈ X.ex ∨ X.s₀.heap.objs.size ≤ b) ∧ (∀ x c, X.env.cells.lookup x = some c → c ≠ b) ∧ ∀ p ∈ X.pn ++ pins, p.1 ≠ b
theorem Inv.fpOk {X : Cx} {pins : List (Addr × Obj)} {σ : St} {H H' : Hp} {s : Shared} {b : Addr} (I : Inv X pins σ H s) (hb : s.heap.objs.size ≤ b) (hn : H' b = none) : FpOk X pins H' b := by
 refine ⟨hn, Nat.ne_of_gt (Nat.lt_of_lt_of_le I.lt hb), I.nofs hb, .inr (Nat.le_trans I.sz hb), fun x c e z => ?_, fun p hp z => ?_⟩
 ·obtain ⟨v, q⟩ := I.cell x c e
  exact absurd (Nat.lt_of_lt_of_le q.lt (by rw [z]; exact hb)) (Nat.lt_irrefl _)
 ·exact absurd (Nat.lt_of_lt_of_le (Heap.lt_size (I.pin p hp).1) (by rw [z]; exact hb)) (Nat.lt_irrefl _)
structure Turn (P : Program) (w : World) (K : PySem.W.Frag) (tg : Expr) (J : It) (fp : List Addr) (it : Addr) (tn : Nat → Heap → Prop) : Prop where
 mem : it ∈ fp
 obj : ∀ i h, tn i h → ∀ b ∈ fp, ∃ o, h.get? b = some o ∧ ∀ v, o.data ≠ .cell v
 keep : ∀ i h h', tn i h → (∀ b ∈ fp, ∀ o, h.get? b = some o → h'.get? b = some o) → tn i h'
 item : ∀ (X : Cx), X.prog = P → X.w = w → X.K = K → X.calm = true → ∀ (i : Nat) (pins : List (Addr × Obj)) (s : Shared) (σ : St) (H : Hp) (E : Value → Shared → Prop), Inv X pins σ H s → (∀ b ∈ fp, FpOk X pins H b) → tn i s.heap → J.go i H →
  wpAny (model P w) X.A (pyNext (.ref it)) (fun r s1 => ∃ u, r = some u ∧
   wpAny (model P w) X.A (letOwnedTupleGo tg (.ref it) u) (fun _ s2 => ∃ x H', Inv X pins σ H' s2 ∧ RelV x u ∧ J.yld i H x H' ∧ tn (i + 1) s2.heap ∧ ∀ b ∈ fp, H' b = none) E s1) E s
 done : ∀ (X : Cx), X.prog = P → X.w = w → X.K = K → X.calm = true → ∀ (i : Nat) (pins : List (Addr × Obj)) (s : Shared) (σ : St) (H : Hp) (E : Value → Shared → Prop), Inv X pins σ H s → (∀ b ∈ fp, FpOk X pins H b) → tn i s.heap → J.stop i H →
  wpAny (model P w) X.A (pyNext (.ref it)) (fun r s1 => r = none ∧ Inv X pins σ H s1) E s
 self : ∀ (A : Around) (i : Nat) (s : Shared) (Q : Value → Shared → Prop) (E : Value → Shared → Prop), tn i s.heap → Q (.ref it) s → wpAny (model P w) A (pyIter (.ref it)) Q E s
noncomputable abbrev TI := St → Hp → (It → Hp → Prop) → Prop
noncomputable def PIE (X : Cx) (pins : List (Addr × Obj)) (σ : St) (tg : Expr) (R : It → Hp → Prop) (itv : Value) (s2 : Shared) : Prop :=
 ∃ (it : Addr) (fp : List Addr) (tn : Nat → Heap → Prop) (J : It) (H' : Hp), itv = .ref it ∧ Inv X pins σ H' s2 ∧ Turn X.prog X.w X.K tg J fp it tn ∧ tn 0 s2.heap ∧ (∀ b ∈ fp, FpOk X pins H' b) ∧ R J H'
noncomputable def PI (X : Cx) (tg iter : Expr) (wi : TI) : Prop :=
 ∀ (pins : List (Addr × Obj)) (s : Shared) (σ : St) (H : Hp) (R : It → Hp → Prop), Inv X pins σ H s → wi σ H R →
  wpAny (model X.prog X.w) X.A (eval iter X.env) (fun v s1 => wpAny (model X.prog X.w) X.A (pyIter v) (PIE X pins σ tg R) X.xe s1) X.xe s
theorem go_of {M : Model} {A : Around} {E : Value → Shared → Prop} {s : Shared} {tg : Expr} {it : Addr} {u : Value} {o : Obj} {n : String} {vs : Array Value} {Q : Unit → Shared → Prop} (ho : s.heap.get? it = some o) (hc : o.cls = .type n) (hd : o.data = .fields vs)
  (hn : ["enumerate", "zip", "dict_itemiterator", "dict_reverseitemiterator", "odict_iterator", "itertools.zip_longest", "itertools.pairwise"].contains n = false) (hQ : Q () s) : wpAny M A (letOwnedTupleGo tg (.ref it) u) Q E s := by
 unfold letOwnedTupleGo
 cases tg <;> first
  | exact wpAny_pure hQ
  | (cases u <;> first
    | exact wpAny_pure hQ
    | (refine wpAny_bind (wpAny_load ho ?_)
       rw [hc, hd]
       show wpAny M A (if (["enumerate", "zip", "dict_itemiterator", "dict_reverseitemiterator", "odict_iterator", "itertools.zip_longest", "itertools.pairwise"].contains n && vs[0]? == some (rawInt _)) = true then _ else _) Q E s
       rw [if_neg (by intro h; rw [hn, Bool.false_and] at h; cases h)]
       exact wpAny_pure hQ))
noncomputable def Itl (K : PySem.W.Frag) (a : Addr) : It :=
 ⟨fun i H => ∃ xs x, SqL K H a xs ∧ xs[i]? = some x, fun i H x H' => H' = H ∧ ∀ xs, SqL K H a xs → xs[i]? = some x, fun i H => ∃ xs, SqL K H a xs ∧ xs.length ≤ i⟩
noncomputable def Itr (lo : Int) (n : Nat) : It := ⟨fun i _ => i < n, fun i H x H' => H' = H ∧ x = .int (lo + i), fun i _ => n ≤ i⟩
theorem turn_list {P : Program} {w : World} {K : PySem.W.Frag} {tg : Expr} (a it : Addr) : Turn P w K tg (Itl K a) [it] it (fun i h => h.IsListIter it a i) where
 mem := by simp
 obj := fun i h st b hb => by
  have e : b = it := by simpa using hb
  subst e
  obtain ⟨o, e, c, d⟩ := st
  exact ⟨o, e, fun v z => by rw [d] at z; cases z⟩
 keep := fun i h h' st k => st.at fun o e => k it (by simp) o e
 item := by
  intro X hP hw hK hc i pins s σ H E I hf st hg
  subst hP hw hK
  obtain ⟨xs, x, hq, hx⟩ := hg
  obtain ⟨its, rv, p, hz⟩ := I.list hq
  obtain ⟨u, hu, ru⟩ := rv.get hx
  obtain ⟨f0, f1, f2, f3, f4, f5⟩ := hf it (by simp)
  refine wpAny_pyNext_list_item st p.isList (x := u) (by simpa using hu) fun h' st' sb => ?_
  have I1 : Inv X pins σ H { s with heap := h' } := I.turned (t' := s.toks) (fun b o hb e => (sb.2 b hb).trans e) f0 f1 f3 f4 f5
  obtain ⟨o, e, c, d⟩ := id st'
  exact ⟨u, rfl, go_of (s := { s with heap := h' }) e c d (by decide) ⟨x, H, I1, ru, ⟨rfl, fun ys hy => by rw [I.list_inj hy hq]; exact hx⟩, st', fun b hb => (hf b hb).1⟩⟩
 done := by
  intro X hP hw hK hc i pins s σ H E I hf st hg
  subst hP hw hK
  obtain ⟨xs, hq, hx⟩ := hg
  obtain ⟨its, rv, p, hz⟩ := I.list hq
  obtain ⟨f0, f1, f2, f3, f4, f5⟩ := hf it (by simp)
  have hl := rv.length
  exact wpAny_pyNext_list_end (I.ok.hd hc) st p.isList (by simp; omega) fun h' eb => ⟨rfl, I.turned (t' := s.toks) (fun b o hb e => eb b o hb e) f0 f1 f3 f4 f5⟩
 self := fun _ _ _ _ _ st h => wpAny_pyIter_listiter st h
theorem turn_range {P : Program} {w : World} {K : PySem.W.Frag} {tg : Expr} (it : Addr) (lo : Int) (n : Nat) : Turn P w K tg (Itr lo n) [it] it (fun i h => IsRangeIter h it (lo + (i : Nat) * 1) ((n : Int) - (i : Nat)) 1) where
 mem := by simp
 obj := fun i h st b hb => by
  have e : b = it := by simpa using hb
  subst e
  exact ⟨_, st, fun v z => by
   have z' : Data.fields _ = Data.cell v := z
   cases z'⟩
 keep := fun i h h' st k => k it (by simp) _ st
 item := by
  intro X hP hw hK hc i pins s σ H E I hf st hg
  subst hP hw hK
  obtain ⟨f0, f1, f2, f3, f4, f5⟩ := hf it (by simp)
  have W := Walks.range (prog := X.prog) (w := X.w) (I.ok.hd hc) it lo 1 n
  refine W.item i s _ _ hg st fun v h' tk hv st' kk => ?_
  obtain ⟨t, rfl⟩ := hv
  have I1 : Inv X pins σ H { s with heap := h', toks := tk } := I.turned (fun b o hb e => kk b o (by simpa using hb) e) f0 f1 f3 f4 f5
  refine ⟨_, rfl, go_of (s := { s with heap := h', toks := tk }) (n := "range_iterator") st' rfl rfl (by decide) ⟨.int (lo + i), H, I1, ⟨t, ?_⟩, ⟨rfl, rfl⟩, st', fun b hb => (hf b hb).1⟩⟩
  rw [Int.mul_one]
 done := by
  intro X hP hw hK hc i pins s σ H E I hf st hg
  subst hP hw hK
  obtain ⟨f0, f1, f2, f3, f4, f5⟩ := hf it (by simp)
  exact wpAny_pyNext_range_end (I.ok.hd hc) st (by have : n ≤ i := hg; omega) fun h' eb => ⟨rfl, I.turned (t' := s.toks) (fun b o hb e => eb b o hb e) f0 f1 f3 f4 f5⟩
 self := fun _ _ _ _ _ st h => wpAny_pyIter_rangeiter st h
end L2
namespace L2
open PySem PySem.Spec PyProof.Rows
section
variable {X : Cx} {tg : Expr}
noncomputable def iList (K : PySem.W.Frag) (tl : TE) : TI := fun σ H R => tl σ H fun x H1 => ∃ a, x = .ref a ∧ (∃ xs, SqL K H1 a xs) ∧ R (Itl K a) H1
theorem pi_list {l : Expr} {tl : TE} (hl : PE X l tl) : PI X tg l (iList X.K tl) := by
 intro pins s σ H R I h
 refine thn (hl pins s σ H _ I h) fun v s1 hh9 => ?_
 obtain ⟨x, H1, I1, r1, q1⟩ := hh9
 obtain ⟨a, e, ⟨xs, hq⟩, q⟩ := q1
 subst e
 cases r1
 obtain ⟨its, rv, p, hz⟩ := I1.list hq
 refine wpAny_pyIter_list p.isList ?_
 refine ⟨s1.heap.objs.size, [s1.heap.objs.size], _, _, H1, rfl, I1.kept (t' := s1.toks) fun b o e => Heap.get?_push_of_some _ e, turn_list a _, ⟨_, Heap.get?_push_size _ rfl, rfl, rfl⟩, fun b hb => ?_, q⟩
 have e : b = s1.heap.objs.size := by simpa using hb
 subst e
 exact I1.fpOk (Nat.le_refl _) (I1.hok.fresh (Nat.le_refl _))
theorem range_it {pins : List (Addr × Obj)} {σ : St} {H : Hp} {s : Shared} {R : It → Hp → Prop} {E : Value → Shared → Prop} {lo hi : Int} {t u v : Tok} {tk : Nat} (I : Inv X pins σ H s) (h1 : -(2 ^ 62) ≤ lo) (h2 : lo < 2 ^ 62) (h3 : -(2 ^ 62) ≤ hi) (h4 : hi < 2 ^ 62)
  (q : R (Itr lo (hi - lo).toNat) H) : wpAny (model X.prog X.w) X.A (pyIter (.ref s.heap.objs.size)) (PIE X pins σ tg R) E { s with heap := s.heap.push { cls := .type "range", data := .fields #[.int lo t, .int hi u, .int 1 v] }, toks := tk } := by
 refine wpAny_pyIter_range (IsRange.new ..) (small_one h1 h2 h3 h4) ?_
 have I1 : Inv X pins σ H { s with heap := s.heap.push { cls := .type "range", data := .fields #[.int lo t, .int hi u, .int 1 v] }, toks := tk } := I.kept fun b o e => Heap.get?_push_of_some _ e
 refine ⟨(s.heap.push { cls := .type "range", data := .fields #[.int lo t, .int hi u, .int 1 v] }).objs.size, [(s.heap.push { cls := .type "range", data := .fields #[.int lo t, .int hi u, .int 1 v] }).objs.size], _, _, H, rfl,
  I1.kept (t' := tk) fun b o e => Heap.get?_push_of_some _ e, turn_range _ lo (hi - lo).toNat, ?_, fun b hb => ?_, q⟩
 ·have e1 : lo + ((0 : Nat) : Int) * 1 = lo := by simp
  have e2 : (((hi - lo).toNat : Nat) : Int) - ((0 : Nat) : Int) = Builtin.Range.rangeSize lo hi 1 := by rw [rangeSize_one]; split <;> omega
  show IsRangeIter _ _ (lo + ((0 : Nat) : Int) * 1) ((((hi - lo).toNat : Nat) : Int) - ((0 : Nat) : Int)) 1
  rw [e1, e2]
  exact Heap.get?_push_size _ rfl
 ·have e : b = (s.heap.push { cls := .type "range", data := .fields #[.int lo t, .int hi u, .int 1 v] }).objs.size := by simpa using hb
  subst e
  exact I1.fpOk (Nat.le_refl _) (I1.hok.fresh (Nat.le_refl _))
noncomputable def iRng1 (ta : TA) : TI := fun σ H R => ta σ H fun vs H1 => ∃ j : Int, vs = [.int j] ∧ -(2 ^ 62) ≤ j ∧ j < 2 ^ 62 ∧ R (Itr 0 j.toNat) H1
theorem pi_range1 {a : Expr} {ta : TA} {p pos : Pos} (hg : Gl X "range") (hm : X.mg "range" = none) (ha : PA X [a] ta) (hs : starEach [a] X.env = [(false, eval a X.env)] := by rfl) : PI X tg (.Call (.Name "range" p) [a] [] pos) (iRng1 ta) := by
 intro pins s σ H R I h
 refine Call_ (ld_blt I hg hm boot_range (PyProof.Rows.callWith_type1 (thn (ha pos pins s σ H _ I h) fun us s1 hh9 => ?_) hs rfl))
 obtain ⟨vs, H1, I1, r1, q1⟩ := hh9
 obtain ⟨j, e, q1, q2, q⟩ := q1
 subst e
 cases r1 with
 | cons r rr =>
  cases rr
  obtain ⟨t, rfl⟩ := r
  exact call_range_1 (range_it I1 (by omega) (by omega) q1 q2 (by simpa using q))
noncomputable def tFor (wi : TI) (g : TG) (tb : TS) : TS := fun D σ H => wi σ H fun J H1 => ∃ W : Nat → Nat → St → Hp → Prop, (∃ m, W 0 m σ H1) ∧ ∀ i m σ H, W i m σ H →
 (J.stop i H ∧ D.nx σ H) ∨ (J.go i H ∧ ∃ N : St → Hp → Prop, (∀ σ' H', N σ' H' → ∃ m', m' < m ∧ W (i + 1) m' σ' H') ∧ ∀ x H', J.yld i H x H' → g x σ H' fun σ2 H2 => tb { D with nx := N, ct := N, bk := D.nx } σ2 H2)
noncomputable def pinsAt (fp : List Addr) (h : Heap) : List (Addr × Obj) := fp.filterMap fun b => (h.get? b).map fun o => (b, o)
theorem mem_pinsAt {fp : List Addr} {h : Heap} {b : Addr} {o : Obj} (hb : b ∈ fp) (e : h.get? b = some o) : (b, o) ∈ pinsAt fp h := List.mem_filterMap.mpr ⟨b, hb, by rw [e]; rfl⟩
theorem of_pinsAt {fp : List Addr} {h : Heap} {p : Addr × Obj} (hp : p ∈ pinsAt fp h) : p.1 ∈ fp ∧ h.get? p.1 = some p.2 := by
 obtain ⟨b, hb, e⟩ := List.mem_filterMap.mp hp
 cases q : h.get? b with
 | none => rw [q] at e; cases e
 | some o =>
  rw [q] at e
  have e' : (b, o) = p := Option.some.inj e
  subst e'
  exact ⟨hb, q⟩
theorem Inv.pinned {pins : List (Addr × Obj)} {σ : St} {H : Hp} {s : Shared} {fp : List Addr} (I : Inv X pins σ H s) (hf : ∀ b ∈ fp, FpOk X pins H b) (ho : ∀ b ∈ fp, ∃ o, s.heap.get? b = some o ∧ ∀ v, o.data ≠ .cell v) : Inv X (pins ++ pinsAt fp s.heap) σ H s :=
 I.pins_of fun p hp => (List.mem_append.mp hp).elim (fun z => I.pin p (List.mem_append_right _ z)) fun z => by
  obtain ⟨hb, e⟩ := of_pinsAt z
  obtain ⟨f0, f1, f2, _⟩ := hf p.1 hb
  obtain ⟨o, e', d⟩ := ho p.1 hb
  rw [e] at e'; cases e'
  exact ⟨e, f0, f1, f2, d⟩
theorem Inv.unpinned {pins pl : List (Addr × Obj)} {σ : St} {H : Hp} {s : Shared} (I : Inv X (pins ++ pl) σ H s) : Inv X pins σ H s := I.pins_of fun p hp => I.pin p (List.mem_append_right _ (List.mem_append_left _ hp))
theorem ps_for {iter : Expr} {body : List Stmt} {wi : TI} {g : TG} {tb : TS} {pos : Pos} (hp : PassesOwn (model X.prog X.w) X.A X.env X.xe) (hc : X.calm = true) (hi : PI X tg iter wi) (hg : PG X tg g) (hb : PSs X body tb)
  (hs : ∀ x, foldedSetIterable iter X.env x = pure x := by intro _; rfl) : PS X (.For tg iter body [] pos) (tFor wi g tb) := by
 intro pins s σ H D I h
 refine wpAny_For (thn (hi pins s σ H _ I h) fun v s1 h1 => thn h1 fun itv s2 h2 => ?_) hs
 obtain ⟨it, fp, tn, J, H2, e, I2, T, st2, f2, W, ⟨m0, w0⟩, turn⟩ := h2
 subst e
 -- what stays true of the iterator's objects through the loop
 have stat : ∀ {H' : Hp}, (∀ b ∈ fp, H' b = none) → ∀ b ∈ fp, FpOk X pins H' b := fun hn b hb => ⟨hn b hb, (f2 b hb).2⟩
 refine codeAny_forLoop_any (fun n s' => ∃ i σ' H', Inv X pins σ' H' s' ∧ tn i s'.heap ∧ (∀ b ∈ fp, H' b = none) ∧ W i n σ' H') ?_ m0 ⟨0, σ, H2, I2, st2, fun b hb => (f2 b hb).1, w0⟩
 rintro n s3 ⟨i, σ3, H3, I3, st3, fr3, w3⟩
 rcases turn i n σ3 H3 w3 with ⟨stop, qn⟩ | ⟨go, N, hN, step⟩
 ·refine wpAny_passesOwn hp (thn (T.done X rfl rfl rfl hc i pins s3 σ3 H3 X.xe I3 (stat fr3) st3 stop) fun r s4 hh9 => ?_)
  obtain ⟨hr, I4⟩ := hh9
  subst hr
  exact wpAny_execs_nil ⟨σ3, H3, I4, qn⟩
 ·refine wpAny_passesOwn hp (thn (T.item X rfl rfl rfl hc i pins s3 σ3 H3 X.xe I3 (stat fr3) st3 go) fun r s4 hh9 => ?_)
  obtain ⟨u, hr, h4⟩ := hh9
  subst hr
  refine wpAny_passesOwn hp (thn h4 fun _ s5 hh9 => ?_)
  obtain ⟨x, H5, I5, r5, y5, st5, fr5⟩ := hh9
  have I5' := I5.pinned (stat fr5) (T.obj _ _ st5)
  refine wpAny_passesOwn hp (thn (hg _ s5 σ3 H5 x u _ I5' r5 (step x H5 y5)) fun _ s6 hh9 => ?_)
  obtain ⟨σ6, H6, I6, q6⟩ := hh9
  refine wpAny_passesOwn hp (thn (hb _ s6 σ6 H6 _ I6 q6) fun f s7 q7 => ?_)
  have again : ∀ {σ7 : St} {H7 : Hp}, Inv X (pins ++ pinsAt fp s5.heap) σ7 H7 s7 → N σ7 H7 → ∃ m, m < n ∧ ∃ i σ' H', Inv X pins σ' H' s7 ∧ tn i s7.heap ∧ (∀ b ∈ fp, H' b = none) ∧ W i m σ' H' := fun {σ7 H7} I7 n7 => by
   obtain ⟨m', hm, w7⟩ := hN σ7 H7 n7
   refine ⟨m', hm, i + 1, σ7, H7, I7.unpinned, T.keep _ _ _ st5 fun b hb o e => (I7.pin (b, o) (List.mem_append_right _ (List.mem_append_right _ (mem_pinsAt hb e)))).1, fun b hb => ?_, w7⟩
   obtain ⟨o, e, d⟩ := T.obj _ _ st5 b hb
   exact (I7.pin (b, o) (List.mem_append_right _ (List.mem_append_right _ (mem_pinsAt hb e)))).2.1
  cases f with
  | next => obtain ⟨σ7, H7, I7, n7⟩ := q7; exact again I7 n7
  | cont => obtain ⟨σ7, H7, I7, n7⟩ := q7; exact again I7 n7
  | brk => obtain ⟨σ7, H7, I7, q7⟩ := q7; exact ⟨σ7, H7, I7.unpinned, q7⟩
  | ret v => obtain ⟨x7, σ7, H7, I7, r7, q7⟩ := q7; exact ⟨x7, σ7, H7, I7.unpinned, r7, q7⟩
end
theorem for_list {K : PySem.W.Frag} {a : Addr} {xs : List V} {g : TG} {tb : TS} {D : Ends} {σ : St} {H : Hp} (Pv : Nat → St → Hp → Prop) (h0 : Pv 0 σ H) (hl : ∀ i σ H, i ≤ xs.length → Pv i σ H → SqL K H a xs)
  (hs : ∀ i x σ H, xs[i]? = some x → Pv i σ H → g x σ H fun σ2 H2 => tb { D with nx := Pv (i + 1), ct := Pv (i + 1), bk := D.nx } σ2 H2) (hd : ∀ σ H, Pv xs.length σ H → D.nx σ H) :
  ∃ W : Nat → Nat → St → Hp → Prop, (∃ m, W 0 m σ H) ∧ ∀ i m σ H, W i m σ H →
   ((Itl K a).stop i H ∧ D.nx σ H) ∨ ((Itl K a).go i H ∧ ∃ N : St → Hp → Prop, (∀ σ' H', N σ' H' → ∃ m', m' < m ∧ W (i + 1) m' σ' H') ∧ ∀ x H', (Itl K a).yld i H x H' → g x σ H' fun σ2 H2 => tb { D with nx := N, ct := N, bk := D.nx } σ2 H2) := by
 refine ⟨fun i m σ H => m = xs.length - i ∧ i ≤ xs.length ∧ Pv i σ H, ⟨xs.length, by simp, Nat.zero_le _, h0⟩, ?_⟩
 rintro i m σ H ⟨rfl, hi, p⟩
 have q := hl i σ H hi p
 by_cases hlt : i < xs.length
 ·refine .inr ⟨⟨xs, xs[i], q, by simp [hlt]⟩, Pv (i + 1), fun σ' H' p' => ⟨xs.length - (i + 1), by omega, rfl, hlt, p'⟩, fun x H' y => ?_⟩
  obtain ⟨e, y⟩ := y
  subst e
  exact hs i x σ _ (y xs q) p
 ·have e : i = xs.length := by omega
  subst e
  exact .inl ⟨⟨xs, q, Nat.le_refl _⟩, hd σ H p⟩
theorem for_range {lo : Int} {n : Nat} {g : TG} {tb : TS} {D : Ends} {σ : St} {H : Hp} (Pv : Nat → St → Hp → Prop) (h0 : Pv 0 σ H)
  (hs : ∀ i σ H, i < n → Pv i σ H → g (.int (lo + i)) σ H fun σ2 H2 => tb { D with nx := Pv (i + 1), ct := Pv (i + 1), bk := D.nx } σ2 H2) (hd : ∀ σ H, Pv n σ H → D.nx σ H) :
  ∃ W : Nat → Nat → St → Hp → Prop, (∃ m, W 0 m σ H) ∧ ∀ i m σ H, W i m σ H →
   ((Itr lo n).stop i H ∧ D.nx σ H) ∨ ((Itr lo n).go i H ∧ ∃ N : St → Hp → Prop, (∀ σ' H', N σ' H' → ∃ m', m' < m ∧ W (i + 1) m' σ' H') ∧ ∀ x H', (Itr lo n).yld i H x H' → g x σ H' fun σ2 H2 => tb { D with nx := N, ct := N, bk := D.nx } σ2 H2) := by
 refine ⟨fun i m σ H => m = n - i ∧ i ≤ n ∧ Pv i σ H, ⟨n, by simp, Nat.zero_le _, h0⟩, ?_⟩
 rintro i m σ H ⟨rfl, hi, p⟩
 by_cases hlt : i < n
 ·refine .inr ⟨hlt, Pv (i + 1), fun σ' H' p' => ⟨n - (i + 1), by omega, rfl, hlt, p'⟩, fun x H' y => ?_⟩
  obtain ⟨e, y⟩ := y
  subst e y
  exact hs i σ _ hlt p
 ·have e : i = n := by omega
  subst e
  exact .inl ⟨Nat.le_refl _, hd σ H p⟩
end L2
namespace L2
open PySem PySem.Spec PyProof.Rows
noncomputable abbrev R2 := V → V → Hp → VK → Prop
noncomputable def OpR (X : Cx) (f : Value → Value → Sem Value) (r : R2) : Prop :=
 ∀ (pins : List (Addr × Obj)) (s : Shared) (σ : St) (H : Hp) (x y : V) (v u : Value) (Q : VK), Inv X pins σ H s → RelV x v → RelV y u → r x y H Q →
  wpAny (model X.prog X.w) X.A (f v u) (EP X pins σ Q) X.xe s
noncomputable def UnR (X : Cx) (f : Value → Sem Value) (r : V → Hp → VK → Prop) : Prop :=
 ∀ (pins : List (Addr × Obj)) (s : Shared) (σ : St) (H : Hp) (x : V) (v : Value) (Q : VK), Inv X pins σ H s → RelV x v → r x H Q →
  wpAny (model X.prog X.w) X.A (f v) (EP X pins σ Q) X.xe s
noncomputable def CallR (X : Cx) (f : Value) (r : List V → Hp → VK → Prop) : Prop :=
 ∀ (pins : List (Addr × Obj)) (s : Shared) (σ : St) (H : Hp) (xs : List V) (us : List Value) (Q : VK), Inv X pins σ H s → Vals xs us → r xs H Q →
  wpAny (model X.prog X.w) X.A (call f us) (EP X pins σ Q) X.xe s
noncomputable def TruR (X : Cx) (r : V → Hp → (Bool → Hp → Prop) → Prop) : Prop :=
 ∀ (pins : List (Addr × Obj)) (s : Shared) (σ : St) (H : Hp) (x : V) (v : Value) (Q : Bool → Hp → Prop), Inv X pins σ H s → RelV x v → r x H Q →
  wpAny (model X.prog X.w) X.A (truthy v) (TP X pins σ Q) X.xe s
noncomputable def tOp (r : R2) (ta tb : TE) : TE := fun σ H Q => ta σ H fun x H1 => tb σ H1 fun y H2 => r x y H2 Q
noncomputable def tUn (r : V → Hp → VK → Prop) (ta : TE) : TE := fun σ H Q => ta σ H fun x H1 => r x H1 Q
noncomputable def rI (C : Int → Int → Prop) (g : Int → Int → V) : R2 := fun x y H Q => ∃ i j, x = .int i ∧ y = .int j ∧ C i j ∧ Q (g i j) H
noncomputable def rI0 (g : Int → Int → V) : R2 := fun x y H Q => ∃ i j, x = .int i ∧ y = .int j ∧ Q (g i j) H
noncomputable def rU (g : Int → V) : V → Hp → VK → Prop := fun x H Q => ∃ i, x = .int i ∧ Q (g i) H
section
variable {X : Cx} {a b c : Expr} {ta tb tc : TE} {pos : Pos}
theorem binT (ha : PE X a ta) (hb : PE X b tb) {pins : List (Addr × Obj)} {s : Shared} {σ : St} {H : Hp} {R : V → V → Hp → Prop} (I : Inv X pins σ H s)
  (h : ta σ H fun x H1 => tb σ H1 fun y H2 => R x y H2) {Q : Value → Shared → Prop} {f : Value → Value → Sem Value}
  (hf : ∀ v u s2 x y H2, Inv X pins σ H2 s2 → RelV x v → RelV y u → R x y H2 → wpAny (model X.prog X.w) X.A (f v u) Q X.xe s2) :
  wpAny (model X.prog X.w) X.A (eval a X.env) (fun v s₁ => wpAny (model X.prog X.w) X.A (eval b X.env) (fun u s₂ => wpAny (model X.prog X.w) X.A (f v u) Q X.xe s₂) X.xe s₁) X.xe s := by
 refine thn (ha pins s σ H _ I h) fun v s1 hh9 => ?_
 obtain ⟨x, H1, I1, r1, q1⟩ := hh9
 refine thn (hb pins s1 σ H1 _ I1 q1) fun u s2 hh9 => ?_
 obtain ⟨y, H2, I2, r2, q2⟩ := hh9
 exact hf v u s2 x y H2 I2 r1 r2 q2
theorem qx {op : Operator} {r : R2} (ho : OpR X (binaryOp op) r) (ha : PE X a ta) (hb : PE X b tb) : PE X (.BinOp a op b pos) (tOp r ta tb) := by
 intro pins s σ H Q I h
 exact wpAny_BinOp (binT ha hb I h fun v u s2 x y H2 I2 rx ry q => ho pins s2 σ H2 x y v u Q I2 rx ry q)
theorem pe_un {op : UnaryOp} {r : V → Hp → VK → Prop} (ho : UnR X (unaryOp op) r) (ha : PE X a ta) : PE X (.UnaryOp op a pos) (tUn r ta) := by
 intro pins s σ H Q I h
 exact UnaryOp_ (thn (ha pins s σ H _ I h) fun v s1 ⟨x, H1, I1, r1, q1⟩ => ho pins s1 σ H1 x v Q I1 r1 q1)
theorem opI {f : Value → Value → Sem Value} {C : Int → Int → Prop} {g : Int → Int → Int}
  (rule : ∀ (i j : Int) (t u : Tok) (s : Shared) (Q : Value → Shared → Prop) (E : Value → Shared → Prop), C i j → Q (.int (g i j) s.toks) { s with toks := s.toks + 1 } → wpAny (model X.prog X.w) X.A (f (.int i t) (.int j u)) Q E s) :
  OpR X f (rI C fun i j => .int (g i j)) := by
 intro pins s σ H x y v u Q I rx ry h
 obtain ⟨i, j, rfl, rfl, hc, q⟩ := h
 obtain ⟨t, rfl⟩ := rx
 obtain ⟨t', rfl⟩ := ry
 exact rule i j t t' s _ _ hc ⟨.int (g i j), H, I.tok _, ⟨_, rfl⟩, q⟩
theorem opI0 {f : Value → Value → Sem Value} {g : Int → Int → Int}
  (rule : ∀ (i j : Int) (t u : Tok) (s : Shared) (Q : Value → Shared → Prop) (E : Value → Shared → Prop), Q (.int (g i j) s.toks) { s with toks := s.toks + 1 } → wpAny (model X.prog X.w) X.A (f (.int i t) (.int j u)) Q E s) :
  OpR X f (rI0 fun i j => .int (g i j)) := by
 intro pins s σ H x y v u Q I rx ry h
 obtain ⟨i, j, rfl, rfl, q⟩ := h
 obtain ⟨t, rfl⟩ := rx
 obtain ⟨t', rfl⟩ := ry
 exact rule i j t t' s _ _ ⟨.int (g i j), H, I.tok _, ⟨_, rfl⟩, q⟩
theorem opB0 {f : Value → Value → Sem Value} {g : Int → Int → Bool}
  (rule : ∀ (i j : Int) (t u : Tok) (s : Shared) (Q : Value → Shared → Prop) (E : Value → Shared → Prop), Q (.bool (g i j)) s → wpAny (model X.prog X.w) X.A (f (.int i t) (.int j u)) Q E s) :
  OpR X f (rI0 fun i j => .bl (g i j)) := by
 intro pins s σ H x y v u Q I rx ry h
 obtain ⟨i, j, rfl, rfl, q⟩ := h
 obtain ⟨t, rfl⟩ := rx
 obtain ⟨t', rfl⟩ := ry
 exact rule i j t t' s _ _ ⟨.bl (g i j), H, I, rfl, q⟩
noncomputable def CDiv (i j : Int) : Prop := 0 < j ∧ j < 1073741824
noncomputable def CPow (i j : Int) : Prop := 0 ≤ j ∧ j ≤ 1000000 ∧ i.natAbs < 2 ^ 64
noncomputable def CMul (i j : Int) : Prop := (-(2 ^ 64) < i ∧ i < 2 ^ 64) ∨ (-(2 ^ 64) < j ∧ j < 2 ^ 64)
theorem CMul.ok {i j : Int} (h : CMul i j) : IntMulOk i j := by
 rcases h with ⟨h1, h2⟩ | ⟨h1, h2⟩
 ·exact .of_left (intBits_le_64 h1 h2)
 ·exact .of_right (intBits_le_64 h1 h2)
theorem op_add : OpR X (binaryOp .Add) (rI0 fun i j => .int (i + j)) := opI0 fun _ _ _ _ _ _ _ q => add_int q
theorem op_sub : OpR X (binaryOp .Sub) (rI0 fun i j => .int (i - j)) := opI0 fun _ _ _ _ _ _ _ q => sub_int q
theorem op_mul : OpR X (binaryOp .Mult) (rI CMul fun i j => .int (i * j)) := opI fun _ _ _ _ _ _ _ hc q => mul_int q hc.ok
theorem op_fdiv : OpR X (binaryOp .FloorDiv) (rI CDiv fun i j => .int (i / j)) := opI fun i j _ _ _ _ _ hc q => by
 have h1 : (0 : Int) < j := hc.1
 have h2 : j < 1073741824 := hc.2
 exact floordiv_int (by omega) (by rw [Int.fdiv_eq_ediv_of_nonneg i (by omega)]; exact q) (.inl (PyProof.noPylong_small (by omega)))
theorem op_mod : OpR X (binaryOp .Mod) (rI (fun _ j => 0 < j) fun i j => .int (i % j)) := opI fun i j _ _ _ _ _ hc q => by
 have h1 : (0 : Int) < j := hc
 exact mod_int' (by omega) (by rw [Int.fmod_eq_emod_of_nonneg i (by omega)]; exact q)
theorem op_pow : OpR X (binaryOp .Pow) (rI CPow fun i j => .int (i ^ j.toNat)) := opI fun _ _ _ _ _ _ _ hc q => pow_int_small hc.1 hc.2.1 hc.2.2 q
theorem unI {f : Value → Sem Value} {g : Int → Int}
  (rule : ∀ (i : Int) (t : Tok) (s : Shared) (Q : Value → Shared → Prop) (E : Value → Shared → Prop), Q (.int (g i) s.toks) { s with toks := s.toks + 1 } → wpAny (model X.prog X.w) X.A (f (.int i t)) Q E s) :
  UnR X f (rU fun i => .int (g i)) := by
 intro pins s σ H x v Q I rx h
 obtain ⟨i, rfl, q⟩ := h
 obtain ⟨t, rfl⟩ := rx
 exact rule i t s _ _ ⟨.int (g i), H, I.tok _, ⟨_, rfl⟩, q⟩
theorem un_neg : UnR X (unaryOp .USub) (rU fun i => .int (-i)) := unI fun _ _ _ _ _ q => neg_int q
end
noncomputable def scal : V → V → Bool
 | .non, .non => true | .non, .int _ => true | .int _, .non => true | .non, .bl _ => true | .bl _, .non => true | .non, .str _ => true | .str _, .non => true
 | .int _, .int _ => true | .bl _, .bl _ => true | .str _, .str _ => true | .byt _, .byt _ => true
 | .int _, .str _ => true | .str _, .int _ => true | .bl _, .str _ => true | .str _, .bl _ => true
 | _, _ => false
noncomputable def rEq : R2 := fun x y H Q => scal x y = true ∧ Q (.bl (decide (x = y))) H
noncomputable def rNe : R2 := fun x y H Q => scal x y = true ∧ Q (.bl (!decide (x = y))) H
theorem dec_int {i j : Int} : decide (V.int i = V.int j) = (i == j) := by
 rw [Bool.eq_iff_iff]
 simp
theorem dec_bl {i j : Bool} : decide (V.bl i = V.bl j) = (i == j) := by
 rw [Bool.eq_iff_iff]
 simp
theorem dec_str {i j : Str} : decide (V.str i = V.str j) = (i == j) := by
 rw [Bool.eq_iff_iff]
 simp
theorem dec_byt {i j : Array UInt8} : decide (V.byt i = V.byt j) = (i.toList == j.toList) := by
 rw [Bool.eq_iff_iff]
 cases i
 cases j
 simp
section
variable {X : Cx} {a b c : Expr} {ta tb tc : TE} {pos : Pos}
theorem fin_bl {pins : List (Addr × Obj)} {σ : St} {H : Hp} {s : Shared} {Q : VK} {k k' : Bool} (I : Inv X pins σ H s) (q : Q (.bl k) H) (e : k = k') : EP X pins σ Q (.bool k') s := by
 subst e
 exact ⟨.bl k, H, I, rfl, q⟩
theorem op_eq : OpR X (compareOp .Eq) rEq := by
 intro pins s σ H x y v u Q I rx ry h
 obtain ⟨hs, q⟩ := h
 cases x with
 | non =>
  cases rx
  cases y with
  | non => cases ry; exact PySem.EqNone.eq_none_none (fin_bl I q (by simp))
  | bl j => cases ry; exact PySem.EqNone.eq_none_bool (fin_bl I q (by simp))
  | int j => obtain ⟨t', rfl⟩ := ry; exact PySem.EqNone.eq_none_int (fin_bl I q (by simp))
  | str j => obtain ⟨t', rfl⟩ := ry; exact PySem.EqNone.eq_none_str (fin_bl I q (by simp))
  | _ => exact absurd (show false = true from hs) Bool.false_ne_true
 | bl i =>
  cases rx
  cases y with
  | non => cases ry; exact PySem.EqNone.eq_bool_none (fin_bl I q (by simp))
  | bl j => cases ry; exact eq_bool (fin_bl I q dec_bl)
  | str j => obtain ⟨t', rfl⟩ := ry; exact PySem.EqMixed.eq_bool_str (fin_bl I q (by simp))
  | _ => exact absurd (show false = true from hs) Bool.false_ne_true
 | int i =>
  obtain ⟨t, rfl⟩ := rx
  cases y with
  | non => cases ry; exact PySem.EqNone.eq_int_none (fin_bl I q (by simp))
  | int j => obtain ⟨t', rfl⟩ := ry; exact eq_int (fin_bl I q dec_int)
  | str j => obtain ⟨t', rfl⟩ := ry; exact PySem.EqMixed.eq_int_str (fin_bl I q (by simp))
  | _ => exact absurd (show false = true from hs) Bool.false_ne_true
 | str i =>
  obtain ⟨t, rfl⟩ := rx
  cases y with
  | non => cases ry; exact PySem.EqNone.eq_str_none (fin_bl I q (by simp))
  | bl j => cases ry; exact PySem.EqMixed.eq_str_bool (fin_bl I q (by simp))
  | int j => obtain ⟨t', rfl⟩ := ry; exact PySem.EqMixed.eq_str_int (fin_bl I q (by simp))
  | str j => obtain ⟨t', rfl⟩ := ry; exact eq_str (fin_bl I q dec_str)
  | _ => exact absurd (show false = true from hs) Bool.false_ne_true
 | byt i =>
  obtain ⟨t, rfl⟩ := rx
  cases y with
  | byt j => obtain ⟨t', rfl⟩ := ry; exact PySem.W.eq_bytes (fin_bl I q dec_byt)
  | _ => exact absurd (show false = true from hs) Bool.false_ne_true
 | _ => cases y <;> exact absurd (show false = true from hs) Bool.false_ne_true
theorem op_ne : OpR X (compareOp .NotEq) rNe := by
 intro pins s σ H x y v u Q I rx ry h
 obtain ⟨hs, q⟩ := h
 cases x with
 | non =>
  cases rx
  cases y with
  | non => cases ry; exact PySem.EqNone.ne_none_none (fin_bl I q (by simp))
  | bl j => cases ry; exact PySem.EqNone.ne_none_bool (fin_bl I q (by simp))
  | int j => obtain ⟨t', rfl⟩ := ry; exact PySem.EqNone.ne_none_int (fin_bl I q (by simp))
  | str j => obtain ⟨t', rfl⟩ := ry; exact PySem.EqNone.ne_none_str (fin_bl I q (by simp))
  | _ => exact absurd (show false = true from hs) Bool.false_ne_true
 | bl i =>
  cases rx
  cases y with
  | non => cases ry; exact PySem.EqNone.ne_bool_none (fin_bl I q (by simp))
  | bl j => cases ry; exact ne_bool (fin_bl I q (congrArg not dec_bl))
  | str j => obtain ⟨t', rfl⟩ := ry; exact PySem.EqMixed.ne_bool_str (fin_bl I q (by simp))
  | _ => exact absurd (show false = true from hs) Bool.false_ne_true
 | int i =>
  obtain ⟨t, rfl⟩ := rx
  cases y with
  | non => cases ry; exact PySem.EqNone.ne_int_none (fin_bl I q (by simp))
  | int j => obtain ⟨t', rfl⟩ := ry; exact ne_int (fin_bl I q (congrArg not dec_int))
  | str j => obtain ⟨t', rfl⟩ := ry; exact PySem.EqMixed.ne_int_str (fin_bl I q (by simp))
  | _ => exact absurd (show false = true from hs) Bool.false_ne_true
 | str i =>
  obtain ⟨t, rfl⟩ := rx
  cases y with
  | non => cases ry; exact PySem.EqNone.ne_str_none (fin_bl I q (by simp))
  | bl j => cases ry; exact PySem.EqMixed.ne_str_bool (fin_bl I q (by simp))
  | int j => obtain ⟨t', rfl⟩ := ry; exact PySem.EqMixed.ne_str_int (fin_bl I q (by simp))
  | str j => obtain ⟨t', rfl⟩ := ry; exact ne_str (fin_bl I q (congrArg not dec_str))
  | _ => exact absurd (show false = true from hs) Bool.false_ne_true
 | byt i =>
  obtain ⟨t, rfl⟩ := rx
  cases y with
  | byt j => obtain ⟨t', rfl⟩ := ry; exact PySem.W.ne_bytes (fin_bl I q (congrArg not dec_byt))
  | _ => exact absurd (show false = true from hs) Bool.false_ne_true
 | _ => cases y <;> exact absurd (show false = true from hs) Bool.false_ne_true
theorem op_lt : OpR X (compareOp .Lt) (rI0 fun i j => .bl (decide (i < j))) := opB0 fun _ _ _ _ _ _ _ q => lt_int q
theorem op_le : OpR X (compareOp .LtE) (rI0 fun i j => .bl (decide (i ≤ j))) := opB0 fun _ _ _ _ _ _ _ q => le_int q
theorem op_gt : OpR X (compareOp .Gt) (rI0 fun i j => .bl (decide (j < i))) := opB0 fun _ _ _ _ _ _ _ q => gt_int q
theorem op_ge : OpR X (compareOp .GtE) (rI0 fun i j => .bl (decide (j ≤ i))) := opB0 fun _ _ _ _ _ _ _ q => ge_int q
theorem op_isN : OpR X (compareOp .Is) (fun x y H Q => y = .non ∧ Q (.bl (decide (x = .non))) H) := by
 intro pins s σ H x y v u Q I rx ry h
 obtain ⟨rfl, q⟩ := h
 cases ry
 refine is_none_gen (fin_bl I q ?_)
 cases x <;> first
  | (cases rx; rfl)
  | (obtain ⟨t, rfl⟩ := rx; rfl)
theorem op_notN : OpR X (compareOp .IsNot) (fun x y H Q => y = .non ∧ Q (.bl (!decide (x = .non))) H) := by
 intro pins s σ H x y v u Q I rx ry h
 obtain ⟨rfl, q⟩ := h
 cases ry
 refine isnot_none_gen (fin_bl I q ?_)
 cases x <;> first
  | (cases rx; rfl)
  | (obtain ⟨t, rfl⟩ := rx; rfl)
theorem nomark (b : Expr) {op : CmpOp} (h : op ≠ .In := by decide) (h2 : op ≠ .NotIn := by decide) : behindInMarks op b = false := by
 have e1 : (op == CmpOp.In) = false := by cases op <;> first | rfl | exact absurd rfl h
 have e2 : (op == CmpOp.NotIn) = false := by cases op <;> first | rfl | exact absurd rfl h2
 cases b <;> simp [behindInMarks, e1, e2]
theorem pe_cmpR {op : CmpOp} {r : R2} (ho : OpR X (compareOp op) r) (ha : PE X a ta) (hb : PE X b tb) (hm : behindInMarks op b = false) : PE X (.Compare a [op] [b] pos) (tOp r ta tb) := by
 intro pins s σ H Q I h
 exact wpAny_Compare1 (binT ha hb I h fun v u s2 x y H2 I2 rx ry q => ho pins s2 σ H2 x y v u Q I2 rx ry q) hm
noncomputable def tTest (t : TE) : TT := fun σ H Q => t σ H fun x H' => ∃ k, x = .bl k ∧ Q k H'
theorem qu {op : CmpOp} {r : R2} (ho : OpR X (compareOp op) r) (ha : PE X a ta) (hb : PE X b tb) (hm : behindInMarks op b = false) : PT X (.Compare a [op] [b] pos) (tTest (tOp r ta tb)) := by
 intro pins s σ H Q I h
 refine wpAny_isTrue_Compare1 (thn (ha pins s σ H _ I h) fun v s1 ⟨x, H1, I1, r1, q1⟩ => thn (hb pins s1 σ H1 _ I1 q1) fun u s2 ⟨y, H2, I2, r2, q2⟩ =>
  thn (ho pins s2 σ H2 x y v u _ I2 r1 r2 q2) fun c s3 ⟨z, H3, I3, r3, k, e, q3⟩ => ?_) hm
 subst e
 cases r3
 exact wpAny_truthy_bool ⟨H3, I3, q3⟩
noncomputable def tChain (r r' : R2) (ta tb tc : TE) : TE := fun σ H Q => ta σ H fun x H1 => tb σ H1 fun y H2 => r x y H2 fun z H3 => ∃ k, z = .bl k ∧
 (if k = true then tc σ H3 fun w' H4 => r' y w' H4 Q else Q (.bl false) H3)
theorem pe_chain {op op' : CmpOp} {r r' : R2} (ho : OpR X (compareOp op) r) (ho' : OpR X (compareOp op') r') (ha : PE X a ta) (hb : PE X b tb) (hc : PE X c tc)
  (hm : lastMarks [op, op'] [b, c] = false := by with_unfolding_all rfl) : PE X (.Compare a [op, op'] [b, c] pos) (tChain r r' ta tb tc) := by
 intro pins s σ H Q I h
 refine Compare_chain (thn (ha pins s σ H _ I h) fun v s1 ⟨x, H1, I1, r1, q1⟩ => chain_link (thn (hb pins s1 σ H1 _ I1 q1) fun u s2 ⟨y, H2, I2, r2, q2⟩ =>
  thn (ho pins s2 σ H2 x y v u _ I2 r1 r2 q2) fun d s3 ⟨z, H3, I3, r3, k, e, q3⟩ => ?_)) hm
 subst e
 cases r3
 refine wpAny_truthy_bool ?_
 cases k with
 | false => exact ite_ff ⟨.bl false, H3, I3, rfl, q3⟩
 | true => exact ite_tt (chain_last (thn (hc pins s3 σ H3 _ I3 q3) fun w' s4 ⟨z', H4, I4, r4, q4⟩ => ho' pins s4 σ H4 y z' u w' Q I4 r2 r4 q4))
theorem pt_chain {op op' : CmpOp} {r r' : R2} (ho : OpR X (compareOp op) r) (ho' : OpR X (compareOp op') r') (ha : PE X a ta) (hb : PE X b tb) (hc : PE X c tc)
  (hm : lastMarks [op, op'] [b, c] = false := by with_unfolding_all rfl) : PT X (.Compare a [op, op'] [b, c] pos) (tTest (tChain r r' ta tb tc)) := by
 intro pins s σ H Q I h
 refine isTrue_chain (thn (ha pins s σ H _ I h) fun v s1 ⟨x, H1, I1, r1, q1⟩ => test_link (thn (hb pins s1 σ H1 _ I1 q1) fun u s2 ⟨y, H2, I2, r2, q2⟩ =>
  thn (ho pins s2 σ H2 x y v u _ I2 r1 r2 q2) fun d s3 ⟨z, H3, I3, r3, k, e, q3⟩ => ?_)) hm
 subst e
 cases r3
 refine wpAny_truthy_bool ?_
 cases k with
 | false =>
  obtain ⟨k', e', q'⟩ := q3
  cases e'
  exact ite_ff ⟨H3, I3, q'⟩
 | true =>
  refine ite_tt (test_last (thn (hc pins s3 σ H3 _ I3 q3) fun w' s4 ⟨z', H4, I4, r4, q4⟩ => thn (ho' pins s4 σ H4 y z' u w' _ I4 r2 r4 q4) fun d' s5 hh9 => ?_))
  obtain ⟨z2, H5, I5, r5, k2, e2, q5⟩ := hh9
  subst e2
  cases r5
  exact wpAny_truthy_bool ⟨H5, I5, q5⟩
noncomputable def TruV (K : PySem.W.Frag) (x : V) (H : Hp) (k : Bool) : Prop :=
 match x with
 | .non => k = false
 | .bl b => k = b
 | .int i => k = (i != 0)
 | .str y => y.length ≤ sizeLine ∧ k = ((y.length : Int) != 0)
 | .byt y => y.size ≤ sizeLine ∧ k = ((y.size : Int) != 0)
 | .ref p => (∃ xs, SqL K H p xs ∧ k = !xs.isEmpty) ∨ (∃ xs, SqT K H p xs ∧ k = !xs.isEmpty) ∨ ∃ kvs, H p = some (.dK kvs) ∧ k = !kvs.isEmpty
 | _ => False
theorem isEmpty_kv {κ : Type} {kvs : List (κ × V)} {vs : List (κ × Value)} (r : KV kvs vs) : (!vs.isEmpty) = !kvs.isEmpty := by
 cases r <;> rfl
theorem isEmpty_of {xs : List V} {its : List Value} (r : Vals xs its) : (!its.toArray.isEmpty) = !xs.isEmpty := by
 cases r <;> simp
theorem line63 : (sizeLine : Nat) < 2 ^ 63 := by rw [sizeLine_eq]; decide
theorem tru_ok : TruR X (fun x H Q => ∃ k, TruV X.K x H k ∧ Q k H) := by
 intro pins s σ H x v Q I rx h
 obtain ⟨k, e, q⟩ := h
 have hl := line63
 have hs : sizeLine = 16777216 := sizeLine_eq
 cases x with
 | non =>
  cases rx
  have e' : k = false := e
  subst e'
  exact truthy_none ⟨H, I, q⟩
 | bl b =>
  cases rx
  have e' : k = b := e
  subst e'
  exact wpAny_truthy_bool ⟨H, I, q⟩
 | int i =>
  obtain ⟨t, rfl⟩ := rx
  have e' : k = (i != 0) := e
  subst e'
  exact PySem.P.truthy_int ⟨H, I, q⟩
 | str y =>
  obtain ⟨t, rfl⟩ := rx
  obtain ⟨hy, e'⟩ : y.length ≤ sizeLine ∧ k = ((y.length : Int) != 0) := e
  subst e'
  exact PySem.P.truthy_str (by omega) ⟨H, I.tok _, q⟩
 | byt y =>
  obtain ⟨t, rfl⟩ := rx
  obtain ⟨hy, e'⟩ : y.size ≤ sizeLine ∧ k = ((y.size : Int) != 0) := e
  subst e'
  exact PySem.W.truthy_bytes (by omega) ⟨H, I.tok _, q⟩
 | ref p =>
  cases rx
  have e' : (∃ xs, SqL X.K H p xs ∧ k = !xs.isEmpty) ∨ (∃ xs, SqT X.K H p xs ∧ k = !xs.isEmpty) ∨ ∃ kvs, H p = some (.dK kvs) ∧ k = !kvs.isEmpty := e
  rcases e' with ⟨xs, hx, e'⟩ | ⟨xs, hx, e'⟩ | ⟨kvs, hx, e'⟩
  ·subst e'
   obtain ⟨its, r, pl, hz⟩ := I.list hx
   have hlen := r.length
   exact wpAny_truthy_list pl.isList (by simp only [List.size_toArray]; omega) ⟨H, I.tok _, by rw [isEmpty_of r]; exact q⟩
  ·subst e'
   obtain ⟨its, r, pl, hz⟩ := I.tuple hx
   have hlen := r.length
   exact truthy_tuple pl (by simp only [List.size_toArray]; omega) ⟨H, I.tok _, by rw [isEmpty_of r]; exact q⟩
  ·subst e'
   obtain ⟨hz, hS, vs, r, m⟩ : kvs.length ≤ sizeLine ∧ (p == sysModules) = false ∧ ∃ vs, KV kvs vs ∧ s.heap.DictOf (mixKind X.prog X.w) p vs := I.hok p _ hx
   have hlen : kvs.length = vs.length := Paired.length r
   exact wpAny_truthy_dict hS m (by omega) ⟨H, I.tok _, by rw [isEmpty_kv r]; exact q⟩
 | _ => exact (show False from e).elim
theorem pt_truth (ha : PE X a ta) (he : ∀ whole, isTrue a X.env whole = (do let v ← whole; standAt a.pos; holding [v] (truthy v))) :
  PT X a (fun σ H Q => ta σ H fun x H' => ∃ k, TruV X.K x H' k ∧ Q k H') := by
 intro pins s σ H Q I h
 exact isTrue_plain (thn (ha pins s σ H _ I h) fun v s1 ⟨x, H1, I1, r1, q1⟩ => tru_ok pins s1 σ H1 x v Q I1 r1 q1) (he _)
theorem op_add_str : OpR X (binaryOp .Add) (fun x y H Q => ∃ i j, x = .str i ∧ y = .str j ∧ i.length + j.length ≤ sizeLine ∧ Q (.str (i ++ j)) H) := by
 intro pins s σ H x y v u Q I rx ry h
 obtain ⟨i, j, rfl, rfl, hz, q⟩ := h
 obtain ⟨t, rfl⟩ := rx
 obtain ⟨t', rfl⟩ := ry
 exact add_str (fun t' tk => ⟨.str (i ++ j), H, I.tok _, ⟨_, rfl⟩, q⟩) hz
theorem vals1 {x : V} {us : List Value} (r : Vals [x] us) : ∃ u, us = [u] ∧ RelV x u := by
 cases r with
 | cons r1 r2 => cases r2; exact ⟨_, rfl, r1⟩
theorem vals2 {x y : V} {us : List Value} (r : Vals [x, y] us) : ∃ u w', us = [u, w'] ∧ RelV x u ∧ RelV y w' := by
 cases r with
 | cons r1 r2 =>
  cases r2 with
  | cons r3 r4 => cases r4; exact ⟨_, _, rfl, r1, r3⟩
theorem call_max2 (hc : X.calm = true) : CallR X (.builtin "max") (fun xs H Q => ∃ i j, xs = [.int i, .int j] ∧ Q (.int (if j > i then j else i)) H) := by
 intro pins s σ H xs us Q I r h
 obtain ⟨i, j, rfl, q⟩ := h
 obtain ⟨u, w', rfl, ⟨t, rfl⟩, ⟨t', rfl⟩⟩ := vals2 r
 refine max_two_ints (I.ok.hd hc) fun h' tk k => ⟨_, H, I.kept k, ?_, q⟩
 by_cases hj : j > i
 ·rw [if_pos hj, if_pos hj]; exact ⟨_, rfl⟩
 ·rw [if_neg hj, if_neg hj]; exact ⟨_, rfl⟩
theorem call_min2 (hc : X.calm = true) : CallR X (.builtin "min") (fun xs H Q => ∃ i j, xs = [.int i, .int j] ∧ Q (.int (if j < i then j else i)) H) := by
 intro pins s σ H xs us Q I r h
 obtain ⟨i, j, rfl, q⟩ := h
 obtain ⟨u, w', rfl, ⟨t, rfl⟩, ⟨t', rfl⟩⟩ := vals2 r
 refine min_two_ints (I.ok.hd hc) fun h' tk k => ⟨_, H, I.kept k, ?_, q⟩
 by_cases hj : j < i
 ·rw [if_pos hj, if_pos hj]; exact ⟨_, rfl⟩
 ·rw [if_neg hj, if_neg hj]; exact ⟨_, rfl⟩
theorem call_int1 : CallR X (.type "int") (fun xs H Q => (∃ i, xs = [.int i] ∧ Q (.int i) H) ∨ ∃ k, xs = [.bl k] ∧ Q (.int (if k then 1 else 0)) H) := by
 intro pins s σ H xs us Q I r h
 rcases h with ⟨i, rfl, q⟩ | ⟨k, rfl, q⟩
 ·obtain ⟨u, rfl, t, rfl⟩ := vals1 r
  exact call_int_int ⟨.int i, H, I, ⟨_, rfl⟩, q⟩
 ·obtain ⟨u, rfl, r1⟩ := vals1 r
  cases r1
  exact call_int_bool ⟨.int (if k then 1 else 0), H, I.tok _, ⟨_, rfl⟩, q⟩
noncomputable def LenV (K : PySem.W.Frag) (x : V) (H : Hp) (n : Nat) : Prop :=
 match x with
 | .str y => y.length ≤ sizeLine ∧ n = y.length
 | .byt y => y.size ≤ sizeLine ∧ n = y.size
 | .ref p => (∃ xs, SqL K H p xs ∧ n = xs.length) ∨ ∃ xs, SqT K H p xs ∧ n = xs.length
 | _ => False
theorem call_len : CallR X (.builtin "len") (fun xs H Q => ∃ x n, xs = [x] ∧ LenV X.K x H n ∧ Q (.int n) H) := by
 intro pins s σ H xs us Q I r h
 obtain ⟨x, n, rfl, e, q⟩ := h
 obtain ⟨u, rfl, rx⟩ := vals1 r
 have hl := line63
 have hs : sizeLine = 16777216 := sizeLine_eq
 cases x with
 | str y =>
  obtain ⟨t, rfl⟩ := rx
  obtain ⟨hy, e'⟩ : y.length ≤ sizeLine ∧ n = y.length := e
  subst e'
  exact len_str (by omega) ⟨.int _, H, I.tok _, ⟨_, rfl⟩, q⟩
 | byt y =>
  obtain ⟨t, rfl⟩ := rx
  obtain ⟨hy, e'⟩ : y.size ≤ sizeLine ∧ n = y.size := e
  subst e'
  exact PySem.W.len_bytes (by omega) ⟨.int _, H, I.tok _, ⟨_, rfl⟩, q⟩
 | ref p =>
  cases rx
  have e' : (∃ xs, SqL X.K H p xs ∧ n = xs.length) ∨ ∃ xs, SqT X.K H p xs ∧ n = xs.length := e
  rcases e' with ⟨xs, hx, e'⟩ | ⟨xs, hx, e'⟩
  ·subst e'
   obtain ⟨its, r', pl, hz⟩ := I.list hx
   have hlen := r'.length
   exact Calls.call_len_list pl.isList (by simp only [List.size_toArray]; omega) ⟨.int xs.length, H, I.tok _, ⟨_, by simp only [List.size_toArray]; rw [hlen]⟩, q⟩
  ·subst e'
   obtain ⟨its, r', pl, hz⟩ := I.tuple hx
   have hlen := r'.length
   exact len_tuple pl (by simp only [List.size_toArray]; omega) ⟨.int xs.length, H, I.tok _, ⟨_, by simp only [List.size_toArray]; rw [hlen]⟩, q⟩
 | _ => exact (show False from e).elim
end
end L2
namespace L2
open PySem PySem.Spec PyProof.Rows
structure ObjM (h : Heap) (x dx C : Addr) (mA : Str → Option Value) : Prop where
 obj : h.get? x = some (PySem.W.instObj C dx)
 ns : h.Ns1 dx mA
 ne : dx ≠ x
theorem lookIn_ns {h : Heap} {dx : Addr} {mA : Str → Option Value} (n : h.Ns1 dx mA) : ∃ od, h.get? dx = some od ∧ ∀ name, PySem.W.lookIn name od = some (mA name) := by
 obtain ⟨o, es, ep, ho, hd, hk, _, hm⟩ := n
 refine ⟨o, ho, fun name => ?_⟩
 have e := hm name
 unfold nsFind findBy at e
 rw [← Array.find?_toList] at e
 unfold PySem.W.lookIn
 rw [hd]
 dsimp only
 split
 ·rename_i y q
  rw [q] at e
  exact congrArg some e
 ·rename_i q
  rw [q] at e
  have a : es.toList.any (·.refKey) = false := by
   rw [List.any_eq_false]
   intro y hy
   obtain ⟨z, t, hkey⟩ := hk y (Array.mem_toList_iff.mp hy)
   simp [DictEntry.refKey, hkey]
  have a' : ¬ es.toList.any (·.refKey) = true := by rw [a]; exact Bool.false_ne_true
  rw [if_neg a']
  exact congrArg some e
theorem ObjM.look {h : Heap} {x dx C : Addr} {mA : Str → Option Value} (I : ObjM h x dx C mA) : ∃ od, PySem.W.InstAt h x (PySem.W.instObj C dx) C (some od) ∧ ∀ name, PySem.W.lookIn name od = some (mA name) :=
 let ⟨od, ho, hl⟩ := lookIn_ns I.ns
 ⟨od, ⟨I.obj, rfl, rfl, ho⟩, hl⟩
section
variable {prog : Program} {w : World} {A : Around} {E : Value → Shared → Prop} {s : Shared} {K : PySem.W.Frag} {x dx C f : Addr} {mA : Str → Option Value} {name : Str} {v : Value}
theorem get_map {expr : Bool} {Q : Value → Shared → Prop} (X : K.In s.heap) (I : ObjM s.heap x dx C mA) (hg : PySem.W.plainGet K C name = true) (hh : PySem.W.hasDictIn K C = true)
  (ha : PySem.W.findIn K (.ref C) name = some none) (hv : mA name = some v) (hv' : PySem.W.handedIn v = true) (h : Q v { s with toks := s.toks + 1 }) :
  wpAny (model prog w) A (getAttr (.ref x) name expr) Q E s := by
 obtain ⟨od, J, hl⟩ := I.look
 exact PySem.W.get_value X J (PySem.W.plainGet_of hg).1 (PySem.W.findObj_own hh ha rfl (by rw [hl, hv])) hv' h
theorem get_meth {pl : Sem Bool} {Q : Value × List Value → Shared → Prop} (X : K.In s.heap) (I : ObjM s.heap x dx C mA) (hg : PySem.W.plainGet K C name = true)
  (hf : PySem.W.findIn K (.ref C) name = some (some (.ref f))) (ht : PySem.W.isFn K (.ref f) = true) (hv : mA name = none) (h : Q (.ref f, [.ref x]) s) :
  wpAny (model prog w) A (getMethod (.ref x) name pl) Q E s := by
 obtain ⟨od, J, hl⟩ := I.look
 exact PySem.W.method_fn X J (PySem.W.plainGet_of hg).1 (PySem.W.plainGet_of hg).2 hf (beq_iff_eq.mp ht) (by show (PySem.W.lookIn name od).map (·.isSome) = some false; rw [hl, hv]; rfl) h
theorem set_map {ns : List Str} {Q : Unit → Shared → Prop} (X : K.In s.heap) (I : ObjM s.heap x dx C mA)
  (hs : PySem.W.findIn K (.ref C) "__setattr__" = some (some (.builtin "object.__setattr__"))) (hp : PySem.W.plainOver K C = true) (ht : PySem.W.takerIn K C name = some none) (hh : PySem.W.hasDictIn K C = true)
  (hw : PySem.Within mA ns) (hsz : ns.length ≤ sizeLine)
  (h : ∀ h', ObjM h' x dx C (fun y => if y = name then some v else mA y) → Heap.SameBut dx s.heap h' → Q () { s with heap := h', toks := s.toks + 2 }) :
  wpAny (model prog w) A (setAttr (.ref x) name v) Q E s := by
 obtain ⟨od, J, hl⟩ := I.look
 refine PySem.W.set_plain X J hs (PySem.W.osa_open (s := { s with toks := s.toks + 1 }) (r := none) X J hp ht fun b => ?_)
 obtain ⟨cd, hc, hd'⟩ := PySem.W.any_some hh
 have hx : s.heap.get? x = some ⟨.ref C, some dx, .plain, #[]⟩ := I.obj
 refine wpAny_bind (wpAny_pure (wpAny_bind (wpAny_bind (wpAny_loadPart hx (wpAny_bind (PySem.W.Looks.here (s := { s with toks := s.toks + 1 }) (PySem.W.looks_clsIn X hc) ?_))))))
 rw [hd']
 refine wpAny_pure (a := some dx) (wpAny_bind (wpAny_pure (wpAny_bind ?_)))
 refine wpAny_nsSet1 (s := { s with toks := s.toks + 1 }) I.ns fun h' hn2 hs2 => ?_
 obtain ⟨oD, esD, epD, hoD, hdD, hcD⟩ := hn2.count (PySem.Within.cons name v hw)
 refine wpAny_bind (wpAny_lookBehind hoD (by rw [hdD]; exact pastItsLine_dict (Nat.le_trans hcD (by rw [List.length_cons]; omega))) ?_)
 exact wpAny_pure (h _ ⟨(hs2.2 _ (Ne.symm I.ne)).trans I.obj, hn2, I.ne⟩ hs2)
theorem make_map {R : Result → Shared → Prop} {vs : List Value} {kw : List (Str × Value)} (X : K.In s.heap) (hm : PySem.W.makesIn K C = true)
  (hi : PySem.W.findIn K (.ref C) "__init__" = some (some (.ref f))) (hf : PySem.W.typeIn K (.ref f) = some (.type "function"))
  (h : codeAny (model prog w) (A.under (.builtin "type.__call__" ⟨.ref C :: vs, kw⟩)) (.call (.ref f) ⟨.ref (s.heap.objs.size + 1) :: vs, kw⟩) (PySem.W.InitBack (s.heap.objs.size + 1) R)
   { s with heap := (s.heap.push PySem.W.emptyDict).push (PySem.W.instObj C s.heap.objs.size) }) :
  codeAny (model prog w) A (.call (.ref C) ⟨vs, kw⟩) R s := by
 obtain ⟨hh, g, d, t, os⟩ := s
 exact PySem.W.make_core (PySem.W.makes_of X hm) (PySem.W.looks_findIn X hi) (fun self => PySem.W.bind_fn X self hf) (.inl rfl) h
end
noncomputable def putF (f : Str) (v : V) : List (Str × V) → List (Str × V)
 | [] => [(f, v)]
 | (g, x) :: r => if g = f then (g, v) :: r else (g, x) :: putF f v r
theorem lookup_putF (f g : Str) (v : V) : ∀ fs : List (Str × V), (putF f v fs).lookup g = if g = f then some v else fs.lookup g
 | [] => by
  show List.lookup g [(f, v)] = _
  by_cases h : g = f
  ·have hb : (g == f) = true := beq_iff_eq.mpr h
   simp only [List.lookup, hb, if_pos h]
  ·have hb : (g == f) = false := beq_eq_false_iff_ne.mpr h
   simp only [List.lookup, hb, if_neg h]
 | (k, x) :: r => by
  have ih := lookup_putF f g v r
  rw [show putF f v ((k, x) :: r) = (if k = f then (k, v) :: r else (k, x) :: putF f v r) from rfl]
  by_cases hk : k = f
  ·rw [if_pos hk]
   by_cases h : g = k
   ·have hb : (g == k) = true := beq_iff_eq.mpr h
    simp only [List.lookup, hb, if_pos (h.trans hk)]
   ·have hb : (g == k) = false := beq_eq_false_iff_ne.mpr h
    simp only [List.lookup, hb, if_neg (fun e : g = f => h (e.trans hk.symm))]
  ·rw [if_neg hk]
   by_cases h : g = k
   ·have hb : (g == k) = true := beq_iff_eq.mpr h
    simp only [List.lookup, hb, if_neg (fun e : g = f => hk (h.symm.trans e))]
   ·have hb : (g == k) = false := beq_eq_false_iff_ne.mpr h
    simp only [List.lookup, hb]
    exact ih
theorem keys_putF (f : Str) (v : V) : ∀ fs : List (Str × V), f ∈ (putF f v fs).map (·.1) ∧ ∀ g, g ∈ fs.map (·.1) → g ∈ (putF f v fs).map (·.1)
 | [] => ⟨by simp [putF], fun g h => by simp at h⟩
 | (k, x) :: r => by
  obtain ⟨i1, i2⟩ := keys_putF f v r
  rw [show putF f v ((k, x) :: r) = (if k = f then (k, v) :: r else (k, x) :: putF f v r) from rfl]
  by_cases hk : k = f
  ·rw [if_pos hk]
   subst hk
   exact ⟨by simp, fun g h => by simpa using h⟩
  ·rw [if_neg hk]
   refine ⟨?_, fun g h => ?_⟩
   ·rw [List.map_cons]
    exact List.mem_cons_of_mem _ i1
   ·rw [List.map_cons] at h ⊢
    rcases List.mem_cons.mp h with e | e
    ·exact List.mem_cons.mpr (.inl e)
    ·exact List.mem_cons_of_mem _ (i2 g e)
theorem length_putF (f : Str) (v : V) : ∀ fs : List (Str × V), (putF f v fs).length ≤ fs.length + 1
 | [] => by simp [putF]
 | (k, x) :: r => by
  have ih := length_putF f v r
  rw [show putF f v ((k, x) :: r) = (if k = f then (k, v) :: r else (k, x) :: putF f v r) from rfl]
  by_cases hk : k = f
  ·rw [if_pos hk, List.length_cons, List.length_cons]; omega
  ·rw [if_neg hk, List.length_cons, List.length_cons]; omega
theorem RelO.some_of {v : V} {o : Option Value} (r : RelO (some v) o) : ∃ u, o = some u ∧ RelV v u := by
 cases o with
 | none => exact (show False from r).elim
 | some u => exact ⟨u, rfl, r⟩
theorem RelO.none_of {o : Option Value} (r : RelO none o) : o = none := by
 cases o with
 | none => rfl
 | some u => exact (show False from r).elim
theorem handed_of {v : V} {u : Value} (r : RelV v u) : PySem.W.handedIn u = true := by
 cases v with
 | non => cases (show u = Value.none from r); rfl
 | bl b => cases (show u = Value.bool b from r); rfl
 | int i => obtain ⟨t, e⟩ := (show ∃ t, u = Value.int i t from r); cases e; rfl
 | str x => obtain ⟨t, e⟩ := (show ∃ t, u = Value.str x t from r); cases e; rfl
 | byt b => obtain ⟨t, e⟩ := (show ∃ t, u = Value.bytes b t from r); cases e; rfl
 | flt b => obtain ⟨t, e⟩ := (show ∃ t, u = Value.float b t from r); cases e; rfl
 | ref a => cases (show u = Value.ref a from r); rfl
 | ty n => cases (show u = Value.type n from r); rfl
section
variable {P : Program} {w : World} {H H' : Hp} {h h' : Heap} {a C dx : Addr} {fs fs' : List (Str × V)}
theorem ins_get (hok : HOk P w H h) (e : H a = some (.ins C dx fs)) : ∃ mA, ObjM h a dx C mA ∧ (∀ f, RelO (fs.lookup f) (mA f)) ∧ PySem.Within mA (fs.map (·.1)) ∧ fs.length ≤ 1000 ∧ H dx = some (.own a) := by
 obtain ⟨d, z, ne, ob, mA, n, r, q⟩ := (show ObjOk P w H h a (.ins C dx fs) from hok a _ e)
 exact ⟨mA, ⟨ob, n, ne⟩, r, q, z, d⟩
end
structure Cls (K : PySem.W.Frag) (C : Addr) : Prop where
 pg : PySem.W.plainGet K C Str.empty = true
 hd : PySem.W.hasDictIn K C = true
 po : PySem.W.plainOver K C = true
 sa : PySem.W.findIn K (.ref C) "__setattr__" = some (some (.builtin "object.__setattr__"))
theorem Cls.get {K : PySem.W.Frag} {C : Addr} (c : Cls K C) (f : Str) : PySem.W.plainGet K C f = true := c.pg
noncomputable def NoAttr (K : PySem.W.Frag) (C : Addr) (f : Str) : Prop := PySem.W.findIn K (.ref C) f = some none
theorem NoAttr.taker {K : PySem.W.Frag} {C : Addr} {f : Str} (n : NoAttr K C f) : PySem.W.takerIn K C f = some none := by
 unfold PySem.W.takerIn
 rw [show PySem.W.findIn K (.ref C) f = some none from n]
 rfl
structure Meth (K : PySem.W.Frag) (C : Addr) (m : Str) (f : Addr) : Prop where
 at_ : PySem.W.findIn K (.ref C) m = some (some (.ref f))
 fn : PySem.W.isFn K (.ref f) = true
 kp : PySem.W.keepIn K (.ref f) = true
section
variable {X : Cx} {pins : List (Addr × Obj)} {σ : St} {H : Hp} {s : Shared} {a C dx : Addr} {fs : List (Str × V)} {f : Str} {v : V} {A : Around} {E : Value → Shared → Prop}
theorem getattr_ok {b : Bool} {Q : Value → Shared → Prop} (I : Inv X pins σ H s) (e : H a = some (.ins C dx fs)) (c : Cls X.K C) (n : NoAttr X.K C f) (l : fs.lookup f = some v)
  (h : ∀ u s', Inv X pins σ H s' → RelV v u → Q u s') : wpAny (model X.prog X.w) A (getAttr (.ref a) f b) Q E s := by
 obtain ⟨mA, O, r, _, _, _⟩ := ins_get I.hok e
 obtain ⟨u, hu, ru⟩ := RelO.some_of (v := v) (o := mA f) (by rw [← l]; exact r f)
 exact get_map I.kIn O (c.get f) c.hd n hu (handed_of ru) (h u _ (I.tok _) ru)
theorem getmeth_ok {m : Str} {g : Addr} {pl : Sem Bool} {Q : Value × List Value → Shared → Prop} (I : Inv X pins σ H s) (e : H a = some (.ins C dx fs)) (c : Cls X.K C) (k : Meth X.K C m g) (l : fs.lookup m = none)
  (h : Q (.ref g, [.ref a]) s) : wpAny (model X.prog X.w) A (getMethod (.ref a) m pl) Q E s := by
 obtain ⟨mA, O, r, _, _, _⟩ := ins_get I.hok e
 have hn : mA m = none := RelO.none_of (by rw [← l]; exact r m)
 exact get_meth I.kIn O (c.get m) k.at_ k.fn hn h
theorem setattr_ok {y : V} {u : Value} {Q : Unit → Shared → Prop} (I : Inv X pins σ H s) (e : H a = some (.ins C dx fs)) (c : Cls X.K C) (n : NoAttr X.K C f) (hl : fs.length < 1000) (ry : RelV y u)
  (h : ∀ s', Inv X pins σ (upd H a (.ins C dx (putF f y fs))) s' → Q () s') : wpAny (model X.prog X.w) A (setAttr (.ref a) f u) Q E s := by
 obtain ⟨mA, O, r, wi, _, ho⟩ := ins_get I.hok e
 have hz : (fs.map (·.1)).length ≤ sizeLine := by rw [List.length_map, sizeLine_eq]; omega
 refine set_map I.kIn O c.sa c.po n.taker c.hd wi hz fun h' O' sb => h _ ?_
 have hd : ∃ o, h'.get? dx = some o := let ⟨o, _, _, e', _⟩ := O'.ns; ⟨o, e'⟩
 refine I.write (x := a) (e := dx) (by rw [e]; exact True.intro) (.inr ho) (fun b q hb z => (sb.2 b hb).trans z) hd ?_
 refine ⟨by rw [qr O.ne]; exact ho, ?_, O.ne, O'.obj, _, O'.ns, fun g => ?_, fun g hg => ?_⟩
 ·have := length_putF f y fs; omega
 ·show RelO ((putF f y fs).lookup g) (if g = f then some u else mA g)
  rw [lookup_putF]
  by_cases q : g = f
  ·rw [if_pos q, if_pos q]; exact ry
  ·rw [if_neg q, if_neg q]; exact r g
 ·by_cases q : g = f
  ·rw [q]; exact (keys_putF f y fs).1
  ·refine (keys_putF f y fs).2 g (wi g fun z => hg ?_)
   show (if g = f then some u else mA g) = none
   rw [if_neg q]; exact z
theorem Inv.made (I : Inv X pins σ H s) : Inv X pins σ (upd (upd H s.heap.objs.size (.own (s.heap.objs.size + 1))) (s.heap.objs.size + 1) (.ins C s.heap.objs.size []))
  { s with heap := (s.heap.push PySem.W.emptyDict).push (PySem.W.instObj C s.heap.objs.size) } := by
 have e1 : (s.heap.push PySem.W.emptyDict).get? s.heap.objs.size = some PySem.W.emptyDict := Heap.get?_push_size s.heap rfl
 have e2 : ((s.heap.push PySem.W.emptyDict).push (PySem.W.instObj C s.heap.objs.size)).get? (s.heap.objs.size + 1) = some (PySem.W.instObj C s.heap.objs.size) := by
  have := Heap.get?_push_size (s.heap.push PySem.W.emptyDict) (o := PySem.W.instObj C s.heap.objs.size) rfl
  rwa [Heap.size_push] at this
 have e3 : (s.heap.push PySem.W.emptyDict).Ns s.heap.objs.size (fun _ => none) := ⟨PySem.W.emptyDict, #[], _, e1, rfl, (fun e he => absurd he (by simp)), fun _ => rfl⟩
 have I1 := I.laid (a := s.heap.objs.size) (o := .own (s.heap.objs.size + 1)) (h' := s.heap.push PySem.W.emptyDict) (t' := s.toks) (fun b u q => Heap.get?_push_of_some _ q) (Nat.le_refl _) ⟨_, e1⟩
 refine I1.laid (a := s.heap.objs.size + 1) (o := .ins C s.heap.objs.size []) (t' := s.toks) (fun b u q => Heap.get?_push_of_some _ q) (Nat.le_of_eq (Heap.size_push _ _)) ?_
 have ne : s.heap.objs.size ≠ s.heap.objs.size + 1 := Nat.ne_of_lt (Nat.lt_succ_self _)
 refine ⟨by rw [qr ne, qm], Nat.zero_le _, ne, e2, fun _ => none, (Heap.Ns1.of_empty e3).at fun o q => Heap.get?_push_of_some _ q, fun _ => True.intro, fun y hy => absurd rfl hy⟩
theorem attr_of {prog : Program} {w : World} {env : Env} {e : Expr} {f : Str} {pos : Pos} {s : Shared} {Q : Value → Shared → Prop} (hb : attributeBase e f env (eval e env) = eval e env)
  (h : wpAny (model prog w) A (eval e env) (fun o s₁ => wpAny (model prog w) A (getAttr o f true) Q E s₁) E s) : wpAny (model prog w) A (eval (.Attribute e f pos) env) Q E s :=
 Attribute_any_ h (by rw [arm_eval_Attribute, hb])
end
noncomputable def tFld (K : PySem.W.Frag) (ta : TE) (f : Str) : TE := fun σ H Q => ta σ H fun x H1 => ∃ a C dx fs v, x = .ref a ∧ H1 a = some (.ins C dx fs) ∧ Cls K C ∧ NoAttr K C f ∧ fs.lookup f = some v ∧ Q v H1
noncomputable def sFld (K : PySem.W.Frag) (ta tv : TE) (f : Str) : TS := fun D σ H => tv σ H fun y H1 => ta σ H1 fun x H2 => ∃ a C dx fs, x = .ref a ∧ H2 a = some (.ins C dx fs) ∧ Cls K C ∧ NoAttr K C f ∧ fs.length < 1000 ∧
 D.nx σ (upd H2 a (.ins C dx (putF f y fs)))
noncomputable def InOp (X : Cx) (op : Operator) (rd : V → V → Hp → VK → Prop) : Prop :=
 ∀ (pins : List (Addr × Obj)) (s : Shared) (σ : St) (H : Hp) (x y : V) (u v : Value) (Q : VK), Inv X pins σ H s → RelV x u → RelV y v → rd x y H Q → wpAny (model X.prog X.w) X.A (inplaceOp op u v) (EP X pins σ Q) X.xe s
noncomputable def sFldAug (K : PySem.W.Frag) (ta tv : TE) (rd : V → V → Hp → VK → Prop) (f : Str) : TS := fun D σ H => ta σ H fun x H1 => ∃ a C dx fs v, x = .ref a ∧ H1 a = some (.ins C dx fs) ∧ Cls K C ∧ NoAttr K C f ∧ fs.lookup f = some v ∧
 tv σ H1 fun y H2 => rd v y H2 fun z H3 => ∃ dx' fs', H3 a = some (.ins C dx' fs') ∧ fs'.length < 1000 ∧ D.nx σ (upd H3 a (.ins C dx' (putF f z fs')))
section
variable {X : Cx} {o e value : Expr} {f : Str} {pos pos' tpos : Pos} {ta tv : TE}
theorem pe_fld (he : PE X e ta) (hb : attributeBase e f X.env (eval e X.env) = eval e X.env) : PE X (.Attribute e f pos) (tFld X.K ta f) := by
 intro pins s σ H Q I h
 refine attr_of hb (thn (he pins s σ H _ I h) fun u s1 hh9 => ?_)
 obtain ⟨x, H1, I1, rx, a, C, dx, fs, v, ex, ea, c, n, l, q⟩ := hh9
 subst ex
 obtain rfl : u = Value.ref a := rx
 exact getattr_ok I1 ea c n l fun u' s2 I2 ru => ⟨v, H1, I2, ru, q⟩
theorem ps_fld (ha : PE X o ta) (hv : PE X value tv) (hs : swapsWith value (some (.Attribute o f pos')) pos.line X.env = pure false) : PS X (.Assign [.Attribute o f pos'] value pos) (sFld X.K ta tv f) := by
 intro pins s σ H D I h
 refine plainObj_wpAny_Assign_Attribute (thn (hv pins s σ H _ I h) fun u s1 ⟨y, H1, I1, ry, q⟩ => thn (ha pins s1 σ H1 _ I1 q) fun ov s2 hh9 => ?_) hs
 obtain ⟨x, H2, I2, rx, a, C, dx, fs, ex, ea, c, n, l, q2⟩ := hh9
 subst ex
 obtain rfl : ov = Value.ref a := rx
 exact setattr_ok I2 ea c n l ry fun s3 I3 => ⟨σ, _, I3, q2⟩
theorem ps_fldaug {op : Operator} {rd : V → V → Hp → VK → Prop} (ha : PE X o ta) (hv : PE X value tv) (hop : InOp X op rd) : PS X (.AugAssign (.Attribute o f tpos) op value pos) (sFldAug X.K ta tv rd f) := by
 intro pins s σ H D I h
 refine wpAny_AugAssign_AttributeAny (thn (ha pins s σ H _ I h) fun ov s1 hh9 => ?_)
 obtain ⟨x, H1, I1, rx, a, C, dx, fs, v, ex, ea, c, n, l, q⟩ := hh9
 subst ex
 obtain rfl : ov = Value.ref a := rx
 refine getattr_ok I1 ea c n l fun u s2 I2 ru => thn (hv pins s2 σ H1 _ I2 q) fun w3 s3 ⟨y, H2, I3, ry, q3⟩ => thn (hop pins s3 σ H2 v y u w3 _ I3 ru ry q3) fun w4 s4 hh9 => ?_
 obtain ⟨z, H3, I4, rz, dx', fs', ea', l', q4⟩ := hh9
 exact setattr_ok I4 ea' c n l' rz fun s5 I5 => ⟨σ, _, I5, q4⟩
noncomputable def rAdd : V → V → Hp → VK → Prop := fun x y H Q => ∃ i j, x = .int i ∧ y = .int j ∧ Q (.int (i + j)) H
theorem in_add : InOp X .Add rAdd := by
 rintro pins s σ H x y u v Q I rx ry ⟨i, j, rfl, rfl, q⟩
 obtain ⟨t, rfl⟩ := (show ∃ t, u = Value.int i t from rx)
 obtain ⟨t', rfl⟩ := (show ∃ t', v = Value.int j t' from ry)
 exact PyProof.Rows.iadd_int ⟨.int (i + j), H, I.tok _, ⟨_, rfl⟩, q⟩
end
section
variable {X : Cx} {pins : List (Addr × Obj)} {σ : St} {H : Hp} {s : Shared} {A : Around} {E : Value → Shared → Prop} {Q : Value → Shared → Prop} {c : Value} {b : Bool}
inductive TyOf (K : PySem.W.Frag) (H : Hp) : V → Value → Prop where
 | non : TyOf K H .non (.type "NoneType")
 | bl (x : Bool) : TyOf K H (.bl x) (.type "bool")
 | int (i : Int) : TyOf K H (.int i) (.type "int")
 | str (x : Str) : TyOf K H (.str x) (.type "str")
 | flt (x : UInt64) : TyOf K H (.flt x) (.type "float")
 | lst {a : Addr} {xs : List V} (e : H a = some (.lst xs)) : TyOf K H (.ref a) (.type "list")
 | frz {a : Addr} {o : Obj} {xs : List V} (e : H a = some (.frz o (.lst xs))) : TyOf K H (.ref a) (.type "list")
 | tup {a : Addr} {xs : List V} (e : H a = some (.tup xs)) : TyOf K H (.ref a) (.type "tuple")
 | dK {a : Addr} {kvs : List (Key × V)} (e : H a = some (.dK kvs)) : TyOf K H (.ref a) (.type "dict")
 | dT {a : Addr} {kvs : List (List Key × V)} (e : H a = some (.dT kvs)) : TyOf K H (.ref a) (.type "dict")
 | ins {a C dx : Addr} {fs : List (Str × V)} (e : H a = some (.ins C dx fs)) (cl : Cls K C) (ha : PySem.W.findIn K (.ref C) "__class__" = some (some (.builtin "object.__class__")))
   (hn : PySem.W.specialIn K (.builtin "object.__class__") "__get__" = some (some (.builtin "getset_descriptor.__get__"))) (htk : PySem.W.takesIn K (.builtin "object.__class__") = some true)
   (hm : PySem.W.mroIn K C (.type "object") = some true) : TyOf K H (.ref a) (.ref C)
theorem isinst_ok {x : V} {u t : Value} (I : Inv X pins σ H s) (rx : RelV x u) (ty : TyOf X.K H x t) (e : PySem.W.kitOne X.K t c = some b) (h : ∀ tk, Q (.bool b) { s with toks := tk }) :
  wpAny (model X.prog X.w) A (call (.builtin "isinstance") [u, c]) Q E s := by
 cases ty with
 | non => cases (show u = Value.none from rx); exact PySem.W.kia_one PySem.W.kitx_none I.kIn True.intro e (fun z => nomatch z) h
 | bl y => cases (show u = Value.bool y from rx); exact PySem.W.kia_one PySem.W.kitx_bool I.kIn True.intro e (fun z => nomatch z) h
 | int i => obtain ⟨t, q⟩ := (show ∃ t, u = Value.int i t from rx); cases q; exact PySem.W.kia_one PySem.W.kitx_int I.kIn True.intro e (fun z => nomatch z) h
 | str y => obtain ⟨t, q⟩ := (show ∃ t, u = Value.str y t from rx); cases q; exact PySem.W.kia_one PySem.W.kitx_str I.kIn True.intro e (fun z => nomatch z) h
 | flt y => obtain ⟨t, q⟩ := (show ∃ t, u = Value.float y t from rx); cases q; exact PySem.W.kia_one PySem.W.kitx_float I.kIn True.intro e (fun z => nomatch z) h
 | @lst a xs ea =>
  cases (show u = Value.ref a from rx)
  obtain ⟨_, _, n, _, h1⟩ := (show ObjOk X.prog X.w H s.heap a (.lst xs) from I.hok a _ ea)
  exact PySem.W.kia_one PySem.W.kitx_list I.kIn ⟨_, h1, rfl⟩ e (fun z => nomatch z) h
 | @frz a ob xs ea =>
  cases (show u = Value.ref a from rx)
  obtain ⟨_, _, _, n, _, h1⟩ := (show ObjOk X.prog X.w H s.heap a (.frz ob (.lst xs)) from I.hok a _ ea)
  exact PySem.W.kia_one PySem.W.kitx_list I.kIn ⟨_, h1, rfl⟩ e (fun z => nomatch z) h
 | @tup a xs ea =>
  cases (show u = Value.ref a from rx)
  obtain ⟨_, _, _, p⟩ := (show ObjOk X.prog X.w H s.heap a (.tup xs) from I.hok a _ ea)
  obtain ⟨o, h1, h2, _⟩ := p
  exact PySem.W.kia_one PySem.W.kitx_tuple I.kIn ⟨o, h1, h2⟩ e (fun z => nomatch z) h
 | @dK a kvs ea =>
  cases (show u = Value.ref a from rx)
  obtain ⟨_, _, vs, _, p⟩ := (show ObjOk X.prog X.w H s.heap a (.dK kvs) from I.hok a _ ea)
  obtain ⟨o, es, ep, h1, h2, _⟩ := p
  exact PySem.W.kia_one PySem.W.kitx_dict I.kIn ⟨o, h1, h2.1⟩ e (fun z => nomatch z) h
 | @dT a kvs ea =>
  cases (show u = Value.ref a from rx)
  obtain ⟨_, _, xs, _, o, es, ep, h1, h2, _⟩ := (show ObjOk X.prog X.w H s.heap a (.dT kvs) from I.hok a _ ea)
  exact PySem.W.kia_one PySem.W.kitx_dict I.kIn ⟨o, h1, h2.1⟩ e (fun z => nomatch z) h
 | @ins a C dx fs ea cl ha hn htk hm =>
  cases (show u = Value.ref a from rx)
  obtain ⟨mA, O, _⟩ := ins_get I.hok ea
  obtain ⟨od, J, _⟩ := O.look
  exact PySem.W.kia_one (PySem.W.kitx_own (cl.get _) cl.hd ha hn htk hm) I.kIn J e (fun z => nomatch z) h
end
end L2
namespace L2
open PySem PySem.Spec PyProof.Rows
structure Room (k : Nat) (A : Around) : Prop where
 hd : A.handled = none
 dp : A.depth + 3 * k + 5 < recursionLimit
 un : A.units + 16 * k + 200 < cLine
theorem Room.mono {j k : Nat} {A : Around} (r : Room k A) (h : j ≤ k) : Room j A := ⟨r.hd, by have := r.dp; omega, by have := r.un; omega⟩
theorem Room.deeper {k : Nat} {A : Around} (r : Room (k + 1) A) (env : Env) : Room k (A.deeper env) :=
 ⟨r.hd, by have := r.dp; show A.depth + 1 + 3 * k + 5 < _; omega, by have := r.un; show A.units + 3 + 16 * k + 200 < _; omega⟩
theorem make_depth {A : Around} {C : Addr} {us : List Value} {kw : List (Str × Value)} : (A.under (.builtin "type.__call__" ⟨.ref C :: us, kw⟩)).depth = A.depth + 1 := by
 first | rfl | simp [Around.under, Code.weight, Code.isCreation, Code.isGuard, Code.isCaller, Code.frames, Code.isFrame, guardIds]
theorem make_units {A : Around} {C : Addr} {us : List Value} {kw : List (Str × Value)} : (A.under (.builtin "type.__call__" ⟨.ref C :: us, kw⟩)).units = A.units + 1 := by
 first | rfl | simp [Around.under, Code.cUnits, Code.frames, Code.isFrame]
theorem Room.make {k : Nat} {A : Around} (r : Room (k + 1) A) (C : Addr) (us : List Value) (kw : List (Str × Value)) : Room k (A.under (.builtin "type.__call__" ⟨.ref C :: us, kw⟩)) :=
 ⟨r.hd, by have := r.dp; rw [make_depth]; omega, by have := r.un; rw [make_units]; omega⟩
theorem Room.depth {k : Nat} {A : Around} (r : Room k A) : A.depth < recursionLimit := by have := r.dp; omega
theorem Room.units {k : Nat} {A : Around} (r : Room k A) : A.units + 64 < cLine := by have := r.un; omega
noncomputable def tNil : TA := fun _ H Q => Q [] H
noncomputable def tCons (ta : TE) (tr : TA) : TA := fun σ H Q => ta σ H fun x H1 => tr σ H1 fun xs H2 => Q (x :: xs) H2
section
variable {X : Cx} {e : Expr} {es : List Expr} {te : TE} {t : TA} {pos : Pos}
theorem qj : PA X [] tNil := fun _ _ _ _ H Q I h => Calls.spliced_nil ⟨[], H, I, .nil, h⟩
theorem qc (ha : PE X e te) (hr : PA X es t) (hs : starEach (e :: es) X.env = (false, eval e X.env) :: starEach es X.env := by rfl) : PA X (e :: es) (tCons te t) := by
 intro pos pins s σ H Q I h
 rw [hs]
 show wpAny _ _ (spliced ((false, eval e X.env) :: backTo pos (starEach es X.env))) _ _ s
 refine Calls.spliced_cons (thn (ha pins s σ H _ I h) fun u s1 hh9 => ?_)
 obtain ⟨x, H1, I1, r1, q1⟩ := hh9
 exact thn (hr pos pins s1 σ H1 _ I1 q1) fun us s2 ⟨xs, H2, I2, r2, q2⟩ => ⟨x :: xs, H2, I2, .cons r1 r2, q2⟩
noncomputable def tTup (t : TA) : TE := fun σ H Q => t σ H fun xs H1 => xs.length ≤ sizeLine ∧ ∀ p, H1 p = none → Q (.ref p) (upd H1 p (.tup xs))
noncomputable def tLst (t : TA) : TE := fun σ H Q => t σ H fun xs H1 => xs.length ≤ sizeLine ∧ ∀ p, H1 p = none → Q (.ref p) (upd H1 p (.lst xs))
theorem zj {x1} (h : PA X es t) : PE X (.Tuple es x1 pos) (tTup t) := by
 intro pins s σ H Q I hq
 refine wpAny_Tuple_spliced (thn (h pos pins s σ H _ I hq) fun us s1 ⟨xs, H1, I1, r, z, q⟩ => ⟨by rw [← r.length]; exact z, ?_⟩)
 have hf : H1 s1.heap.objs.size = none := I1.hok.fresh (Nat.le_refl _)
 refine ⟨.ref s1.heap.objs.size, upd H1 s1.heap.objs.size (.tup xs), I1.laid (t' := s1.toks) (fun b u e => Heap.get?_push_of_some _ e) (Nat.le_refl _) ?_, rfl, q _ hf⟩
 exact ⟨z, us, r, ⟨_, Heap.get?_push_size _ rfl, rfl, _, rfl⟩⟩
theorem zh (h : PA X es t) : PE X (.List es pos) (tLst t) := by
 intro pins s σ H Q I hq
 refine wpAny_List_spliced (thn (h pos pins s σ H _ I hq) fun us s1 ⟨xs, H1, I1, r, z, q⟩ => ⟨by rw [← r.length]; exact z, ?_⟩)
 have hf : H1 s1.heap.objs.size = none := I1.hok.fresh (Nat.le_refl _)
 refine ⟨.ref s1.heap.objs.size, upd H1 s1.heap.objs.size (.lst xs), I1.laid (t' := s1.toks) (fun b u e => Heap.get?_push_of_some _ e) (Nat.le_refl _) ?_, rfl, q _ hf⟩
 exact ⟨z, us, 0, r, Heap.get?_push_size _ rfl⟩
end
noncomputable abbrev Sp := List V → Hp → VK → XK → Prop
noncomputable abbrev CXT := List Env → Hp → Shared → XK → Value → Shared → Prop
structure Env0 (P : Program) (w : World) (K : PySem.W.Frag) (mg : Str → Option Value) (base : Heap) (A : Around) (outer : List Env) (s : Shared) (H : Hp) : Prop where
 frames : A.frames = some outer
 mod : Mod K mg base
 bs : ∀ b o, base.get? b = some o → s.heap.get? b = some o ∧ H b = none
 bsz : base.objs.size ≤ s.heap.objs.size
 funs : s.heap.FunFrames base outer
 frf : ∀ b ∈ frs outer, H b = none
 hok : HOk P w H s.heap
 bare : AllBare s.gens
noncomputable def CE (outer : List Env) (P : Program) (w : World) (H : Hp) (s : Shared) (Q : VK) (u : Value) (s' : Shared) : Prop :=
 ∃ v H', s'.os = s.os ∧ AllBare s'.gens ∧ Un (frs outer) [] H H' s.heap s'.heap ∧ HOk P w H' s'.heap ∧ RelV v u ∧ Q v H'
noncomputable def CR (CX : CXT) (outer : List Env) (P : Program) (w : World) (H : Hp) (s : Shared) (Q : VK) (E : XK) (r : Result) (s' : Shared) : Prop :=
 match r with
 | .ok (.ret u) => CE outer P w H s Q u s'
 | .ok _ => False
 | .error e => CX outer H s E e s'
structure FnOk (P : Program) (w : World) (K : PySem.W.Frag) (mg : Str → Option Value) (base : Heap) (CX : CXT) (k : Nat) (f : Addr) (fd : FuncData) (ps : List Str) (sp : Sp) : Prop where
 len : ∀ vs H Q E, sp vs H Q E → vs.length = ps.length
 run : ∀ (A : Around) (outer : List Env) (s : Shared) (H : Hp) (args : Args) (us : List Value) (vs : List V) (Q : VK) (E : XK), Room k A → Env0 P w K mg base A outer s H → BindsTo s fd args (ps.zip us) → Vals vs us → sp vs H Q E →
  codeAny (model P w) A (.call (.ref f) args) (CR CX outer P w H s Q E) s
theorem Env0.make {P : Program} {w : World} {K : PySem.W.Frag} {mg : Str → Option Value} {base : Heap} {A : Around} {outer : List Env} {s : Shared} {H : Hp} (e : Env0 P w K mg base A outer s H) (C : Addr) (us : List Value) (kw : List (Str × Value)) :
  Env0 P w K mg base (A.under (.builtin "type.__call__" ⟨.ref C :: us, kw⟩)) outer s H := ⟨by first | exact e.frames | (simpa [Around.under, Code.envs, Code.isFrame, pushEnvs] using e.frames), e.mod, e.bs, e.bsz, e.funs, e.frf, e.hok, e.bare⟩
section
variable {X : Cx} {pins : List (Addr × Obj)} {σ : St} {H : Hp} {s s' : Shared}
theorem Inv.env0 (I : Inv X pins σ H s) : Env0 X.prog X.w X.K X.mg X.base X.A X.stack s H :=
 ⟨I.ok.frames, I.ok.mod, I.bs, Nat.le_trans I.ok.bsz I.sz, I.stack, I.stkFree, I.hok, I.bare⟩
theorem Inv.after {Q : VK} {u : Value} (I : Inv X pins σ H s) (h : CE X.stack X.prog X.w H s Q u s') : EP X pins σ Q u s' := by
 obtain ⟨v, H', os, bare, un, hok, r, q⟩ := h
 obtain ⟨hh, g, d, t, os'⟩ := s'
 obtain rfl : os' = s.os := os
 exact ⟨v, H', I.call (h' := hh) (g' := g) (d' := d) (t' := t) (ch := []) un hok bare (fun b z => absurd z (by simp)), r, q⟩
end
noncomputable def tCall (sp : Sp) (dvs : List V) (E : XK) (t : TA) : TE := fun σ H Q => t σ H fun vs H1 => sp (vs ++ dvs) H1 Q E
noncomputable def tMeth (C : Addr) (m : Str) (sp : Sp) (dvs : List V) (E : XK) (ta : TE) (t : TA) : TE := fun σ H Q => ta σ H fun x H1 => ∃ a dx fs, x = .ref a ∧ H1 a = some (.ins C dx fs) ∧ fs.lookup m = none ∧
 t σ H1 fun vs H2 => sp (x :: (vs ++ dvs)) H2 Q E
noncomputable def tMake (C : Addr) (sp : Sp) (dvs : List V) (E : XK) (t : TA) : TE := fun σ H Q => t σ H fun vs H1 => ∀ x dx, H1 x = none → H1 dx = none → dx ≠ x →
 sp (.ref x :: (vs ++ dvs)) (upd (upd H1 dx (.own x)) x (.ins C dx [])) (fun v H2 => v = .non ∧ Q (.ref x) H2) E
noncomputable def Binds (K : PySem.W.Frag) (fd : FuncData) (ps : List Str) (ds : List Value) : Prop :=
 ∀ (s : Shared) (us : List Value), K.In s.heap → (us ++ ds).length = ps.length → BindsTo s fd ⟨us, []⟩ (ps.zip (us ++ ds))
theorem Binds.all {K : PySem.W.Frag} {fd : FuncData} {ps : List Str} (h : ∀ us : List Value, us.length = ps.length → bindArgs fd ⟨us, []⟩ = pure (ps.zip us)) : Binds K fd ps [] := fun s us _ hl => by
 rw [List.append_nil] at hl ⊢
 exact .of_eq (h us hl)
noncomputable def Passes (CX : CXT) (X : Cx) (E : XK) : Prop := ∀ (pins : List (Addr × Obj)) (σ : St) (H : Hp) (s : Shared) (e : Value) (s' : Shared), Inv X pins σ H s → CX X.stack H s E e s' → X.xe e s'
section
variable {X : Cx} {CX : CXT} {k : Nat} {f C : Addr} {fd : FuncData} {ps : List Str} {sp : Sp} {dvs : List V} {ds : List Value} {E : XK} {x m : Str} {p pos apos : Pos} {e o : Expr} {es : List Expr} {ta : TE} {t : TA}
theorem run_fn {pins : List (Addr × Obj)} {σ : St} {H : Hp} {s : Shared} {Q : VK} {us : List Value} {vs : List V} (F : FnOk X.prog X.w X.K X.mg X.base CX k f fd ps sp) (hr : Room k X.A) (hb : Binds X.K fd ps ds) (hd : Vals dvs ds) (hx : Passes CX X E)
  (I : Inv X pins σ H s) (r : Vals vs us) (h : sp (vs ++ dvs) H Q E) : wpAny (model X.prog X.w) X.A (call (.ref f) us) (EP X pins σ Q) X.xe s := by
 have r2 : Vals (vs ++ dvs) (us ++ ds) := r.append hd
 have hl : (us ++ ds).length = ps.length := by rw [← r2.length]; exact F.len _ _ _ _ h
 refine wpAny_call (codeAny_mono (F.run X.A X.stack s H ⟨us, []⟩ (us ++ ds) (vs ++ dvs) Q E hr I.env0 (hb s us I.kIn hl) r2 h) fun r s' hq => ?_)
 cases r with
 | error e => exact hx pins σ H s e s' I hq
 | ok fl =>
  cases fl with
  | ret u => exact I.after hq
  | next => exact False.elim hq
  | brk => exact False.elim hq
  | cont => exact False.elim hq
theorem zc (F : FnOk X.prog X.w X.K X.mg X.base CX k f fd ps sp) (hr : Room k X.A) (hg : Gl X x) (hm : X.mg x = some (.ref f)) (hk : PySem.W.keepIn X.K (.ref f) = true) (hb : Binds X.K fd ps ds) (hd : Vals dvs ds) (hx : Passes CX X E)
  (ha : PA X (e :: es) t) (hdb : (x == ("__debug__" : Str)) = false := by decide) (he : starEach (e :: es) X.env = (false, eval e X.env) :: starEach es X.env := by rfl) (hpl : (backTo pos (starEach es X.env)).any (·.1) = false := by rfl) :
  PE X (.Call (.Name x p) (e :: es) [] pos) (tCall sp dvs E t) := by
 intro pins s σ H Q I h
 refine wpAny_Call_Name_kw (ld_glob I hg hm ?_ hdb)
 refine PySem.W.callWith_K (h₀ := X.base) I.ok.mod.kin hk (thn (ha pos pins s σ H _ I h) fun us s1 ⟨vs, H1, I1, r, q⟩ => ⟨I1.kIn, ?_⟩) he hpl
 exact run_fn F hr hb hd hx I1 r q
theorem pe_meth {pl : Sem Bool} (he : PE X o ta) (c : Cls X.K C) (hm : Meth X.K C m f) (F : FnOk X.prog X.w X.K X.mg X.base CX k f fd ps sp) (hr : Room k X.A) (hb : Binds X.K fd ps ds) (hd : Vals dvs ds) (hx : Passes CX X E) (ha : PA X (e :: es) t)
  (hst : starEach (e :: es) X.env = (false, eval e X.env) :: starEach es X.env := by rfl) (hpl : (backTo pos (starEach es X.env)).any (·.1) = false := by rfl)
  (ht : eval (.Call (.Attribute o m apos) (e :: es) [] pos) X.env = (do
   let ov ← eval o X.env
   standAt apos.atName
   let (f, first) ← holding [ov] (getMethod ov m pl)
   callWith pos f first (backTo pos (starEach (e :: es) X.env)) (backToKw pos (keywordEach [] X.env))) := by rfl) :
  PE X (.Call (.Attribute o m apos) (e :: es) [] pos) (tMeth C m sp dvs E ta t) := by
 intro pins s σ H Q I h
 refine PySem.W.methodCall_KW (pl := pl) (thn (he pins s σ H _ I h) fun u s1 hh9 => ?_) ht
 obtain ⟨x, H1, I1, rx, a, dx, fs, ex, ea, l, q⟩ := hh9
 subst ex
 obtain rfl : u = Value.ref a := rx
 refine getmeth_ok I1 ea c hm l ?_
 refine PySem.W.callWith_K (first := [.ref a]) (h₀ := X.base) I.ok.mod.kin hm.kp (thn (ha pos pins s1 σ H1 _ I1 q) fun us s2 ⟨vs, H2, I2, r, q2⟩ => ⟨I2.kIn, ?_⟩) hst hpl
 exact run_fn (us := .ref a :: us) (vs := .ref a :: vs) F hr hb hd hx I2 (.cons rfl r) q2
theorem pe_meth0 {pl : Sem Bool} (he : PE X o ta) (c : Cls X.K C) (hm : Meth X.K C m f) (F : FnOk X.prog X.w X.K X.mg X.base CX k f fd ps sp) (hr : Room k X.A) (hb : Binds X.K fd ps ds) (hd : Vals dvs ds) (hx : Passes CX X E)
  (ht : eval (.Call (.Attribute o m apos) [] [] pos) X.env = (do
   let ov ← eval o X.env
   standAt apos.atName
   let (f, first) ← holding [ov] (getMethod ov m pl)
   callWith pos f first (backTo pos (starEach [] X.env)) (backToKw pos (keywordEach [] X.env))) := by rfl) :
  PE X (.Call (.Attribute o m apos) [] [] pos) (tMeth C m sp dvs E ta tNil) := by
 intro pins s σ H Q I h
 refine PySem.W.methodCall_KW (pl := pl) (thn (he pins s σ H _ I h) fun u s1 hh9 => ?_) ht
 obtain ⟨x, H1, I1, rx, a, dx, fs, ex, ea, l, q⟩ := hh9
 subst ex
 obtain rfl : u = Value.ref a := rx
 refine getmeth_ok I1 ea c hm l ?_
 exact PySem.W.callWith_K0 (first := [.ref a]) I1.kIn hm.kp (run_fn (us := [.ref a]) (vs := [.ref a]) F hr hb hd hx I1 (.cons rfl .nil) q)
structure Mk (K : PySem.W.Frag) (C f : Addr) : Prop where
 makes : PySem.W.makesIn K C = true
 init : PySem.W.findIn K (.ref C) "__init__" = some (some (.ref f))
 fn : PySem.W.isFn K (.ref f) = true
 kp : PySem.W.keepIn K (.ref C) = true
theorem run_make {pins : List (Addr × Obj)} {σ : St} {H : Hp} {s : Shared} {Q : VK} {us : List Value} {vs : List V} (M : Mk X.K C f) (F : FnOk X.prog X.w X.K X.mg X.base CX k f fd ps sp) (hr : Room (k + 1) X.A) (hb : Binds X.K fd ps ds) (hd : Vals dvs ds)
  (hx : Passes CX X E) (I : Inv X pins σ H s) (r : Vals vs us)
  (h : ∀ x dx, H x = none → H dx = none → dx ≠ x → sp (.ref x :: (vs ++ dvs)) (upd (upd H dx (.own x)) x (.ins C dx [])) (fun v H2 => v = .non ∧ Q (.ref x) H2) E) :
  wpAny (model X.prog X.w) X.A (call (.ref C) us) (EP X pins σ Q) X.xe s := by
 have hq := h (s.heap.objs.size + 1) s.heap.objs.size (I.hok.fresh (Nat.le_succ _)) (I.hok.fresh (Nat.le_refl _)) (Nat.ne_of_lt (Nat.lt_succ_self _))
 have I2 := Inv.made (C := C) I
 have r2 : Vals (V.ref (s.heap.objs.size + 1) :: (vs ++ dvs)) (Value.ref (s.heap.objs.size + 1) :: (us ++ ds)) := .cons rfl (r.append hd)
 have hl : (Value.ref (s.heap.objs.size + 1) :: us ++ ds).length = ps.length := by
  have e := r2.length
  rw [F.len _ _ _ _ hq] at e
  exact e.symm
 refine wpAny_call (make_map (f := f) I.kIn M.makes M.init (beq_iff_eq.mp M.fn) (codeAny_mono (F.run _ X.stack _ _ ⟨Value.ref (s.heap.objs.size + 1) :: us, []⟩ (Value.ref (s.heap.objs.size + 1) :: (us ++ ds)) _ _ E (hr.make C us [])
  (I2.env0.make C us []) (hb _ (Value.ref (s.heap.objs.size + 1) :: us) I2.kIn hl) r2 hq) fun r s' hq' => ?_))
 cases r with
 | error e => exact hx pins σ _ _ e s' I2 hq'
 | ok fl =>
  cases fl with
  | ret u =>
   obtain ⟨v, H', I3, rv, ev, q3⟩ := I2.after hq'
   subst ev
   exact ⟨rv, ⟨V.ref (s.heap.objs.size + 1), H', I3, rfl, q3⟩⟩
  | next => exact False.elim hq'
  | brk => exact False.elim hq'
  | cont => exact False.elim hq'
theorem pe_make (M : Mk X.K C f) (F : FnOk X.prog X.w X.K X.mg X.base CX k f fd ps sp) (hr : Room (k + 1) X.A) (hg : Gl X x) (hm : X.mg x = some (.ref C)) (hb : Binds X.K fd ps ds) (hd : Vals dvs ds) (hx : Passes CX X E)
  (ha : PA X (e :: es) t) (hdb : (x == ("__debug__" : Str)) = false := by decide) (he : starEach (e :: es) X.env = (false, eval e X.env) :: starEach es X.env := by rfl) (hpl : (backTo pos (starEach es X.env)).any (·.1) = false := by rfl) :
  PE X (.Call (.Name x p) (e :: es) [] pos) (tMake C sp dvs E t) := by
 intro pins s σ H Q I h
 refine wpAny_Call_Name_kw (ld_glob I hg hm ?_ hdb)
 refine PySem.W.callWith_K (h₀ := X.base) I.ok.mod.kin M.kp (thn (ha pos pins s σ H _ I h) fun us s1 ⟨vs, H1, I1, r, q⟩ => ⟨I1.kIn, ?_⟩) he hpl
 exact run_make M F hr hb hd hx I1 r q
end
section
variable {X : Cx} {CX : CXT} {k : Nat} {f C : Addr} {fd : FuncData} {ps ks : List Str} {sp : Sp} {E : XK} {x m : Str} {p pos apos kpos : Pos} {e o : Expr} {es : List Expr} {kws : List Keyword} {te ta : TE} {t tk : TA} {nm : Option Str}
variable {g : List Value → List Value → List Value} {gV : List V → List V → List V}
end
structure FnScope (N P : List Str) (sc : Scope) : Prop where
 kind : sc.kind = .function
 co : sc.isCoroutine = false
 gen : sc.isGenerator = false
 nd : N.Nodup
 pre : N.take P.length = P
 par : ∀ x ∈ P, sc.names.lookup x = some .local ∨ sc.names.lookup x = some .cell
 nofree : ∀ y ∈ sc.names, y.2 ≠ .free
theorem bindL_out {kindOf : Str → Option NameKind} {x : Str} : ∀ {binds : List (Str × Value)} {m : Str → Option Value}, (∀ v, (x, v) ∉ binds) → bindL kindOf binds m x = m x
 | [], _, _ => rfl
 | (n, v) :: r, m, h => by
  unfold bindL
  rw [bindL_out fun w hw => h w (List.mem_cons_of_mem _ hw)]
  split
  ·have : x ≠ n := by rintro rfl; exact h v List.mem_cons_self
   simp [this]
  ·rfl
theorem bindC_out {kindOf : Str → Option NameKind} {x : Str} : ∀ {binds : List (Str × Value)} {m : Str → Option Value}, (∀ v, (x, v) ∉ binds) → bindC kindOf binds m x = m x
 | [], _, _ => rfl
 | (n, v) :: r, m, h => by
  unfold bindC
  rw [bindC_out fun w hw => h w (List.mem_cons_of_mem _ hw)]
  split
  ·rfl
  ·have : x ≠ n := by rintro rfl; exact h v List.mem_cons_self
   simp [this]
theorem bindL_get {kindOf : Str → Option NameKind} {x : Str} {v : Value} : ∀ {P : List Str} {vs : List Value} {i : Nat} {m : Str → Option Value}, P.Nodup → P[i]? = some x → vs[i]? = some v → kindOf x = some .local →
  bindL kindOf (P.zip vs) m x = some v
 | [], _, _, _, _, h, _, _ => by simp at h
 | _ :: _, [], _, _, _, _, h, _ => by simp at h
 | p :: P, w :: vs, 0, m, nd, h1, h2, hk => by
  simp at h1 h2; subst h1; subst h2
  show bindL kindOf ((p, w) :: P.zip vs) m p = _
  unfold bindL
  rw [bindL_out fun v hv => (List.nodup_cons.mp nd).1 (List.of_mem_zip hv).1, if_pos hk]
  simp
 | p :: P, w :: vs, i + 1, m, nd, h1, h2, hk => by
  show bindL kindOf ((p, w) :: P.zip vs) m x = _
  unfold bindL
  exact bindL_get (i := i) (List.nodup_cons.mp nd).2 (by simpa using h1) (by simpa using h2) hk
theorem bindC_get {kindOf : Str → Option NameKind} {x : Str} {v : Value} : ∀ {P : List Str} {vs : List Value} {i : Nat} {m : Str → Option Value}, P.Nodup → P[i]? = some x → vs[i]? = some v → kindOf x ≠ some .local →
  bindC kindOf (P.zip vs) m x = some v
 | [], _, _, _, _, h, _, _ => by simp at h
 | _ :: _, [], _, _, _, _, h, _ => by simp at h
 | p :: P, w :: vs, 0, m, nd, h1, h2, hk => by
  simp at h1 h2; subst h1; subst h2
  show bindC kindOf ((p, w) :: P.zip vs) m p = _
  unfold bindC
  rw [bindC_out fun v hv => (List.nodup_cons.mp nd).1 (List.of_mem_zip hv).1, if_neg hk]
  simp
 | p :: P, w :: vs, i + 1, m, nd, h1, h2, hk => by
  show bindC kindOf ((p, w) :: P.zip vs) m x = _
  unfold bindC
  exact bindC_get (i := i) (List.nodup_cons.mp nd).2 (by simpa using h1) (by simpa using h2) hk
noncomputable def start (N : List Str) (vs : List V) : St := vs.map some ++ List.replicate (N.length - vs.length) none
noncomputable def cxOf (CX : CXT) (P : Program) (w : World) (K : PySem.W.Frag) (mg : Str → Option Value) (base : Heap) (N : List Str) (qual : Str) (scope : Scope) (f : Addr) (cd : Value) (A : Around) (outer : List Env) (s : Shared) (H : Hp) (E : XK) : Cx where
 prog := P
 w := w
 K := K
 mg := mg
 base := base
 A := A.deeper (envOfC qual scope s.heap.objs.size f cd)
 N := N
 s₀ := s
 H₀ := H
 env := envOfC qual scope s.heap.objs.size f cd
 outer := outer
 stack := envOfC qual scope s.heap.objs.size f cd :: outer
 ex := []
 calm := true
 fn := fun _ => true
 pn := []
 xe := fun e s' => wpAny (model P w) (A.deeper (envOfC qual scope s.heap.objs.size f cd)) (leaving (envOfC qual scope s.heap.objs.size f cd) e) (fun _ s'' => CX outer H s E e s'') (fun e' s'' => CX outer H s E e' s'') s'
theorem cell_has {sc : Scope} {n : Nat} {x : Str} (h : sc.names.lookup x = some .cell) : ∃ c, (cellsFrom n sc.names []).lookup x = some c := by
 have q := PySem.W.cellsFrom_some sc.names n [] (.inl h)
 exact Option.isSome_iff_exists.mp q
theorem inv_start {CX : CXT} {P : Program} {w : World} {K : PySem.W.Frag} {mg : Str → Option Value} {base : Heap} {N ps : List Str} {qual : Str} {scope : Scope} {f : Addr} {cd : Value} {A : Around} {outer : List Env} {s s1 : Shared} {H : Hp} {E : XK} {us : List Value} {vs : List V}
  (S : FnScope N ps scope) (hd : A.handled = none) (e0 : Env0 P w K mg base A outer s H) (hl : vs.length = ps.length) (r : Vals vs us)
  (x : InCallC s s.heap.objs.size (bindL (envOfC qual scope s.heap.objs.size f cd).kindOf (ps.zip us) fun _ => none) (cellsFrom (s.heap.objs.size + 1) scope.names []) (bindC (envOfC qual scope s.heap.objs.size f cd).kindOf (ps.zip us) fun _ => none) s1) :
  Inv (cxOf CX P w K mg base N qual scope f cd A outer s H E) [] (start N vs) H s1 := by
 have hpl : ps.length ≤ N.length := by have := congrArg List.length S.pre; rw [List.length_take] at this; omega
 obtain ⟨h1, tk, rfl, hk⟩ := x.done
 have noA : ∀ b : Addr, b ∉ (cxOf CX P w K mg base N qual scope f cd A outer s H E).ex := fun b z => absurd (show b ∈ ([] : List Addr) from z) (by simp)
 refine ⟨⟨e0.mod, S.kind, rfl, rfl, Nat.le_refl _, fun y z c h1 h2 => ?_, fun y hy => ?_, fun y c _ h => ?_, fun _ => hd, Around.frames_deeper e0.frames, .inr ⟨rfl, rfl⟩, fun b z => absurd z (noA b), e0.bs, e0.bsz, fun b _ _ => noA b, fun b z => absurd z (noA b), e0.funs, e0.frf⟩,
  rfl, e0.bare, Un.kept hk, ⟨_, x.toInCall.ns, fun i y v h1 h2 h3 => ?_⟩, fun y c h => ⟨_, x.cell y c h⟩, e0.hok.fresh (Nat.le_refl _), fun y c h => ?_, fun p hp => absurd (show p ∈ ([] : List (Addr × Obj)) from hp) (by simp), e0.hok.kept hk, ?_⟩
 ·exact name_of_addr x.apart (PySem.mem_of_lookup h1) (PySem.mem_of_lookup h2)
 ·have hy : scope.names.lookup y = some .cell ∨ scope.names.lookup y = some .free := hy
  rcases hy with hy | hy
  ·exact cell_has hy
  ·exact absurd rfl (S.nofree _ (PySem.mem_of_lookup hy))
 ·exact Nat.le_of_lt (x.above y c (PySem.mem_of_lookup h))
 ·have hi : i < vs.length := by
   unfold start at h2
   by_cases hi : i < vs.length
   ·exact hi
   ·rw [List.getElem?_append_right (by simpa using hi)] at h2
    rw [List.getElem?_replicate] at h2
    split at h2 <;> cases h2
  have ha : vs[i]? = some v := by
   unfold start at h2
   rw [List.getElem?_append_left (by simpa using hi), List.getElem?_map] at h2
   cases e : vs[i]? with
   | none => rw [e] at h2; cases h2
   | some a => rw [e] at h2; cases h2; rfl
  obtain ⟨u, hu, rv⟩ := r.get ha
  have hp : ps[i]? = some y := by
   rw [← S.pre, List.getElem?_take_of_lt (by omega)]; exact h1
  have ndP : ps.Nodup := by rw [← S.pre]; exact S.nd.sublist (List.take_sublist _ _)
  refine ⟨u, rv, ?_⟩
  rcases S.par y (List.mem_of_getElem? hp) with k | k
  ·exact .inl ⟨k, bindL_get ndP hp hu k⟩
  ·obtain ⟨c, e⟩ := cell_has (n := s.heap.objs.size + 1) k
   refine .inr ⟨.inl k, c, e, ?_⟩
   have q := x.cell y c e
   rw [bindC_get ndP hp hu (by show scope.names.lookup y ≠ _; rw [k]; decide)] at q
   exact q
 ·exact e0.hok.fresh (Nat.le_of_lt (x.above y c (PySem.mem_of_lookup h)))
 ·unfold start
  show _ = N.length
  rw [List.length_append, List.length_map, List.length_replicate]
  omega
theorem fn_of {CX : CXT} {P : Program} {w : World} {K : PySem.W.Frag} {mg : Str → Option Value} {base : Heap} {k : Nat} {f : Addr} {name qual : Str} {params : Arguments} {body : List Stmt} {scope : Scope} {dV kV doc pm cdv ct oc : Value} {an od : Option Addr}
  {osl : Array (Option Value)} {N ps : List Str} {sp : Sp} (lk : K.lookup f = some ⟨oc, od, .func (PySem.W.fnOf name qual params body scope dV kV doc pm an cdv ct), osl⟩) (hcd : PySem.W.codeIn K cdv qual = true) (S : FnScope N ps scope)
  (len : ∀ vs H Q E, sp vs H Q E → vs.length = ps.length)
  (hbody : ∀ (A : Around) (outer : List Env) (s : Shared) (H : Hp) (vs : List V) (Q : VK) (E : XK), Room k (A.deeper (envOfC qual scope s.heap.objs.size f cdv)) → sp vs H Q E →
   ∃ t, PSs (cxOf CX P w K mg base N qual scope f cdv A outer s H E) body t ∧ t { nx := fun _ H' => Q .non H', rt := Q } (start N vs) H) :
  FnOk P w K mg base CX (k + 1) f (PySem.W.fnOf name qual params body scope dV kV doc pm an cdv ct) ps sp := by
 refine ⟨len, fun A outer s H args us vs Q E hr e0 hb r hsp => ?_⟩
 have hl := len _ _ _ _ hsp
 have KX : K.In s.heap := e0.mod.kin.keeps fun b o e => (e0.bs b o e).1
 have lim : s.heap.NoLimit := e0.mod.nolimit.keeps fun b o e => (e0.bs b o e).1
 have hkind : ∀ y ∈ ps.zip us, scope.names.lookup y.1 = some .local ∨ (scope.names.lookup y.1 = some .cell ∧ ((cellsFrom (s.heap.objs.size + 1) scope.names []).lookup y.1).isSome = true) := fun ⟨n, v⟩ hy => by
  rcases S.par n (List.of_mem_zip hy).1 with q | q
  ·exact .inl q
  ·exact .inr ⟨q, PySem.W.cellsFrom_some _ _ _ (.inl q)⟩
 refine codeAny_call_function hr.depth (KX _ _ lk) rfl S.co S.gen rfl (PySem.W.codeRec_of KX hcd) (hb _ _ _ _ ?_)
 refine wpAny_newFunctionEnv_cells S.kind hkind fun env he s1 x => ?_
 subst he
 refine ⟨lim.keeps x.toInCall.keep, codeAny_func ?_⟩
 obtain ⟨t, ht, hq⟩ := hbody A outer s H vs Q E (hr.deeper _) hsp
 have I : Inv (cxOf CX P w K mg base N qual scope f cdv A outer s H E) [] (start N vs) H s1 := inv_start S hr.hd e0 hl r x
 refine wpAny_mono (ht [] s1 (start N vs) H _ I hq) (fun fl s' hs => ?_) fun e s' hs => hs
 have fin : ∀ {σ' : St} {H' : Hp} {v : V} {u : Value}, Inv (cxOf CX P w K mg base N qual scope f cdv A outer s H E) [] σ' H' s' → RelV v u → Q v H' → CE outer P w H s Q u s' :=
  fun {σ' H' v u} J rv q => ⟨v, H', J.os, J.bare, J.base, J.hok, rv, q⟩
 cases fl with
 | ret u =>
  obtain ⟨v, σ', H', J, rv, q⟩ := hs
  exact fin J rv q
 | next =>
  obtain ⟨σ', H', J, q⟩ := hs
  exact fin (v := V.non) (u := Value.none) J rfl q
 | brk =>
  obtain ⟨_, _, _, q⟩ := hs
  exact False.elim q
 | cont =>
  obtain ⟨_, _, _, q⟩ := hs
  exact False.elim q
end L2
namespace L2
open PySem PySem.Spec PyProof.Rows
section
variable {X : Cx} {x : Str} {p pos : Pos} {e : Expr} {es : List Expr} {t : TA} {id T : String} {r : List V → Hp → VK → Prop}
noncomputable def tCB (r : List V → Hp → VK → Prop) (t : TA) : TE := fun σ H Q => t σ H fun vs H1 => r vs H1 Q
theorem zd (hc : CallR X (.builtin id) r) (hg : Gl X x) (hm : X.mg x = none) (hv : bootBuiltins x = some (.builtin id)) (ha : PA X (e :: es) t) (hn : x ≠ "__name__" := by decide) (hdb : (x == ("__debug__" : Str)) = false := by decide)
  (he : starEach (e :: es) X.env = (false, eval e X.env) :: starEach es X.env := by rfl) (hpl : (backTo pos (starEach es X.env)).any (·.1) = false := by rfl) : PE X (.Call (.Name x p) (e :: es) [] pos) (tCB r t) := by
 intro pins s σ H Q I h
 refine wpAny_Call_Name_kw (ld_blt I hg hm hv ?_ hn hdb)
 exact PyProof.Rows.callWith_builtin1 (thn (ha pos pins s σ H _ I h) fun us s1 ⟨vs, H1, I1, r1, q1⟩ => hc pins s1 σ H1 vs us Q I1 r1 q1) he hpl
theorem pe_callTy (hc : CallR X (.type T) r) (hg : Gl X x) (hm : X.mg x = none) (hv : bootBuiltins x = some (.type T)) (ha : PA X (e :: es) t) (hn : x ≠ "__name__" := by decide) (hdb : (x == ("__debug__" : Str)) = false := by decide)
  (he : starEach (e :: es) X.env = (false, eval e X.env) :: starEach es X.env := by rfl) (hpl : (backTo pos (starEach es X.env)).any (·.1) = false := by rfl) : PE X (.Call (.Name x p) (e :: es) [] pos) (tCB r t) := by
 intro pins s σ H Q I h
 refine wpAny_Call_Name_kw (ld_blt I hg hm hv ?_ hn hdb)
 exact PyProof.Rows.callWith_type1 (thn (ha pos pins s σ H _ I h) fun us s1 ⟨vs, H1, I1, r1, q1⟩ => hc pins s1 σ H1 vs us Q I1 r1 q1) he hpl
end
end L2
namespace HT
open PySem PyProof.Rows
section
open PySem.SeqAt
open PySem.AutoSeq1 (wpAny_loadPart')
open PySem.MeetsSeq PySem.MeetsSeq2 PySem.MeetsSeq3
end
section
variable {prog : Program} {w : World} {A : Around} {E : Value → Shared → Prop} {s : Shared}
noncomputable def sIx (n d : Nat) : Option Int → Nat
 | none => d
 | some v => if v < 0 then (v + (n : Int)).toNat else min v.toNat n
theorem sIx_none (n d : Nat) : sIx n d none = d := rfl
end
end HT
namespace L2
open PySem PySem.Spec PyProof.Rows
noncomputable abbrev TO := St → Hp → (Option Int → Hp → Prop) → Prop
noncomputable def PO (X : Cx) (e : Option Expr) (t : TO) : Prop :=
 ∀ (pins : List (Addr × Obj)) (s : Shared) (σ : St) (H : Hp) (Q : Option Int → Hp → Prop), Inv X pins σ H s → t σ H Q →
  wpAny (model X.prog X.w) X.A (evalPart e X.env) (fun u s' => ∃ o H', Inv X pins σ H' s' ∧ IsPart u o ∧ Q o H') X.xe s
noncomputable def tNoPart : TO := fun _ H Q => Q none H
noncomputable def tPart (t : TE) : TO := fun σ H Q => t σ H fun x H1 => ∃ i, x = .int i ∧ Q (some i) H1
section
variable {X : Cx} {e : Expr} {te : TE} {lo hi : Option Expr} {tl th : TO} {pos p2 : Pos}
theorem po_none : PO X none tNoPart := by
 intro pins s σ H Q I h
 rw [evalPart_none]
 exact wpAny_pure ⟨none, H, I, .none, h⟩
theorem po_some (h : PE X e te) : PO X (some e) (tPart te) := by
 intro pins s σ H Q I hw
 rw [evalPart_some]
 refine thn (h pins s σ H _ I hw) fun u s1 hh9 => ?_
 obtain ⟨x, H1, I1, r1, q1⟩ := hh9
 obtain ⟨i, rfl, q⟩ := q1
 obtain ⟨t, rfl⟩ := r1
 exact ⟨some i, H1, I1, .int i t, q⟩
noncomputable def SlR (X : Cx) (r : V → Option Int → Option Int → Hp → VK → Prop) : Prop :=
 ∀ (pins : List (Addr × Obj)) (s : Shared) (σ : St) (H : Hp) (x : V) (v vl vu : Value) (lo hi : Option Int) (sl : Addr) (Q : VK), Inv X pins σ H s → RelV x v → s.heap.IsSliceOf sl vl vu .none → IsPart vl lo → IsPart vu hi → r x lo hi H Q →
  ∃ T id, typeLookup (.type T) "__getitem__" = pure (some (.builtin id)) ∧ s.TypeIs v T ∧ wpAny (model X.prog X.w) X.A (getItem v (.ref sl)) (EP X pins σ Q) X.xe s
noncomputable def tSl (r : V → Option Int → Option Int → Hp → VK → Prop) (te : TE) (tl th : TO) : TE := fun σ H Q => te σ H fun x H1 => tl σ H1 fun l H2 => th σ H2 fun u H3 => r x l u H3 Q
theorem pe_slice {r : V → Option Int → Option Int → Hp → VK → Prop} (hr : SlR X r) (he : PE X e te) (hl : PO X lo tl) (hu : PO X hi th) : PE X (.Subscript e (.Slice lo hi none p2) pos) (tSl r te tl th) := by
 intro pins s σ H Q I h
 refine Subscript_ (thn (he pins s σ H _ I h) fun v s1 hh9 => ?_)
 obtain ⟨x, H1, I1, r1, q1⟩ := hh9
 refine wpAny_Slice (thn (hl pins s1 σ H1 _ I1 q1) fun vl s2 ⟨l, H2, I2, pl, q2⟩ => thn (hu pins s2 σ H2 _ I2 q2) fun vu s3 hh9 => ?_)
 obtain ⟨u, H3, I3, pu, q3⟩ := hh9
 rw [evalPart_none]
 refine wpAny_pure ?_
 have I4 : Inv X pins σ H3 { s3 with heap := s3.heap.push { cls := .type "slice", data := .fields #[vl, vu, .none] } } := I3.kept (t' := s3.toks) fun b ob q => Heap.get?_push_of_some _ q
 obtain ⟨T, id, hT, ht, hg⟩ := hr pins { s3 with heap := s3.heap.push { cls := .type "slice", data := .fields #[vl, vu, .none] } } σ H3 x v vl vu l u s3.heap.objs.size Q I4 r1 (Heap.IsSliceOf.new ..) pl pu q3
 show wpAny (model X.prog X.w) X.A (subscriptTail e (.Slice lo hi none p2) v (.ref s3.heap.objs.size)) (EP X pins σ Q) X.xe { s3 with heap := s3.heap.push { cls := .type "slice", data := .fields #[vl, vu, .none] } }
 exact tail_any (ops := [.ref s3.heap.objs.size, v]) ht hT hg (by with_unfolding_all rfl)
noncomputable def cutV (xs : List V) (lo hi : Option Int) : List V := (xs.drop (HT.sIx xs.length 0 lo)).take (HT.sIx xs.length xs.length hi - HT.sIx xs.length 0 lo)
theorem cutV_length (xs : List V) (lo hi : Option Int) : (cutV xs lo hi).length ≤ xs.length := by
 unfold cutV
 rw [List.length_take, List.length_drop]
 omega
end
end L2
namespace L2
open PySem PySem.Spec PyProof.Rows
noncomputable def ixN (n : Nat) (i : Int) : Option Nat := if 0 ≤ i then (if i < n then some i.toNat else none) else if -(n : Int) ≤ i then some (i + n).toNat else none
noncomputable def atI {α : Type} (xs : List α) (i : Int) : Option α := (ixN xs.length i).bind fun j => xs[j]?
theorem ixN_seq {n : Nat} {i : Int} {j : Nat} (h : ixN n i = some j) : seqIndex? i n = some j ∧ j < n ∧ -(n : Int) ≤ i ∧ i < n := by
 unfold ixN at h
 by_cases h0 : 0 ≤ i
 ·rw [if_pos h0] at h
  by_cases h1 : i < n
  ·rw [if_pos h1] at h
   have e : i.toNat = j := Option.some.inj h
   exact ⟨by rw [seqIndex_of h0 h1, e], by omega, by omega, h1⟩
  ·rw [if_neg h1] at h; cases h
 ·rw [if_neg h0] at h
  by_cases h1 : -(n : Int) ≤ i
  ·rw [if_pos h1] at h
   have e : (i + n).toNat = j := Option.some.inj h
   exact ⟨by rw [seqIndex_neg (by omega) h1, e], by omega, h1, by omega⟩
  ·rw [if_neg h1] at h; cases h
theorem atI_get {α : Type} {xs : List α} {i : Int} {v : α} (h : atI xs i = some v) : ∃ j, seqIndex? i xs.length = some j ∧ xs[j]? = some v ∧ j < xs.length ∧ -(xs.length : Int) ≤ i ∧ i < xs.length := by
 unfold atI at h
 cases e : ixN xs.length i with
 | none => rw [e] at h; cases h
 | some j =>
  rw [e] at h
  obtain ⟨h1, h2, h3, h4⟩ := ixN_seq e
  exact ⟨j, h1, h, h2, h3, h4⟩
theorem atI_nat {α : Type} {xs : List α} {j : Nat} {v : α} (h : xs[j]? = some v) : atI xs (j : Int) = some v := by
 have hj : j < xs.length := (List.getElem?_eq_some_iff.mp h).1
 have e : ixN xs.length (j : Int) = some j := by
  unfold ixN
  rw [if_pos (by omega), if_pos (by omega)]; simp
 unfold atI; rw [e]; exact h
theorem atI_last {α : Type} (xs : List α) (v : α) : atI (xs ++ [v]) (-1) = some v := by
 have hl : (xs ++ [v]).length = xs.length + 1 := by simp
 have e : ixN (xs ++ [v]).length (-1) = some xs.length := by
  unfold ixN
  rw [hl, if_neg (by decide), if_pos (by omega)]
  congr 1
  omega
 unfold atI
 rw [e]
 show (xs ++ [v])[xs.length]? = some v
 simp
noncomputable def PlainIx (b : Expr) : Prop := ∀ o i, subscripted b false o i = operate [o, i] (getItem o i)
noncomputable def IxR (X : Cx) (r : R2) : Prop :=
 ∀ (value slice : Expr) (pins : List (Addr × Obj)) (s : Shared) (σ : St) (H : Hp) (x y : V) (v u : Value) (Q : VK), Inv X pins σ H s → RelV x v → RelV y u → r x y H Q →
  subscripted slice false v u = operate [v, u] (getItem v u) → wpAny (model X.prog X.w) X.A (subscriptTail value slice v u) (EP X pins σ Q) X.xe s
noncomputable def MtR (X : Cx) (id : String) (r : V → List V → Hp → VK → Prop) : Prop :=
 ∀ (pins : List (Addr × Obj)) (s : Shared) (σ : St) (H : Hp) (x : V) (xs : List V) (v : Value) (us : List Value) (Q : VK), Inv X pins σ H s → RelV x v → Vals xs us → r x xs H Q →
  wpAny (model X.prog X.w) X.A (call (.builtin id) (v :: us)) (EP X pins σ Q) X.xe s
section
variable {X : Cx} {a b : Expr} {ta tb : TE} {pos : Pos}
theorem zp {r : R2} (hr : IxR X r) (ha : PE X a ta) (hb : PE X b tb) (hs : PlainIx b) : PE X (.Subscript a b pos) (tOp r ta tb) := by
 intro pins s σ H Q I h
 exact Subscript_ (binT ha hb I h fun v u s2 x y H2 I2 rx ry q => hr a b pins s2 σ H2 x y v u Q I2 rx ry q (hs _ _))
noncomputable def rIxL (K : PySem.W.Frag) : R2 := fun x y H Q => ∃ p xs i v, x = .ref p ∧ y = .int i ∧ SqL K H p xs ∧ atI xs i = some v ∧ Q v H
noncomputable def rIxT (K : PySem.W.Frag) : R2 := fun x y H Q => ∃ p xs i v, x = .ref p ∧ y = .int i ∧ SqT K H p xs ∧ atI xs i = some v ∧ Q v H
noncomputable def rIxS : R2 := fun x y H Q => ∃ z i c, x = .str z ∧ y = .int i ∧ z.length ≤ sizeLine ∧ atI z.cps.toList i = some c ∧ Q (.str ⟨#[c]⟩) H
theorem zr : IxR X (rIxL X.K) := by
 intro value slice pins s σ H x y v u Q I rx ry h hs
 obtain ⟨p, xs, i, z, rfl, rfl, hq, he, q⟩ := h
 cases rx
 obtain ⟨t, rfl⟩ := ry
 obtain ⟨its, r, pl, hz⟩ := I.list hq
 obtain ⟨j, h1, h2, h3, h4, h5⟩ := atI_get he
 obtain ⟨w, ew, rw'⟩ := r.get h2
 have hl := r.length
 have hn := line63
 have fin : EP X pins σ Q w s := ⟨z, H, I, rw', q⟩
 by_cases h0 : 0 ≤ i
 ·have hj : i.toNat = j := by
   rw [seqIndex_of h0 h5] at h1
   exact Option.some.inj h1
  exact item_listR pl.isList h0 (by omega) (by rw [hj]; simpa using ew) fin hs
 ·have hj : (i + (its.toArray.size : Int)).toNat = j := by
   rw [seqIndex_neg (by omega) h4] at h1
   rw [List.size_toArray, ← hl]
   exact Option.some.inj h1
  exact subscriptTail_builtinR (x := w) pl.isList.typeIs slot_list_getitem.lookup
   (wpAny_getItem_list_neg (Q := fun r s' => r = w ∧ EP X pins σ Q r s') pl.isList (by omega) (by rw [List.size_toArray] <;> omega) (by omega) (by rw [hj]; simpa using ew) ⟨rfl, fin⟩) hs
theorem zq : IxR X (rIxT X.K) := by
 intro value slice pins s σ H x y v u Q I rx ry h hs
 obtain ⟨p, xs, i, z, rfl, rfl, hq, he, q⟩ := h
 cases rx
 obtain ⟨t, rfl⟩ := ry
 obtain ⟨its, r, pl, hz⟩ := I.tuple hq
 obtain ⟨j, h1, h2, h3, h4, h5⟩ := atI_get he
 obtain ⟨w, ew, rw'⟩ := r.get h2
 have hl := r.length
 have hn := line63
 have fin : EP X pins σ Q w s := ⟨z, H, I, rw', q⟩
 exact subscriptTail_builtinR (x := w) pl.typeIs slot_tuple_getitem.lookup
  (getItem_tuple (j := j) (Q := fun r s' => r = w ∧ EP X pins σ Q r s') pl (by omega) (by omega) (by rw [List.size_toArray, ← hl]; exact h1) (by simpa using ew) ⟨rfl, fin⟩) hs
theorem ix_str : IxR X rIxS := by
 intro value slice pins s σ H x y v u Q I rx ry h hs
 obtain ⟨z, i, c, rfl, rfl, hz, he, q⟩ := h
 obtain ⟨t, rfl⟩ := rx
 obtain ⟨t', rfl⟩ := ry
 obtain ⟨j, h1, h2, h3, h4, h5⟩ := atI_get he
 have hl : z.cps.toList.length = z.length := by simp [Str.length]
 rw [hl] at h1 h4 h5
 have hn := line63
 exact tail_any (typeIs_str s z t) slot_str_getitem.lookup (getItem_str (c := c) (by
  have e1 : decide (i < -(2 ^ 63 : Int)) = false := decide_eq_false (by omega)
  have e2 : decide (i ≥ 2 ^ 63) = false := decide_eq_false (by omega)
  rw [e1, e2, Bool.or_false]) (by rw [h1]; simpa using h2) ⟨.str ⟨#[c]⟩, H, I.tok _, ⟨_, rfl⟩, q⟩) hs
theorem mapSeq_set (its : List Value) (n j : Nat) (u : Value) : Obj.mapSeq (·.setIfInBounds j u) { cls := .type "list", data := .seq its.toArray n } = { cls := .type "list", data := .seq (its.set j u).toArray n } := by
 simp [Obj.mapSeq]
theorem Inv.lst {pins : List (Addr × Obj)} {σ : St} {H : Hp} {s : Shared} {p : Addr} {xs : List V} (I : Inv X pins σ H s) (h : H p = some (.lst xs)) :
  ∃ (its : List Value) (n : Nat), Vals xs its ∧ s.heap.get? p = some { cls := .type "list", data := .seq its.toArray n } ∧ xs.length ≤ sizeLine := by
 obtain ⟨z, its, n, r, e⟩ := I.hok p _ h
 exact ⟨its, n, r, e, z⟩
theorem Inv.lstUpd {pins : List (Addr × Obj)} {σ : St} {H : Hp} {s : Shared} {p : Addr} {xs ys : List V} {its its' : List Value} {n n' : Nat} {f : Obj → Obj} (I : Inv X pins σ H s) (h : H p = some (.lst xs))
  (ho : s.heap.get? p = some { cls := .type "list", data := .seq its.toArray n }) (hf : f { cls := .type "list", data := .seq its.toArray n } = { cls := .type "list", data := .seq its'.toArray n' }) (r : Vals ys its') (hz : ys.length ≤ sizeLine) (t : Nat) :
  Inv X pins σ (upd H p (.lst ys)) { s with heap := s.heap.update p f, toks := t } := by
 have e : (s.heap.update p f).get? p = some { cls := .type "list", data := .seq its'.toArray n' } := by
  rw [Heap.get?_update_self f ho (by rw [hf] <;> rfl), hf]
 refine I.write (x := p) (e := p) (by rw [h]; trivial) (.inl rfl) (fun b u hb q => (Heap.get?_update_other _ _ (Ne.symm hb)).trans q) ⟨_, e⟩ ?_
 exact ⟨hz, its', n', r, e⟩
noncomputable def rSetL : V → V → V → Hp → (Hp → Prop) → Prop := fun o i v H Q => ∃ p xs k j, o = .ref p ∧ i = .int k ∧ H p = some (.lst xs) ∧ ixN xs.length k = some j ∧ Q (upd H p (.lst (xs.set j v)))
theorem set_list : PSet X rSetL := by
 intro pins s σ H o i v ov iv u Q I ro ri rv h
 obtain ⟨p, xs, k, j, rfl, rfl, hp, hj, q⟩ := h
 cases ro
 obtain ⟨t, rfl⟩ := ri
 obtain ⟨its, n, r, ho, hz⟩ := I.lst hp
 obtain ⟨h1, h2, h3, h4⟩ := ixN_seq hj
 have hl := r.length
 have hn := line63
 have I' : Inv X pins σ (upd H p (.lst (xs.set j v))) { s with heap := s.heap.update p (Obj.mapSeq (·.setIfInBounds j u)) } :=
  I.lstUpd hp ho (mapSeq_set its n j u) (r.set rv j) (by rw [List.length_set]; exact hz) s.toks
 by_cases h0 : 0 ≤ k
 ·have hk : k.toNat = j := by
   rw [seqIndex_of h0 h4] at h1
   exact Option.some.inj h1
  exact PySem.W.ki_setAt ho h0 (by omega) (by rw [List.size_toArray, ← hl]; exact h4) (by rw [hk]; exact ⟨_, I', q⟩)
 ·have hk : (k + (its.toArray.size : Int)).toNat = j := by
   rw [seqIndex_neg (by omega) h3] at h1
   rw [List.size_toArray, ← hl]
   exact Option.some.inj h1
  exact PySem.W.ki_setBack ho (by omega) (by rw [List.size_toArray, ← hl]; exact h3) (by omega) (by rw [hk]; exact ⟨_, I', q⟩)
theorem slice_bounds (lo hi : Option Int) (n : Nat) : (sliceBounds lo hi none n).1 = ((HT.sIx n 0 lo : Nat) : Int) ∧ (sliceBounds lo hi none n).2.1 = ((HT.sIx n n hi : Nat) : Int) ∧ (sliceBounds lo hi none n).2.2 = 1 := by
 refine ⟨?_, ?_, rfl⟩
 ·cases lo with
  | none => simp [sliceBounds, HT.sIx]
  | some i =>
   simp only [sliceBounds, HT.sIx, Option.getD_none, show (1 : Int) > 0 by decide, if_true]
   by_cases h : i < 0
   ·simp only [h, if_true] <;> omega
   ·simp only [h, if_false] <;> omega
 ·cases hi with
  | none => simp [sliceBounds, HT.sIx]
  | some i =>
   simp only [sliceBounds, HT.sIx, Option.getD_none, show (1 : Int) > 0 by decide, if_true]
   by_cases h : i < 0
   ·simp only [h, if_true] <;> omega
   ·simp only [h, if_false] <;> omega
theorem slicePick_cut (its : List Value) (lo hi : Option Int) : slicePick its.toArray lo hi none = ((its.drop (HT.sIx its.length 0 lo)).take (HT.sIx its.length its.length hi - HT.sIx its.length 0 lo)).toArray := by
 obtain ⟨h1, h2, h3⟩ := slice_bounds lo hi its.toArray.size
 unfold slicePick
 rw [h1, h2, h3]
 simp only [sliceRange_one, pick_run, List.size_toArray] <;> rfl
noncomputable def rSlL (K : PySem.W.Frag) : V → Option Int → Option Int → Hp → VK → Prop := fun x lo hi H Q => ∃ a xs, x = .ref a ∧ SqL K H a xs ∧ ∀ p, H p = none → Q (.ref p) (upd H p (.lst (cutV xs lo hi)))
theorem sl_list : SlR X (rSlL X.K) := by
 intro pins s σ H x v vl vu lo hi sl Q I rx hs pl pu h
 obtain ⟨a, xs, rfl, hx, q⟩ := h
 cases rx
 obtain ⟨its, r, ht, hz⟩ := I.list hx
 have hlen := r.length
 refine ⟨"list", _, slot_list_getitem.lookup, ht.isList.typeIs, ?_⟩
 refine wpAny_getItem_list_slice ht.isList hs pl pu .none (by simp) ?_ (by rw [List.size_toArray] <;> omega)
 rw [slicePick_cut, ← hlen]
 refine ⟨.ref s.heap.objs.size, _, I.laid (t' := s.toks) (o := .lst (cutV xs lo hi)) (fun b ob q => Heap.get?_push_of_some _ q) (Nat.le_refl _) ?_, rfl, q _ (I.hok.fresh (Nat.le_refl _))⟩
 exact ⟨Nat.le_trans (cutV_length xs lo hi) hz, _, 0, (r.drop (HT.sIx xs.length 0 lo)).take (HT.sIx xs.length xs.length hi - HT.sIx xs.length 0 lo), Heap.get?_push_size _ rfl⟩
noncomputable def flatV : V → Bool
 | .non => true
 | .bl _ => true
 | .int _ => true
 | .str _ => true
 | _ => false
noncomputable def eqV : V → V → Bool
 | .non, .non => true
 | .bl a, .bl b => a == b
 | .bl a, .int b => (if a then 1 else 0) == b
 | .int a, .bl b => a == (if b then 1 else 0)
 | .int a, .int b => a == b
 | .str a, .str b => a == b
 | _, _ => false
theorem eqAt_V {A : Around} {s : Shared} {y x : V} {u v : Value} (ry : RelV y u) (rx : RelV x v) (fy : flatV y = true) (fx : flatV x = true) : SeqAt.EqAt A s u v (eqV y x) := by
 cases y with
 | non =>
  cases ry
  cases x with
  | non => cases rx; exact SeqAt.EqAt.same _
  | bl b => cases rx; exact SeqAt.EqAt.none_bool b
  | int b => obtain ⟨t, rfl⟩ := rx; exact SeqAt.EqAt.none_int b t
  | str b => obtain ⟨t, rfl⟩ := rx; exact SeqAt.EqAt.none_str b t
  | _ => exact absurd (show false = true from fx) Bool.false_ne_true
 | bl a =>
  cases ry
  cases x with
  | non => cases rx; exact SeqAt.EqAt.bool_none a
  | bl b => cases rx; exact SeqAt.EqAt.bool_bool a b
  | int b => obtain ⟨t, rfl⟩ := rx; exact SeqAt.EqAt.bool_int a b t
  | str b => obtain ⟨t, rfl⟩ := rx; exact SeqAt.EqAt.bool_str a b t
  | _ => exact absurd (show false = true from fx) Bool.false_ne_true
 | int a =>
  obtain ⟨t', rfl⟩ := ry
  cases x with
  | non => cases rx; exact SeqAt.EqAt.int_none a t'
  | bl b => cases rx; exact SeqAt.EqAt.int_bool a t' b
  | int b => obtain ⟨t, rfl⟩ := rx; exact SeqAt.EqAt.int_int a t' b t
  | str b => obtain ⟨t, rfl⟩ := rx; exact SeqAt.EqAt.int_str a t' b t
  | _ => exact absurd (show false = true from fx) Bool.false_ne_true
 | str a =>
  obtain ⟨t', rfl⟩ := ry
  cases x with
  | non => cases rx; exact SeqAt.EqAt.str_none a t'
  | bl b => cases rx; exact SeqAt.EqAt.str_bool a t' b
  | int b => obtain ⟨t, rfl⟩ := rx; exact SeqAt.EqAt.str_int a t' b t
  | str b => obtain ⟨t, rfl⟩ := rx; exact SeqAt.EqAt.str_str a t' b t
  | _ => exact absurd (show false = true from fx) Bool.false_ne_true
 | _ => exact absurd (show false = true from fy) Bool.false_ne_true
noncomputable def eqU (x : V) (u : Value) : Bool := match u with
 | .none => eqV .non x
 | .bool b => eqV (.bl b) x
 | .int i _ => eqV (.int i) x
 | .str z _ => eqV (.str z) x
 | _ => false
theorem eqU_of {x y : V} {u : Value} (r : RelV y u) (f : flatV y = true) : eqU x u = eqV y x := by
 cases y with
 | non => cases r; rfl
 | bl b => cases r; rfl
 | int i => obtain ⟨t, rfl⟩ := r; rfl
 | str z => obtain ⟨t, rfl⟩ := r; rfl
 | _ => exact absurd (show false = true from f) Bool.false_ne_true
theorem any_eqU {x : V} : ∀ {xs : List V} {us : List Value}, Vals xs us → xs.all flatV = true → us.any (eqU x) = xs.any fun y => eqV y x
 | _, _, .nil, _ => rfl
 | y :: xs, u :: us, .cons r t, f => by
  rw [List.all_cons, Bool.and_eq_true] at f
  rw [List.any_cons, List.any_cons, eqU_of r f.1, any_eqU t f.2]
theorem mem_eqAt {A : Around} {s : Shared} {x : V} {v : Value} (rx : RelV x v) (fx : flatV x = true) : ∀ {xs : List V} {us : List Value}, Vals xs us → xs.all flatV = true → ∀ u ∈ us, SeqAt.EqAt A s u v (eqU x u)
 | _, _, .nil, _ => fun u hu => by cases hu
 | y :: xs, u :: us, .cons r t, f => fun u' hu => by
  rw [List.all_cons, Bool.and_eq_true] at f
  rcases List.mem_cons.mp hu with rfl | hu
  ·rw [eqU_of r f.1]; exact eqAt_V r rx f.1 fx
  ·exact mem_eqAt rx fx t f.2 u' hu
noncomputable def inV (x : V) (xs : List V) : Bool := xs.any fun y => eqV y x
noncomputable def rIn (K : PySem.W.Frag) (neg : Bool) : R2 := fun x y H Q => ∃ p xs, y = .ref p ∧ (SqL K H p xs ∨ SqT K H p xs) ∧ flatV x = true ∧ xs.all flatV = true ∧ Q (.bl (if neg then !inV x xs else inV x xs)) H
theorem op_in_seq : OpR X (compareOp .In) (rIn X.K false) := by
 intro pins s σ H x y v u Q I rx ry h
 obtain ⟨p, xs, rfl, hq, fx, fs, q⟩ := h
 cases ry
 rcases hq with hq | hq
 ·obtain ⟨its, r, pl, hz⟩ := I.list hq
  refine SeqAt.in_listAt (eqU x) pl.isList (fun w hw => mem_eqAt rx fx r fs w (by simpa using hw)) ⟨.bl _, H, I, rfl, ?_⟩
  rw [show its.toArray.any (eqU x) = its.any (eqU x) by simp, any_eqU r fs]
  exact q
 ·obtain ⟨its, r, pl, hz⟩ := I.tuple hq
  refine SeqAt.in_tupleAt (eqU x) pl (fun w hw => mem_eqAt rx fx r fs w (by simpa using hw)) ⟨.bl _, H, I, rfl, ?_⟩
  rw [show its.toArray.any (eqU x) = its.any (eqU x) by simp, any_eqU r fs]
  exact q
theorem call_list_of : CallR X (.type "list") (fun xs H Q => ∃ p ys, xs = [.ref p] ∧ (SqL X.K H p ys ∨ SqT X.K H p ys) ∧ ∀ l, H l = none → Q (.ref l) (upd H l (.lst ys))) := by
 intro pins s σ H xs us Q I r h
 obtain ⟨p, ys, rfl, hq, q⟩ := h
 obtain ⟨u, rfl, rx⟩ := vals1 r
 cases rx
 have fin : ∀ (its : List Value), Vals ys its → ys.length ≤ sizeLine → ∀ (h' : Heap) (c' : Nat), (∀ b o', s.heap.get? b = some o' → h'.get? b = some o') →
   h'.get? s.heap.objs.size = some { cls := .type "list", dict := none, data := .seq its.toArray c', slots := #[] } → EP X pins σ Q (.ref s.heap.objs.size) { s with heap := h' } := fun its r' hz h' c' kp e =>
  ⟨.ref s.heap.objs.size, _, I.laid (t' := s.toks) kp (Nat.le_refl _) (show ObjOk X.prog X.w _ h' _ (.lst ys) from ⟨hz, its, c', r', e⟩), rfl, q _ (I.hok.fresh (Nat.le_refl _))⟩
 rcases hq with hq | hq
 ·obtain ⟨its, r', pl, hz⟩ := I.list hq
  have hlen := r'.length
  obtain ⟨o, ho, hc, n, hd⟩ := pl.isList
  exact call_list_seq p (.inl rfl) ho hc hd (fun h' c' kp e => fin its r' hz h' c' kp e) (by simp only [List.size_toArray] <;> omega)
 ·obtain ⟨its, r', pl, hz⟩ := I.tuple hq
  have hlen := r'.length
  obtain ⟨o, ho, hc, n, hd⟩ := pl
  exact call_list_seq p (.inr rfl) ho hc hd (fun h' c' kp e => fin its r' hz h' c' kp e) (by simp only [List.size_toArray] <;> omega)
noncomputable def tyV (K : PySem.W.Frag) (T : String) (x : V) (H : Hp) : Prop := match x with
 | .str _ => T = "str"
 | .int _ => T = "int"
 | .ref p => (T = "list" ∧ ∃ xs, SqL K H p xs) ∨ (T = "tuple" ∧ ∃ o, K.lookup p = some o ∧ o.cls = .type "tuple" ∧ o.dict = none) ∨
   (T = "dict" ∧ ((∃ kvs, H p = some (.dK kvs)) ∨ ∃ kvs, H p = some (.dT kvs))) ∨ (T = "set" ∧ ∃ S n, H p = some (.set S n))
 | _ => False
theorem tyV_is {pins : List (Addr × Obj)} {σ : St} {H : Hp} {s : Shared} {T : String} {x : V} {v : Value} (I : Inv X pins σ H s) (r : RelV x v) (ty : tyV X.K T x H) :
  s.TypeIs v T ∧ ∀ a, v = .ref a → ∃ ob, s.heap.get? a = some ob ∧ ob.dict = none := by
 cases x with
 | str z =>
  obtain ⟨t, rfl⟩ := r
  cases (show T = "str" from ty)
  exact ⟨typeIs_str s z t, fun _ e => nomatch e⟩
 | int i =>
  obtain ⟨t, rfl⟩ := r
  cases (show T = "int" from ty)
  exact ⟨typeIs_int s i t, fun _ e => nomatch e⟩
 | ref p =>
  cases r
  rcases ty with ⟨rfl, xs, hq⟩ | ⟨rfl, o, hk, hc, hd⟩ | ⟨rfl, hk⟩ | ⟨rfl, S, n, hk⟩
  ·obtain ⟨its, _, pl, _⟩ := I.list hq
   refine ⟨pl.isList.typeIs, fun a e => ?_⟩
   cases e
   obtain ⟨o, n, e, c, hd, _⟩ := pl
   exact ⟨o, e, hd⟩
  ·refine ⟨⟨o, I.kIn p o hk, hc⟩, fun a e => ?_⟩
   cases e
   exact ⟨o, I.kIn _ o hk, hd⟩
  ·have z : ∃ o, s.heap.get? p = some o ∧ o.ExactDict := by
    rcases hk with ⟨kvs, hk⟩ | ⟨kvs, hk⟩
    ·obtain ⟨_, _, _, _, o, _, _, e, ex, _⟩ := I.hok p _ hk
     exact ⟨o, e, ex⟩
    ·obtain ⟨_, _, _, _, o, _, _, e, ex, _⟩ := I.hok p _ hk
     exact ⟨o, e, ex⟩
   obtain ⟨o, e, ex⟩ := z
   refine ⟨⟨o, e, ex.1⟩, fun a e2 => ?_⟩
   cases e2
   exact ⟨o, e, ex.2.1⟩
  ·obtain ⟨o, _, _, _, e, ex, _⟩ := I.hok p _ hk
   refine ⟨⟨o, e, ex.1⟩, fun a e2 => ?_⟩
   cases e2
   exact ⟨o, e, ex.2.1⟩
 | _ => exact False.elim ty
noncomputable def tBM0 (K : PySem.W.Frag) (T : String) (r : V → List V → Hp → VK → Prop) (to : TE) : TE := fun σ H Q => to σ H fun x H1 => tyV K T x H1 ∧ r x [] H1 Q
noncomputable def tBM (K : PySem.W.Frag) (T : String) (r : V → List V → Hp → VK → Prop) (to : TE) (t : TA) : TE := fun σ H Q => to σ H fun x H1 => tyV K T x H1 ∧ t σ H1 fun xs H2 => r x xs H2 Q
variable {o e : Expr} {es : List Expr} {to : TE} {t : TA} {name : Str} {apos cpos : Pos} {T id : String} {r : V → List V → Hp → VK → Prop}
theorem pe_bm0 (pa : PlainAttrs T) (slot : Slot T name id) (hty : typeOf (.builtin id) = pure (.type "method_descriptor")) (hm : MtR X id r) (ho : PE X o to)
  (hbase : attributeBase o name X.env (eval o X.env) = eval o X.env := by rfl) (hline : (apos.endLine == cpos.line) = true := by rfl) : PE X (.Call (.Attribute o name apos) [] [] cpos) (tBM0 X.K T r to) := by
 intro pins s σ H Q I h
 refine wpAny_Call_method0_late hbase hline (thn (ho pins s σ H _ I h) fun v s1 hh9 => ?_)
 obtain ⟨x, H1, I1, r1, ty, q1⟩ := hh9
 obtain ⟨h1, h2⟩ := tyV_is I1 r1 ty
 exact ⟨T, id, pa, slot, hty, h1, h2, Calls.callWith_builtin rfl (PySem.evalArgs_none (hm pins s1 σ H1 x [] v [] Q I1 r1 .nil q1))⟩
theorem pe_bm (pa : PlainAttrs T) (slot : Slot T name id) (hty : typeOf (.builtin id) = pure (.type "method_descriptor")) (hm : MtR X id r) (ho : PE X o to) (ha : PA X (e :: es) t)
  (hbase : attributeBase o name X.env (eval o X.env) = eval o X.env := by rfl)
  (hfew : ((backTo cpos (starEach (e :: es) X.env)).all (fun x => !x.1) && (backToKw cpos (keywordEach [] X.env)).all (fun x => x.1.isSome)
   && decide ((e :: es).length + ([] : List Keyword).length + (if ([] : List Keyword).isEmpty then 0 else 1) < 30)) = true := by rfl)
  (hline : (apos.endLine == cpos.line) = true := by rfl) (hs : starEach (e :: es) X.env = (false, eval e X.env) :: starEach es X.env := by rfl) (hplain : (backTo cpos (starEach es X.env)).any (·.1) = false := by rfl) :
  PE X (.Call (.Attribute o name apos) (e :: es) [] cpos) (tBM X.K T r to t) := by
 intro pins s σ H Q I h
 refine wpAny_Call_method_late hbase hfew hline rfl (thn (ho pins s σ H _ I h) fun v s1 hh9 => ?_)
 obtain ⟨x, H1, I1, r1, ty, q1⟩ := hh9
 obtain ⟨h1, h2⟩ := tyV_is I1 r1 ty
 refine ⟨T, id, pa, slot, hty, h1, h2, ?_⟩
 have hA := ha cpos pins s1 σ H1 _ I1 q1
 rw [hs] at hA ⊢
 refine Calls.callWith_builtin (by show (false || (backTo cpos (starEach es X.env)).any (·.1)) = false; rw [hplain] <;> rfl) (Calls.evalArgs_plain ?_)
 exact thn hA fun us s2 ⟨vs, H2, I2, r2, q2⟩ => hm pins s2 σ H2 x vs v us Q I2 r1 r2 q2
/- xs.append(e), list.index on a module's tuple .. are MtR facts of 06m -/
end
end L2
namespace L2
open PySem PySem.Spec PyProof.Rows
noncomputable def MtM (X : Cx) (id : String) (r : V → List V → Hp → VK → Prop) : Prop :=
 ∀ (pins : List (Addr × Obj)) (s : Shared) (σ : St) (H : Hp) (x : V) (xs : List V) (v : Value) (us : List Value) (Q : VK), Inv X pins σ H s → RelV x v → Vals xs us → r x xs H Q →
  wpAny (model X.prog X.w) X.A (call (.builtin id) (v :: us)) (EP X pins σ Q) X.xe s
theorem Vals.one {x : V} {us : List Value} (h : Vals [x] us) : ∃ u, us = [u] ∧ RelV x u := by
 cases h with | cons r t => cases t; exact ⟨_, rfl, r⟩
theorem Vals.two {x y : V} {us : List Value} (h : Vals [x, y] us) : ∃ u v, us = [u, v] ∧ RelV x u ∧ RelV y v := by
 cases h with | cons r t => cases t with | cons q t => cases t; exact ⟨_, _, rfl, r, q⟩
theorem Vals.zero : ∀ {us : List Value}, Vals [] us → us = []
 | _, .nil => rfl
theorem Vals.dropLast {xs : List V} {us : List Value} (h : Vals xs us) : Vals xs.dropLast us.dropLast := by
 induction h with
 | nil => exact .nil
 | cons r t ih =>
  cases t with
  | nil => exact .nil
  | cons q t' => exact .cons r ih
theorem erase_last {α : Type} (l : List α) : l.eraseIdx (l.length - 1) = l.dropLast := by
 induction l with
 | nil => rfl
 | cons a r ih =>
  cases r with
  | nil => rfl
  | cons b r =>
   have e : (a :: b :: r).length - 1 = ((b :: r).length - 1) + 1 := by
    have h1 : (a :: b :: r).length = r.length + 2 := rfl
    have h2 : (b :: r).length = r.length + 1 := rfl
    omega
   rw [e, List.eraseIdx_cons_succ, ih]
   all_goals rfl
section
variable {X : Cx} {pins : List (Addr × Obj)} {σ : St} {H : Hp} {s : Shared} {l b : Addr} {xs ys zs : List V}
theorem Inv.lset {its its' : List Value} {n : Nat} {f : Array Value → Array Value} {t' : Nat} (I : Inv X pins σ H s) (hH : H l = some (.lst xs))
  (e : s.heap.get? l = some { cls := .type "list", data := .seq its.toArray n }) (hf : f its.toArray = its'.toArray) (hv : Vals ys its') (hz : ys.length ≤ sizeLine) :
  Inv X pins σ (upd H l (.lst ys)) { s with heap := s.heap.update l (Obj.mapSeq f), toks := t' } := by
 have q := PySem.IsL.update e f
 rw [hf] at q
 refine I.write (x := l) (e := l) (by rw [hH]; exact trivial) (.inl rfl) (fun b' u hb hu => (Heap.get?_update_other s.heap (Obj.mapSeq f) (Ne.symm hb)).trans hu) ⟨_, q⟩ ?_
 exact ⟨hz, its', _, hv, q⟩
theorem Inv.lnew {its : List Value} {t' : Nat} (I : Inv X pins σ H s) (hv : Vals ys its) (hz : ys.length ≤ sizeLine) :
  Inv X pins σ (upd H s.heap.objs.size (.lst ys)) { s with heap := s.heap.push { cls := .type "list", data := .seq its.toArray }, toks := t' } :=
 I.laid (fun _ _ q => Heap.get?_push_of_some _ q) (Nat.le_refl _) ⟨hz, its, 0, hv, Heap.get?_push_size _ rfl⟩
theorem Inv.fresh (I : Inv X pins σ H s) : H s.heap.objs.size = none := I.hok.fresh (Nat.le_refl _)
theorem Inv.lstM (I : Inv X pins σ H s) (hH : H l = some (.lst xs)) : xs.length ≤ sizeLine ∧ ∃ (its : List Value) (n : Nat), Vals xs its ∧ xs.length = its.length ∧ s.heap.get? l = some { cls := .type "list", data := .seq its.toArray n } := by
 obtain ⟨z, its, n, r, e⟩ := I.hok l _ hH
 exact ⟨z, its, n, r, r.length, e⟩
theorem notLongL {n : Nat} (h : n ≤ sizeLine) : Builtin.List.listTooLong n = false := by
 unfold Builtin.List.listTooLong
 exact decide_eq_false (by omega)
end
section
variable {X : Cx}
noncomputable def rAppend : V → List V → Hp → VK → Prop := fun x vs H Q => ∃ l xs y, x = .ref l ∧ vs = [y] ∧ H l = some (.lst xs) ∧ xs.length < sizeLine ∧ Q .non (upd H l (.lst (xs ++ [y])))
theorem mt_append : MtM X "list.append" rAppend := by
 intro pins s σ H x vs v us Q I rx rv h
 obtain ⟨l, xs, y, rfl, rfl, hH, hz, q⟩ := h
 cases rx
 obtain ⟨u, rfl, ru⟩ := rv.one
 obtain ⟨z, its, n, r, hl, e⟩ := I.lstM hH
 refine call_meets F.slot_list_append ⟨_, e, rfl⟩ F.entry_list_append (F.args_list_append_2 _ _) (PySem.list_append l its.toArray n u (by rw [List.size_toArray]; omega)) ⟨e, ?_⟩
 refine ⟨.non, _, I.lset (its' := its ++ [u]) hH e (by simp) (r.append (.cons ru .nil)) ?_, rfl, q⟩
 rw [List.length_append, List.length_singleton]
 omega
noncomputable def rExtend : V → List V → Hp → VK → Prop := fun x vs H Q => ∃ l b xs zs, x = .ref l ∧ vs = [.ref b] ∧ H l = some (.lst xs) ∧ H b = some (.lst zs) ∧ xs.length + zs.length ≤ sizeLine ∧ Q .non (upd H l (.lst (xs ++ zs)))
theorem mt_extend : MtM X "list.extend" rExtend := by
 intro pins s σ H x vs v us Q I rx rv h
 obtain ⟨l, b, xs, zs, rfl, rfl, hH, hB, hz, q⟩ := h
 cases rx
 obtain ⟨u, rfl, ru⟩ := rv.one
 cases ru
 obtain ⟨z, its, n, r, hl, e⟩ := I.lstM hH
 obtain ⟨z2, its2, n2, r2, hl2, e2⟩ := I.lstM hB
 have hsz : its.toArray.size + its2.toArray.size ≤ sizeLine := by rw [List.size_toArray, List.size_toArray]; omega
 have hlong : ¬ (!its.toArray.isEmpty && Builtin.List.listTooLong (its.toArray.size + its2.toArray.size)) = true := by
  rw [notLongL hsz, Bool.and_false]
  exact Bool.false_ne_true
 refine call_meets F.slot_list_extend ⟨_, e, rfl⟩ F.entry_list_extend (F.args_list_extend_2 _ _)
  (AutoSeq1.list_extend_list_list_0 l its.toArray n b its2.toArray n2 hlong (by rw [List.size_toArray]; omega) (by omega)) ⟨e, e2, ?_⟩
 refine ⟨.non, _, I.lset (its' := its ++ its2) hH e (by simp) (r.append r2) ?_, rfl, q⟩
 rw [List.length_append]
 omega
noncomputable def rPop : V → List V → Hp → VK → Prop := fun x vs H Q => ∃ l xs y, x = .ref l ∧ vs = [] ∧ H l = some (.lst xs) ∧ xs[xs.length - 1]? = some y ∧ Q y (upd H l (.lst xs.dropLast))
theorem mt_pop : MtM X "list.pop" rPop := by
 intro pins s σ H x vs v us Q I rx rv h
 obtain ⟨l, xs, y, rfl, rfl, hH, hy, q⟩ := h
 cases rx
 have hus := rv.zero
 subst hus
 obtain ⟨z, its, n, r, hl, e⟩ := I.lstM hH
 obtain ⟨u, hu, ru⟩ := r.get hy
 have hy' : its.toArray[its.toArray.size - 1]? = some u := by
  show its.toArray[its.length - 1]? = some u
  rw [← Array.getElem?_toList, ← hl]
  exact hu
 refine call_meets F.slot_list_pop ⟨_, e, rfl⟩ F.entry_list_pop (F.args_list_pop_1 _) (MeetsSeq.list_pop_last l its.toArray n u hy' (by rw [List.size_toArray]; omega)) ⟨e, ?_⟩
 refine ⟨y, _, I.lset (its' := its.dropLast) hH e ?_ r.dropLast ?_, ru, q⟩
 ·show its.toArray.eraseIdxIfInBounds (its.toArray.size - 1) = its.dropLast.toArray
  rw [List.size_toArray, List.eraseIdxIfInBounds_toArray, erase_last]
 ·rw [List.length_dropLast]
  omega
noncomputable def rCat : R2 := fun x y H Q => ∃ l b xs zs, x = .ref l ∧ y = .ref b ∧ H l = some (.lst xs) ∧ H b = some (.lst zs) ∧ xs.length + zs.length ≤ sizeLine ∧ ∀ p, H p = none → Q (.ref p) (upd H p (.lst (xs ++ zs)))
theorem op_cat : OpR X (binaryOp .Add) rCat := by
 intro pins s σ H x y v u Q I rx ry h
 obtain ⟨l, b, xs, zs, rfl, rfl, hH, hB, hz, q⟩ := h
 cases rx
 cases ry
 obtain ⟨z, its, n, r, hl, e⟩ := I.lstM hH
 obtain ⟨z2, its2, n2, r2, hl2, e2⟩ := I.lstM hB
 refine PySem.P.add_list e e2 ?_ (by rw [List.size_toArray, List.size_toArray]; omega)
 have ea : its.toArray ++ its2.toArray = (its ++ its2).toArray := by simp
 rw [ea]
 exact ⟨.ref _, _, I.lnew (t' := s.toks) (r.append r2) (by rw [List.length_append]; omega), rfl, q _ I.fresh⟩
end
section
variable {prog : Program} {w : World} {A : Around} {E : Value → Shared → Prop} {s : Shared}
end
section
variable {X : Cx}
end
end L2
namespace Att
open PySem PySem.W PySem.Calls PyProof.Rows
theorem ints_of_wellAll {P : Params} {h : Heap} : ∀ (ns : List Int) (vs : List Value), WellAll P h vs (ns.map WData.int) → IntsAre vs ns := by
 intro ns
 induction ns with
 | nil =>
  intro vs w
  rw [List.map_nil] at w
  cases w
  exact .nil
 | cons n ns ih =>
  intro vs w
  rw [List.map_cons] at w
  cases w with
  | cons a b =>
   cases a
   exact .cons _ _ (ih _ b)
theorem script_of {l : OpenLaw} {n : Nat} (hn : l.most = some n) {P : Params} {h : Heap} {args : List WData} {vals : List Value}
  (hpre : l.row.toRowW.claim.pre args = true) (hwl : WellAll P h vals args) :
  ∃ a vs ns, vals = [Value.ref a] ∧ args = [WData.list (ns.map WData.int)] ∧ h.get? a = some { cls := .type "list", data := .seq vs.toArray } ∧ IntsAre vs ns ∧ ns.length ≤ n := by
 have hsh : WShape.hasAll [] args [.list .int] = true := (pre_splitW hpre).1
 have hc : l.pre.holds [] { args := args } = true := (pre_splitW hpre).2
 obtain ⟨d, r, rfl, h1, h2⟩ := hasAllW_cons hsh
 obtain rfl := hasAllW_nil h2
 obtain ⟨xs, rfl, h3⟩ := hasW_list h1
 obtain ⟨ns, rfl⟩ := items_int h3
 have hlen : ns.length ≤ n := by
  unfold OpenLaw.pre at hc
  have h4 : (WTm.not (.lt (.lit (.int (n : Int))) (.len (.arg 0)))).holds [] { args := [.list (ns.map .int)] } = true := by
   have h4 := (holds_andW hc).1
   rw [hn] at h4
   exact h4
  have h5 := condW_of h4 (w_not (w_lt w_lit (w_len_list (w_arg rfl))))
  rw [List.length_map] at h5
  refine Nat.le_of_not_lt fun q => ?_
  have q' : (n : Int) < ((ns.length : Nat) : Int) := by omega
  first
   | (rw [decide_eq_true q'] at h5; exact absurd h5 (by decide))
   | (simp at h5; omega)
 cases hwl with
 | cons w1 w2 =>
  cases w2
  cases w1 with
  | list ho hall => exact ⟨_, _, ns, rfl, rfl, ho, ints_of_wellAll ns _ hall, hlen⟩
theorem post_true (l : OpenLaw) (args : List WData) : l.row.toRowW.claim.post args (.bool true) args = true :=
 postW_of (r := l.row.toRowW) (X := (true == true))
  (show WShape.has [] (.bool true) .bool = true by first | rfl | decide | simp [WShape.has, WShape.arms, WShape.armsAll])
  (show (WTm.eq .res (.lit (.bool true))).value [] { args := args, res := some (.bool true), after := args } = some (.bool (true == true)) from w_eq_bool (w_res rfl) w_lit) rfl
theorem attach_call {l : OpenLaw} {n : Nat} {q : Program} {loose : List Str} {XP : (Str → Option Value) → Heap → Prop} {YP : World → Heap → Prop} {d : DefRec}
  (hn : l.most = some n) (hdf : d.params.defaults = [])
  (call : ∀ (w : World) (s₀ s₁ : Shared) (mg mb : Str → Option Value) (fa : Addr) (o : Obj) (pm cd doc : Value) (a : Addr) (vs : List Value) (ns : List Int),
   Ground q loose [] XP w s₀ mg mb s₁.heap → YP w s₁.heap →
   s₁.heap.get? fa = some o → o.data = .func (docDef d.name d.params d.body d.scope pm cd doc) → s₁.heap.CodeRec cd d.name → mg d.name = some (.ref fa) →
   s₁.heap.get? a = some { cls := .type "list", data := .seq vs.toArray } → IntsAre vs ns → ns.length ≤ n → s₁.gens = #[] →
   codeAny (model l.prog w) callerA (.call (.ref fa) ⟨[.ref a], []⟩) (fun r s' => r = .ok (.ret (.bool true)) ∧ OldK s₁.heap s'.heap ∧ s'.os = s₁.os ∧ AllBare s'.gens) s₁) :
  WalkO q loose XP YP l.row.toRowW d [] (fun f vs => PySem.call f vs) := by
 intro w s₀ s₁ mg mb G Y fa o pm cd doc dV kV ho hd hcd hD hmg hg args vals as hpre hlay hrd hwl hlo
 obtain rfl : dV = .none := Dflts.none hD hdf
 obtain rfl : kV = .none := Dflts.noKw hD
 obtain ⟨a, vs, ns, rfl, rfl, hobj, hints, hlen⟩ := script_of hn hpre hwl
 refine enter_call (codeAny_mono (call w s₀ s₁ mg mb fa o pm cd doc a vs ns G Y ho (fd_plain hd) hcd hmg hobj hints hlen hg) fun r s' hq => ?_)
 obtain ⟨rfl, h2, h3, h4⟩ := hq
 exact ⟨.inl ⟨.bool true, .bool true, [], rfl, fun _ => rfl, .bool true, post_true l _, fun _ => ⟨List.Pairwise.nil, fun _ hm => (nomatch hm)⟩⟩, h2, h3, h4⟩
section
variable {prog : Program} {w : World} {A : Around} {E : Value → Shared → Prop} {s : Shared} {K : Frag}
noncomputable def ledger (h : Heap) (L d : Addr) : List (Addr × Obj) := (List.range h.objs.size).filterMap fun a => if a = L ∨ a = d then none else (h.get? a).map fun o => (a, o)
end
end Att
namespace L2
open PySem PySem.Spec PyProof.Rows
theorem vals_ints : ∀ {vs : List Value} {ns : List Int}, IntsAre vs ns → Vals (ns.map V.int) vs
 | _, _, .nil => .nil
 | _, _, .cons n t h => .cons ⟨t, rfl⟩ (vals_ints h)
noncomputable def Only (H : Hp) : Prop := ∀ b, H b = none ∨ ∃ o xs, H b = some (.frz o (.lst xs))
theorem law_call {P : Program} {w : World} {K : PySem.W.Frag} {mg mb : Str → Option Value} {CX : CXT} {k : Nat} {fa a : Addr} {fd : FuncData} {x : Str} {sp : Sp} {s₁ : Shared} {vs : List Value} {ns : List Int}
  (KX : K.In s₁.heap) (hns : s₁.heap.Ns mainGlobals mg) (hb : s₁.heap.Ns builtinsNs mb) (hbb : ∀ x : Str, x ≠ "__name__" → mb x = bootBuiltins x) (hlim : s₁.heap.NoLimit) (hg : s₁.gens = #[])
  (ha : s₁.heap.get? a = some { cls := .type "list", data := .seq vs.toArray }) (hi : IntsAre vs ns) (hl : ns.length ≤ sizeLine) (hr : Room k callerA)
  (F : ∀ base : Heap, K.In base → base.Ns mainGlobals mg → FnOk P w K mg base CX k fa fd [x] sp) (hbind : ∀ (s : Shared) (u : Value), BindsTo s fd ⟨[u], []⟩ [(x, u)])
  (hsp : ∀ H : Hp, Only H → SqL K H a (ns.map V.int) → sp [.ref a] H (fun v _ => v = .bl true) fun _ _ _ => False)
  (hCX : ∀ H e s', CX [] H s₁ (fun _ _ _ => False) e s' → False) :
  codeAny (model P w) callerA (.call (.ref fa) ⟨[.ref a], []⟩) (fun r s' => r = .ok (.ret (.bool true)) ∧ OldK s₁.heap s'.heap ∧ s'.os = s₁.os ∧ AllBare s'.gens) s₁ := by
 have rv := vals_ints hi
 have lenV := hi.length
 -- from an abstract heap in which nothing but the script may be tracked
 have core : ∀ H : Hp, Only H → SqL K H a (ns.map V.int) → HOk P w H s₁.heap → (∀ b, H b ≠ none → b = a) → (H a ≠ none → K.lookup a = none) →
   codeAny (model P w) callerA (.call (.ref fa) ⟨[.ref a], []⟩) (fun r s' => r = .ok (.ret (.bool true)) ∧ OldK s₁.heap s'.heap ∧ s'.os = s₁.os ∧ AllBare s'.gens) s₁ := by
  intro H hO hS hok hA hK
  have base_of : ∀ {b : Addr} {o : Obj}, s₁.heap.get? b = some o → H b = none → (hidT s₁.heap H).get? b = some o := fun e n => hidT_get e n
  have noA : ∀ {b : Addr} {o : Obj} {es : Array DictEntry} {ep : Nat}, s₁.heap.get? b = some o → o.data = .dict es ep → H b = none := fun {b o es ep} e d => by
   cases q : H b with
   | none => rfl
   | some u =>
    have e' : b = a := hA b (by rw [q]; simp)
    subst e'
    rw [ha] at e; cases e
    have d' : Data.seq vs.toArray _ = Data.dict es ep := d
    cases d'
  have nsK : ∀ {b : Addr} {m : Str → Option Value}, s₁.heap.Ns b m → (hidT s₁.heap H).Ns b m := fun {b m} ⟨o, es, ep, e, d, r⟩ => ⟨o, es, ep, base_of e (noA e d), d, r⟩
  have hKb : K.In (hidT s₁.heap H) := fun b o e => base_of (KX b o e) (by
   cases q : H b with
   | none => rfl
   | some u =>
    have e' : b = a := hA b (by rw [q]; simp)
    subst e'
    rw [hK (by rw [q]; simp)] at e; cases e)
  have hM : Mod K mg (hidT s₁.heap H) := ⟨hKb, nsK hns, ⟨mb, nsK hb, hbb⟩, let ⟨mc, h1, h2⟩ := hlim; ⟨mc, nsK h1, h2⟩⟩
  have e0 : Env0 P w K mg (hidT s₁.heap H) callerA [] s₁ H := ⟨rfl, hM, fun b o e => of_hidT e, Nat.le_of_eq (hidT_size _ _), trivial, fun b hb => absurd (show b ∈ ([] : List Addr) from hb) (by simp), hok, .of_eq hg⟩
  refine codeAny_mono ((F _ hKb (nsK hns)).run callerA [] s₁ H ⟨[.ref a], []⟩ [.ref a] [.ref a] _ _ hr e0 (hbind s₁ (.ref a)) (.cons rfl .nil) (hsp H hO hS)) fun r s' h => ?_
  cases r with
  | error e => exact (hCX H e s' h).elim
  | ok fl =>
   cases fl with
   | next => exact False.elim h
   | brk => exact False.elim h
   | cont => exact False.elim h
   | ret u =>
    obtain ⟨v, H', os, bare, un, hok', r', q⟩ := h
    have q' : v = .bl true := q
    subst q'
    obtain rfl : u = Value.bool true := r'
    refine ⟨rfl, OldK.of_keep fun b o e => ?_, os, bare⟩
    cases q : H b with
    | none => exact un.keep b o e q (by intro z; exact absurd (show b ∈ ([] : List Addr) from z) (by simp)) (by simp)
    | some u =>
     rcases hO b with z | ⟨ob, xs, z⟩
     ·rw [q] at z; cases z
     ·have z2 := un.frzs b ob _ z
      obtain ⟨e1, _⟩ := hok b _ z
      obtain ⟨e2, _⟩ := hok' b _ z2
      rw [e] at e1; cases e1
      exact e2
 cases hk : K.lookup a with
 | some o =>
  -- the script is one of the module's own objects
  have e := KX a o hk
  rw [ha] at e
  cases e
  refine core (fun _ => none) (fun _ => .inl rfl) (.inr ⟨_, vs.toArray, _, hk, rfl, rfl, rfl, by rw [List.size_toArray, lenV]; exact hl, by simpa using rv⟩) (fun b u z => by have z' : (none : Option HO) = some u := z; cases z') (fun b z => absurd rfl z) fun z => absurd rfl z
 | none =>
  refine core (fun b => if b = a then some (.frz { cls := .type "list", data := .seq vs.toArray } (.lst (ns.map V.int))) else none) (fun b => ?_) (.inl (.inr ⟨{ cls := .type "list", data := .seq vs.toArray }, if_pos rfl⟩)) (fun b u z => ?_) (fun b z => ?_) fun _ => hk
  ·by_cases hb : b = a
   ·exact .inr ⟨_, _, if_pos hb⟩
   ·exact .inl (if_neg hb)
  ·by_cases hb : b = a
   ·have z' := (if_pos hb).symm.trans z
    cases z'
    subst hb
    exact ⟨ha, by rw [List.length_map]; exact hl, vs, _, rv, ha⟩
   ·have z' := (if_neg hb).symm.trans z
    cases z'
  ·by_cases hb : b = a
   ·exact hb
   ·exact absurd (if_neg hb) z
end L2
namespace L2
open PySem PySem.Spec PyProof.Rows
noncomputable abbrev KOf {K : PySem.W.Frag} {h : Heap} (_ : K.In h) : PySem.W.Frag := K
theorem walk_of {l : PySem.W.OpenLaw} {n k : Nat} {q : Program} {loose : List Str} {XP : (Str → Option Value) → Heap → Prop} {YP : World → Heap → Prop} {d : DefRec} {K : Params → PySem.W.Frag} {CX : World → CXT} {sp : World → Sp} {x : Str}
  (hn : l.most = some n) (hn2 : n ≤ sizeLine) (hdf : d.params.defaults = []) (hr : Room k callerA)
  (hY : ∀ (w : World) (h : Heap), YP w h → (K w.params).In h)
  (F : ∀ (w : World) (mg : Str → Option Value) (fa : Addr) (h : Heap), (K w.params).In h → h.Ns mainGlobals mg → mg d.name = some (.ref fa) →
   ∃ fd : FuncData, (∀ (s : Shared) (u : Value), BindsTo s fd ⟨[u], []⟩ [(x, u)]) ∧
    ∀ base : Heap, (K w.params).In base → base.Ns mainGlobals mg → FnOk l.prog w (K w.params) mg base (CX w) k fa fd [x] (sp w))
  (hsp : ∀ (w : World) (H : Hp) (a : Addr) (ns : List Int), ns.length ≤ n → Only H → SqL (K w.params) H a (ns.map V.int) → sp w [.ref a] H (fun v _ => v = .bl true) fun _ _ _ => False)
  (hCX : ∀ (w : World) (H : Hp) (s : Shared) (e : Value) (s' : Shared), CX w [] H s (fun _ _ _ => False) e s' → False) :
  PySem.W.WalkO q loose XP YP l.row.toRowW d [] (fun f vs => PySem.call f vs) := by
 refine Att.attach_call hn hdf fun w s₀ s₁ mg mb fa o pm cd doc a vs ns G Y ho hd hcd hmg hobj hints hlen hg => ?_
 have KX := hY w _ Y
 obtain ⟨fd, hb, hF⟩ := F w mg fa _ KX G.T.g hmg
 exact law_call KX G.T.g G.T.b G.T.builtins G.T.nolimit hg hobj hints (Nat.le_trans hlen hn2) hr hF hb (fun H hO hS => hsp w H a ns hlen hO hS) fun H e s' => hCX w H s₁ e s'
end L2
/- THE LAST THEOREM (shape; LID, My.* are yours):
   My.Adr: a structure of the addresses that your layer names (classes, functions); My.Txt K t: a structure (Prop) of the equations over K;
   My.txt_mk : {K} {implicit addresses ..} (e1 : nsIn K mainGlobals "law" = some (some (.ref f))) (e2 : K.lookup f = some ⟨oc, od, .func (fnOf "law" "law" params body scope dV kV doc pm an cdv ct), sl⟩) (e3 : codeIn K cdv "law" = true) .. : ∃ t, My.Txt K t
set_option maxRecDepth 100000 in
set_option maxHeartbeats 0 in
theorem PySem.Challenge.cw_LID_holds : PySem.Challenge.rw_LID.Holds := by
 w_on; o_law; k_head; (case hw => w_witness2)
 k_fill
 refine L2.walk_of (l := PySem.Challenge.rw_LID) (n := 63) (k := 40) (x := "script") (CX := fun w => ..) (sp := fun _ => My.sp_law) rfl (by decide) rfl ⟨rfl, by decide, by decide⟩ (fun w h Y => PySem.W.kIn_of Y) ?F ?S ?C
 case F =>
  intro w mg fa h KX G hmg
  have T : ∃ t, My.Txt (L2.KOf KX) t := by
   dsimp only [L2.KOf]                          -- K must stand as «<heap const> w.params» for k_is
   refine' My.txt_mk ?e1 ?e2 ?e3 ..
   (case e1 => PySem.W.k_is)                    -- in the order: a name -> its address -> its object -> its parts
   (case e2 => PySem.W.k_is)
   ..
  obtain ⟨t, T⟩ := T
  have e0 := hmg.symm.trans (PySem.W.mg_of KX G T.law)
  cases e0                                       -- fa is the law's own address
  exact ⟨_, fun s u => .of_eq rfl, fun base kb nb => My.law_fn T kb nb⟩     -- if «.of_eq rfl» comes too early: refine' ⟨_, ?b, fun base kb nb => My.law_fn T kb nb⟩; exact fun s u => .of_eq rfl
 case S => exact fun w H a ns hl hO hS => ..
 case C => exact ..
(the tactic k_is has no namespace: write k_is) -/
namespace L2
open PySem PySem.Spec PyProof.Rows
noncomputable def inClass (s : Stmt) (j : Nat) : Stmt := match s with
 | .ClassDef _ _ _ body _ _ _ _ _ _ _ => body.getD j (.Pass ⟨0, 0, 0, 0⟩)
 | _ => .Pass ⟨0, 0, 0, 0⟩
noncomputable def defArgs (s : Stmt) : Arguments := match s with
 | .FunctionDef _ a _ _ _ _ _ _ _ _ => a
 | _ => { posonlyargs := [], args := [], vararg := none, kwonlyargs := [], kw_defaults := [], kwarg := none, defaults := [] }
noncomputable def defBody (s : Stmt) : List Stmt := match s with
 | .FunctionDef _ _ b _ _ _ _ _ _ _ => b
 | _ => []
noncomputable def defScope (s : Stmt) : Scope := match s with
 | .FunctionDef _ _ _ _ _ _ sc _ _ _ => sc
 | _ => { kind := .function, names := [], isGenerator := false, isCoroutine := false }
noncomputable abbrev CX0 : CXT := fun _ _ _ _ _ _ => False
noncomputable abbrev E0 : XK := fun _ _ _ => False
theorem pass0 {X : Cx} : Passes CX0 X E0 := fun _ _ _ _ _ _ _ h => h.elim
structure Fun (K : PySem.W.Frag) (x qual : Str) (st : Stmt) (f : Addr) (fd : FuncData) : Prop where
 ex : ∃ (oc : Value) (od : Option Addr) (kV doc pm : Value) (an : Option Addr) (cdv ct : Value) (osl : Array (Option Value)),
  fd = PySem.W.fnOf x qual (defArgs st) (defBody st) (defScope st) .none kV doc pm an cdv ct ∧ K.lookup f = some ⟨oc, od, .func fd, osl⟩ ∧ PySem.W.codeIn K cdv qual = true
 kp : PySem.W.keepIn K (.ref f) = true
section
variable {P : Program} {w : World} {K : PySem.W.Frag} {mg : Str → Option Value} {base : Heap}
theorem Fun.ok {x qual : Str} {st : Stmt} {f : Addr} {fd : FuncData} {N ps : List Str} {k : Nat} {sp : Sp} (F : Fun K x qual st f fd) (S : FnScope N ps (defScope st)) (len : ∀ vs H Q E, sp vs H Q E → vs.length = ps.length)
  (hbody : ∀ (cdv : Value) (A : Around) (outer : List Env) (s : Shared) (H : Hp) (vs : List V) (Q : VK) (E : XK), Room k (A.deeper (envOfC qual (defScope st) s.heap.objs.size f cdv)) → sp vs H Q E →
   ∃ t, PSs (cxOf CX0 P w K mg base N qual (defScope st) f cdv A outer s H E).nox (defBody st) t ∧ t { nx := fun _ H' => Q .non H', rt := Q } (start N vs) H) : FnOk P w K mg base CX0 (k + 1) f fd ps sp := by
 obtain ⟨oc, od, kV, doc, pm, an, cdv, ct, osl, rfl, lk, hcd⟩ := F.ex
 refine fn_of lk hcd S len fun A outer s H vs Q E hr hsp => ?_
 obtain ⟨t, h, q⟩ := hbody cdv A outer s H vs Q E hr hsp
 exact ⟨t, h.nox, q⟩
theorem Fun.binds {x qual : Str} {st : Stmt} {f : Addr} {fd : FuncData} {ps : List Str} (F : Fun K x qual st f fd)
  (h : ∀ (kV doc pm : Value) (an : Option Addr) (cdv ct : Value) (us : List Value), us.length = ps.length → bindArgs (PySem.W.fnOf x qual (defArgs st) (defBody st) (defScope st) .none kV doc pm an cdv ct) ⟨us, []⟩ = pure (ps.zip us)) : Binds K fd ps [] := by
 obtain ⟨oc, od, kV, doc, pm, an, cdv, ct, osl, rfl, lk, hcd⟩ := F.ex
 exact .all (h kV doc pm an cdv ct)
theorem fun_mk {x qual : Str} {st : Stmt} {f : Addr} {oc : Value} {od an : Option Addr} {osl : Array (Option Value)} {kV doc pm cdv ct : Value} (l : K.lookup f = some ⟨oc, od, .func (PySem.W.fnOf x qual (defArgs st) (defBody st) (defScope st) .none kV doc pm an cdv ct), osl⟩)
  (c : PySem.W.codeIn K cdv qual = true) (k : PySem.W.keepIn K (.ref f) = true) : Fun K x qual st f (PySem.W.fnOf x qual (defArgs st) (defBody st) (defScope st) .none kV doc pm an cdv ct) := ⟨⟨oc, od, kV, doc, pm, an, cdv, ct, osl, rfl, l, c⟩, k⟩
end
theorem hu_of {A : Around} {k : Nat} (hr : Room k A) : A.units + 1 < cLine := Nat.lt_of_le_of_lt (Nat.add_le_add_left (by decide : 1 ≤ 64) _) hr.units
theorem small1000 {n : Nat} (h : n ≤ 1000) : n < sizeLine := Nat.lt_of_le_of_lt h (by decide)
section
variable {X : Cx}
theorem pv (i : Nat) {x : Str} {pos : Pos} (hN : X.N[i]? = some x := by rfl) (hv : Vis X.env.scope x := by first | exact Or.inl rfl | exact Or.inr (Or.inl rfl) | exact Or.inr (Or.inr rfl)) (hd : (x == ("__debug__" : Str)) = false := by decide)
  (hcd : (x == ("__classdict__" : Str)) = false := by decide) : PE X (.Name x pos) (tVar i) := pe_var hN hv hd hcd
end
theorem iteF {A B : Prop} (h : B) : if false = true then A else B := by
 rw [if_neg Bool.false_ne_true]
 exact h
theorem iteT {A B : Prop} (h : A) : if true = true then A else B := by
 rw [if_pos rfl]
 exact h
theorem ite2 {c A B : Prop} [Decidable c] (h1 : c → A) (h2 : ¬ c → B) : if c then A else B := by
 by_cases h : c
 ·rw [if_pos h]
  exact h1 h
 ·rw [if_neg h]
  exact h2 h
theorem iteNS {c A B : Prop} [Decidable c] (hc : c) (h : B) : if (!decide c) = true then A else B := by
 rw [decide_eq_true hc]
 exact iteF h
noncomputable def Same (H H' : Hp) : Prop := ∀ b o, H b = some o → H' b = some o
theorem Same.refl (H : Hp) : Same H H := fun _ _ h => h
theorem Same.trans {H H1 H2 : Hp} (a : Same H H1) (b : Same H1 H2) : Same H H2 := fun c o h => b c o (a c o h)
theorem Same.free {H H' : Hp} (e : Same H H') {l : Addr} (h : H' l = Option.none) : H l = Option.none := by
 cases q : H l with
 | none => rfl
 | some o =>
  rw [e l o q] at h
  cases h
theorem Same.seq {K : PySem.W.Frag} {H H' : Hp} {a : Addr} {xs : List V} (e : Same H H') (h : SqL K H a xs) : SqL K H' a xs := by
 rcases h with (h | ⟨o, h⟩) | h
 ·exact .inl (.inl (e _ _ h))
 ·exact .inl (.inr ⟨o, e _ _ h⟩)
 ·exact .inr h
end L2
namespace L2
open PySem PySem.Spec PyProof.Rows
section
variable {κ : Type} [DecidableEq κ]
noncomputable def valV (kvs : List (κ × V)) (k : κ) : Option V := (kvs.find? fun kv => decide (kv.1 = k)).map (·.2)
noncomputable def putK (kvs : List (κ × V)) (k : κ) (v : V) : List (κ × V) :=
 if (kvs.any fun kv => decide (kv.1 = k)) = true then kvs.map (fun kv => if kv.1 = k then (kv.1, v) else kv) else kvs ++ [(k, v)]
theorem valV_pos {p : κ × V} {r : List (κ × V)} {k : κ} (e : p.1 = k) : valV (p :: r) k = some p.2 := by simp [valV, List.find?_cons, e]
theorem valV_neg {p : κ × V} {r : List (κ × V)} {k : κ} (e : ¬ p.1 = k) : valV (p :: r) k = valV r k := by simp [valV, List.find?_cons, e]
theorem valV_any (k : κ) : ∀ kvs : List (κ × V), (kvs.any fun kv => decide (kv.1 = k)) = (valV kvs k).isSome
 | [] => rfl
 | p :: r => by
  rw [List.any_cons]
  by_cases e : p.1 = k
  ·simp only [valV_pos e, decide_eq_true e, Bool.true_or, Option.isSome_some]
  ·rw [valV_neg e, decide_eq_false e, Bool.false_or]; exact valV_any k r
theorem valV_map (k j : κ) (y : V) : ∀ kvs : List (κ × V), valV (kvs.map fun kv => if kv.1 = k then (kv.1, y) else kv) j = (valV kvs j).map fun x => if j = k then y else x
 | [] => rfl
 | p :: r => by
  have ih := valV_map k j y r
  rw [List.map_cons]
  by_cases h : p.1 = k
  ·rw [if_pos h]
   by_cases e : p.1 = j
   ·rw [valV_pos (p := (p.1, y)) e, valV_pos e, Option.map_some, if_pos (e.symm.trans h)]
   ·rw [valV_neg (p := (p.1, y)) e, valV_neg e, ih]
  ·rw [if_neg h]
   by_cases e : p.1 = j
   ·rw [valV_pos (p := p) e, valV_pos e, Option.map_some, if_neg (fun z => h (e.trans z))]
   ·rw [valV_neg (p := p) e, valV_neg e, ih]
theorem valV_snoc (k j : κ) (y : V) : ∀ kvs : List (κ × V), valV kvs k = none → valV (kvs ++ [(k, y)]) j = if j = k then some y else valV kvs j
 | [], _ => by
  by_cases e : k = j
  ·rw [if_pos e.symm]; exact valV_pos (p := (k, y)) e
  ·rw [if_neg (fun z => e z.symm)]; exact valV_neg (p := (k, y)) e
 | p :: r, hn => by
  rw [List.cons_append]
  have hk : ¬ p.1 = k := fun z => by rw [valV_pos z] at hn; cases hn
  rw [valV_neg hk] at hn
  have ih := valV_snoc k j y r hn
  by_cases e : p.1 = j
  ·rw [valV_pos e, valV_pos e, if_neg (fun z => hk (e.trans z))]
  ·rw [valV_neg e, valV_neg e, ih]
theorem valV_put (kvs : List (κ × V)) (k j : κ) (y : V) : valV (putK kvs k y) j = if j = k then some y else valV kvs j := by
 unfold putK
 by_cases a : (kvs.any fun kv => decide (kv.1 = k)) = true
 ·rw [if_pos a, valV_map]
  rw [valV_any] at a
  by_cases e : j = k
  ·obtain ⟨x, hx⟩ := Option.isSome_iff_exists.mp a
   rw [if_pos e, e, hx, Option.map_some, if_pos rfl]
  ·rw [if_neg e]
   cases valV kvs j with
   | none => rfl
   | some x => rw [Option.map_some, if_neg e]
 ·rw [if_neg a]
  refine valV_snoc k j y kvs ?_
  rw [valV_any] at a
  cases q : valV kvs k with
  | none => rfl
  | some x => rw [q] at a; exact (a rfl).elim
theorem length_putK (kvs : List (κ × V)) (k : κ) (v : V) : (putK kvs k v).length ≤ kvs.length + 1 := by
 unfold putK
 split
 ·rw [List.length_map]; omega
 ·rw [List.length_append, List.length_cons, List.length_nil]; omega
theorem RelO.isSome_eq {o : Option V} {u : Option Value} (r : RelO o u) : o.isSome = u.isSome := by
 cases o with
 | none => cases u with
  | none => rfl
  | some _ => exact (show False from r).elim
 | some _ => cases u with
  | none => exact (show False from r).elim
  | some _ => rfl
theorem RelO.getD {o : Option V} {u : Option Value} {d : V} {d' : Value} (r : RelO o u) (rd : RelV d d') : RelV (o.getD d) (u.getD d') := by
 cases o with
 | none => cases u with
  | none => exact rd
  | some _ => exact (show False from r).elim
 | some _ => cases u with
  | none => exact (show False from r).elim
  | some _ => exact r
theorem KV.val {kvs : List (κ × V)} {vs : List (κ × Value)} (r : KV kvs vs) (k : κ) : RelO (valV kvs k) (valueAt vs k) := by
 unfold KV at r
 induction r with
 | nil => exact True.intro
 | @cons p q ps qs h t ih =>
  obtain ⟨h1, h2⟩ := h
  by_cases e : p.1 = k
  ·have e' : q.1 = k := h1.symm.trans e
   have b : valueAt (q :: qs) k = some q.2 := by simp [valueAt, List.find?_cons, e']
   rw [valV_pos e, b]; exact h2
  ·have e' : ¬ q.1 = k := fun z => e (h1.trans z)
   have b : valueAt (q :: qs) k = valueAt qs k := by simp [valueAt, List.find?_cons, e']
   rw [valV_neg e, b]; exact ih
theorem KV.any {kvs : List (κ × V)} {vs : List (κ × Value)} (r : KV kvs vs) (k : κ) : (kvs.any fun kv => decide (kv.1 = k)) = vs.any fun kv => decide (kv.1 = k) := by
 unfold KV at r
 induction r with
 | nil => rfl
 | cons h t ih => rw [List.any_cons, List.any_cons, ih, h.1]
theorem KV.repl {kvs : List (κ × V)} {vs : List (κ × Value)} (r : KV kvs vs) (k : κ) {y : V} {u : Value} (ry : RelV y u) :
  KV (kvs.map fun kv => if kv.1 = k then (kv.1, y) else kv) (vs.map fun kv => if kv.1 = k then (kv.1, u) else kv) := by
 unfold KV at r ⊢
 induction r with
 | nil => exact .nil
 | @cons p q ps qs h t ih =>
  rw [List.map_cons, List.map_cons]
  refine .cons ?_ ih
  obtain ⟨h1, h2⟩ := h
  by_cases e : p.1 = k
  ·rw [if_pos e, if_pos (h1.symm.trans e)]; exact ⟨h1, ry⟩
  ·rw [if_neg e, if_neg (fun z => e (h1.trans z))]; exact ⟨h1, h2⟩
theorem KV.put {kvs : List (κ × V)} {vs : List (κ × Value)} (r : KV kvs vs) (k : κ) {y : V} {u : Value} (ry : RelV y u) : KV (putK kvs k y) (stored vs k u) := by
 unfold putK stored
 rw [r.any k]
 by_cases e : (vs.any fun kv => decide (kv.1 = k)) = true
 ·rw [if_pos e, if_pos e]; exact r.repl k ry
 ·rw [if_neg e, if_neg e]; exact Paired.snoc r ⟨rfl, ry⟩
theorem KV.length {kvs : List (κ × V)} {vs : List (κ × Value)} (r : KV kvs vs) : kvs.length = vs.length := Paired.length r
end
theorem kV_is {P : Program} {w : World} {k : Key} {u : Value} (r : RelV (kV k) u) : (mixKind P w).is k u = true := by
 cases k with
 | inl i => obtain ⟨t, e⟩ := (show ∃ t, u = Value.int i t from r); subst e; exact mixKind_int P w i t
 | inr x => obtain ⟨t, e⟩ := (show ∃ t, u = Value.str x t from r); subst e; exact mixKind_str P w x t
theorem items_are {P : Program} {w : World} : ∀ {ks : List Key} {us : List Value}, Vals (ks.map kV) us → ItemsAre (mixKind P w) ks us
 | [], _, r => by rw [List.map_nil] at r; cases r; exact .nil
 | k :: ks, _, r => by
  rw [List.map_cons] at r
  cases r with
  | cons h t => exact .cons (kV_is h) (items_are t)
noncomputable abbrev KT (H : Hp) : List (List Key × V) → List (List Key × Addr × Value) → Prop := Paired fun p q => p.1 = q.1 ∧ H q.2.1 = some (.tup (p.1.map kV)) ∧ RelV p.2 q.2.2
theorem KT.val {H : Hp} {kvs : List (List Key × V)} {xs : List (List Key × Addr × Value)} (r : KT H kvs xs) (k : List Key) : RelO (valV kvs k) ((atKey xs k).map (·.2)) := by
 induction r with
 | nil => exact True.intro
 | @cons p q ps qs h t ih =>
  obtain ⟨h1, _, h2⟩ := h
  by_cases e : p.1 = k
  ·have e' : q.1 = k := h1.symm.trans e
   have b : atKey (q :: qs) k = some q.2 := by simp [atKey, List.find?_cons, e']
   rw [valV_pos e, b]; exact h2
  ·have e' : ¬ q.1 = k := fun z => e (h1.trans z)
   have b : atKey (q :: qs) k = atKey qs k := by simp [atKey, List.find?_cons, e']
   rw [valV_neg e, b]; exact ih
theorem KT.repl {H : Hp} {kvs : List (List Key × V)} {xs : List (List Key × Addr × Value)} (r : KT H kvs xs) (k : List Key) {y : V} {u : Value} (ry : RelV y u) :
  KT H (kvs.map fun kv => if kv.1 = k then (kv.1, y) else kv) (xs.map (putAt k u)) := by
 induction r with
 | nil => exact .nil
 | @cons p q ps qs h t ih =>
  rw [List.map_cons, List.map_cons]
  refine .cons ?_ ih
  obtain ⟨h1, h2, h3⟩ := h
  unfold putAt
  by_cases e : p.1 = k
  ·rw [if_pos e, if_pos (h1.symm.trans e)]; exact ⟨h1, h2, ry⟩
  ·rw [if_neg e, if_neg (fun z => e (h1.trans z))]; exact ⟨h1, h2, h3⟩
theorem KT.put {H : Hp} {kvs : List (List Key × V)} {xs : List (List Key × Addr × Value)} (r : KT H kvs xs) (k : List Key) {b : Addr} {y : V} {u : Value} (hb : H b = some (.tup (k.map kV))) (ry : RelV y u) :
  KT H (putK kvs k y) (storedH xs k b u) := by
 have e : (kvs.any fun kv => decide (kv.1 = k)) = (atKey xs k).isSome := by
  rw [valV_any, (r.val k).isSome_eq, Option.isSome_map]
 unfold putK storedH
 rw [e]
 by_cases q : (atKey xs k).isSome = true
 ·rw [if_pos q, if_pos q]; exact r.repl k ry
 ·rw [if_neg q, if_neg q]; exact Paired.snoc r ⟨rfl, hb, ry⟩
theorem KT.keeps {H H' : Hp} {kvs : List (List Key × V)} {xs : List (List Key × Addr × Value)} (r : KT H kvs xs) (ht : ∀ b ys, H b = some (.tup ys) → H' b = some (.tup ys)) : KT H' kvs xs :=
 Paired.mapP r fun _ _ z => ⟨z.1, ht _ _ z.2.1, z.2.2⟩
section
variable {P : Program} {w : World} {H : Hp} {h : Heap} {a : Addr}
theorem rd_of {u : HO} (ok : HOk P w H h) (e : Rd H a u) : ObjOk P w H h a u := e.ok ok
theorem dk_rd {kvs : List (Key × V)} (ok : HOk P w H h) (e : Rd H a (.dK kvs)) : kvs.length ≤ sizeLine ∧ (a == sysModules) = false ∧ ∃ vs, KV kvs vs ∧ h.DictOf (mixKind P w) a vs :=
 show ObjOk P w H h a (.dK kvs) from rd_of ok e
theorem dk_of {kvs : List (Key × V)} (ok : HOk P w H h) (e : H a = some (.dK kvs)) : kvs.length ≤ sizeLine ∧ (a == sysModules) = false ∧ ∃ vs, KV kvs vs ∧ h.DictOf (mixKind P w) a vs := dk_rd ok (.inl e)
theorem key_of {ks : List Key} (ok : HOk P w H h) (e : H a = some (.tup (ks.map kV))) : (tupleKind (mixKind P w)).is h ks a := by
 obtain ⟨_, its, r, o, h1, h2, n, h3⟩ := (show ObjOk P w H h a (.tup (ks.map kV)) from ok a _ e)
 exact ⟨o, its.toArray, n, h1, h2, h3, by simpa using items_are r⟩
theorem dt_rd {kvs : List (List Key × V)} (ok : HOk P w H h) (e : Rd H a (.dT kvs)) : kvs.length ≤ sizeLine ∧ (a == sysModules) = false ∧
  ∃ xs, KT H kvs xs ∧ h.DictOfH (tupleKind (mixKind P w)) a xs := by
 obtain ⟨z, y, xs, r, o, es, ep, h1, h2, h3, h4, h5⟩ := (show ObjOk P w H h a (.dT kvs) from rd_of ok e)
 refine ⟨z, y, xs, r, o, es, ep, h1, h2, h3, h4, fun x hx => ?_, h5⟩
 have all : ∀ {l : List (List Key × V)} {m : List (List Key × Addr × Value)}, KT H l m → ∀ x ∈ m, (tupleKind (mixKind P w)).is h x.1 x.2.1 := by
  intro l m q
  induction q with
  | nil => intro x hx; exact nomatch hx
  | @cons p q ps qs hq t ih =>
   intro x hx
   rcases List.mem_cons.mp hx with e | hx
   ·subst e
    exact key_of ok (by rw [← hq.1]; exact hq.2.1)
   ·exact ih x hx
 exact all r x hx
theorem dt_of {kvs : List (List Key × V)} (ok : HOk P w H h) (e : H a = some (.dT kvs)) : kvs.length ≤ sizeLine ∧ (a == sysModules) = false ∧
  ∃ xs, KT H kvs xs ∧ h.DictOfH (tupleKind (mixKind P w)) a xs := dt_rd ok (.inl e)
end
noncomputable def DGet (H : Hp) (a : Addr) (y : V) (r : Option V) : Prop :=
 (∃ kvs k, Rd H a (.dK kvs) ∧ y = kV k ∧ r = valV kvs k) ∨ ∃ kvs k b, Rd H a (.dT kvs) ∧ y = .ref b ∧ H b = some (.tup (k.map kV)) ∧ r = valV kvs k
noncomputable def DPut (H : Hp) (a : Addr) (y v : V) (H' : Hp) : Prop :=
 (∃ kvs k, H a = some (.dK kvs) ∧ y = kV k ∧ kvs.length < sizeLine ∧ H' = upd H a (.dK (putK kvs k v))) ∨
 ∃ kvs k b, H a = some (.dT kvs) ∧ y = .ref b ∧ H b = some (.tup (k.map kV)) ∧ kvs.length < sizeLine ∧ H' = upd H a (.dT (putK kvs k v))
theorem DGet.k {H : Hp} {a : Addr} {kvs : List (Key × V)} {k : Key} (e : H a = some (.dK kvs)) : DGet H a (kV k) (valV kvs k) := .inl ⟨kvs, k, .inl e, rfl, rfl⟩
theorem DPut.k {H : Hp} {a : Addr} {kvs : List (Key × V)} {k : Key} {v : V} (e : H a = some (.dK kvs)) (hl : kvs.length < sizeLine) : DPut H a (kV k) v (upd H a (.dK (putK kvs k v))) := .inl ⟨kvs, k, e, rfl, hl, rfl⟩
section
variable {X : Cx} {pins : List (Addr × Obj)} {σ : St} {H : Hp} {s : Shared} {a : Addr} {y v : V} {u r : Value} {o : Option V} {A : Around} {E : Value → Shared → Prop}
theorem Inv.big (I : Inv X pins σ H s) : sysModules < s.heap.objs.size := by
 have h : mainGlobals < s.heap.objs.size := (I.mod.glob.keeps I.bk).lt
 exact Nat.lt_trans (by decide) h
theorem d_write {h' : Heap} {t' : Nat} {ob : HO} (I : Inv X pins σ H s) (mu : Mut (H a)) (hs : Heap.SameBut a s.heap h') (he : ∃ q, h'.get? a = some q) (new : ObjOk X.prog X.w (upd H a ob) h' a ob) :
  Inv X pins σ (upd H a ob) { s with heap := h', toks := t' } :=
 I.write (x := a) (e := a) mu (.inl rfl) (fun b q hb z => (hs.2 b hb).trans z) he new
theorem dk_new {P : Program} {w : World} {H' : Hp} {h' : Heap} {kvs : List (Key × V)} {vs : List (Key × Value)} (z : kvs.length ≤ sizeLine) (hd : (a == sysModules) = false) (rel : KV kvs vs) (dd : h'.DictOf (mixKind P w) a vs) :
  ObjOk P w H' h' a (.dK kvs) := ⟨z, hd, vs, rel, dd⟩
theorem d_setItem {H' : Hp} {Q : Unit → Shared → Prop} (hu : A.units + 1 < cLine) (I : Inv X pins σ H s) (g : DPut H a y v H') (ry : RelV y u) (rv : RelV v r) (h : ∀ s', Inv X pins σ H' s' → Q () s') :
  wpAny (model X.prog X.w) A (setItem (.ref a) u r) Q E s := by
 rcases g with ⟨kvs, k, e, ey, l, eH⟩ | ⟨kvs, k, b, e, ey, eb, l, eH⟩
 ·subst ey eH
  obtain ⟨z, hd, vs, rel, dd⟩ := dk_of I.hok e
  have hz : vs.length ≤ sizeLine := by rw [← rel.length]; exact z
  have hl : (putK kvs k v).length ≤ sizeLine := by have := length_putK kvs k v; omega
  refine wpAny_setItem_pairs (hsz := hz) (kV_is ry) dd fun h' dd' hs => h _ ?_
  have he : ∃ q, h'.get? a = some q := let ⟨q, _, _, hq, _⟩ := dd'; ⟨q, hq⟩
  exact d_write I (by rw [e]; exact True.intro) hs he (dk_new hl hd (rel.put k rv) dd')
 ·subst ey eH
  cases (show u = Value.ref b from ry)
  obtain ⟨z, hd, xs, rel, dd⟩ := dt_of I.hok e
  have hz : xs.length ≤ sizeLine := by rw [← Paired.length rel]; exact z
  have hl : (putK kvs k v).length ≤ sizeLine := by have := length_putK kvs k v; omega
  refine wpAny_setItem_heap (hsz := hz) (tupleKind_room_in1 hu) (key_of I.hok eb) dd fun h' dd' hs => h _ ?_
  obtain ⟨q, es, ep, hq, h2, h3, h4, _, h5⟩ := dd'
  refine d_write I (by rw [e]; exact True.intro) hs ⟨q, hq⟩ ⟨hl, hd, _, (rel.put k eb rv).keeps fun c ys ec => ?_, q, es, ep, hq, h2, h3, h4, h5⟩
  rw [qr (ne_of ec e (fun z => nomatch z))]
  exact ec
end
section
variable {X : Cx} {pins : List (Addr × Obj)} {σ : St} {H : Hp} {s : Shared} {a : Addr} {kvs : List (Key × V)} {k : Key} {u : Value} {A : Around} {E : Value → Shared → Prop}
end
noncomputable def sDPut (td ty tv : TE) : TS := fun D σ H => tv σ H fun v H1 => td σ H1 fun x H2 => ty σ H2 fun y H3 => ∃ a H4, x = .ref a ∧ DPut H3 a y v H4 ∧ D.nx σ H4
section
variable {X : Cx} {o i e value : Expr} {pos pos' tpos : Pos} {td ty tv : TE}
theorem ps_dput (hu : X.A.units + 1 < cLine) (ho : PE X o td) (hi : PE X i ty) (hv : PE X value tv) (hs : swapsWith value (some (.Subscript o i pos')) pos.line X.env = pure false) :
  PS X (.Assign [.Subscript o i pos'] value pos) (sDPut td ty tv) := by
 intro pins s σ H D I h
 refine wpAny_Assign_Subscript (thn (hv pins s σ H _ I h) fun r s1 ⟨v, H1, I1, rv, q1⟩ => thn (ho pins s1 σ H1 _ I1 q1) fun u s2 ⟨x, H2, I2, rx, q2⟩ => thn (hi pins s2 σ H2 _ I2 q2) fun iv s3 hh9 => ?_) hs
 obtain ⟨y, H3, I3, ry, a, H4, ex, g, q3⟩ := hh9
 subst ex
 obtain rfl : u = Value.ref a := rx
 exact d_setItem hu I3 g ry rv fun s4 I4 => ⟨σ, H4, I4, q3⟩
end
theorem dk_empty {P : Program} {w : World} {H : Hp} (h : Heap) (hb : sysModules < h.objs.size) : ObjOk P w H (h.push { cls := .type "dict", data := .dict #[] }) h.objs.size (.dK []) :=
 ⟨Nat.zero_le _, beq_eq_false_iff_ne.mpr (Ne.symm (Nat.ne_of_lt hb)), [], .nil, Heap.DictOf.new h⟩
noncomputable def tDNewK : TE := fun _ H Q => ∀ p, H p = none → Q (.ref p) (upd H p (.dK []))
section
variable {X : Cx} {pos : Pos}
theorem pe_dnewK : PE X (.Dict [] [] pos) tDNewK := fun pins s σ H Q I h =>
 wpAny_Dict_empty ⟨.ref s.heap.objs.size, _, I.laid (a := s.heap.objs.size) (o := .dK []) (t' := s.toks) (fun _ _ q => Heap.get?_push_of_some _ q) (Nat.le_refl _) (dk_empty s.heap I.big), rfl, h _ (I.hok.fresh (Nat.le_refl _))⟩
end
structure M2 (X : Cx) (o : Expr) (m : Str) (apos : Pos) (e f : Expr) (cpos : Pos) : Prop where
 base : attributeBase o m X.env (eval o X.env) = eval o X.env
 few : ((backTo cpos (starEach [e, f] X.env)).all (fun x => !x.1) && (backToKw cpos (keywordEach [] X.env)).all (fun x => x.1.isSome)
  && decide (([e, f] : List Expr).length + ([] : List Keyword).length + (if ([] : List Keyword).isEmpty then 0 else 1) < 30)) = true
 line : (apos.endLine == cpos.line) = true
 trees : backTo cpos (starEach [e, f] X.env) = [(false, eval e X.env), (false, eval f X.env)]
noncomputable def IsD (H : Hp) (a : Addr) : Prop := (∃ kvs, Rd H a (.dK kvs)) ∨ ∃ kvs, Rd H a (.dT kvs)
theorem isD_at {X : Cx} {pins : List (Addr × Obj)} {σ : St} {H : Hp} {s : Shared} {a : Addr} (I : Inv X pins σ H s) (d : IsD H a) :
  s.TypeIs (.ref a) "dict" ∧ (∀ b, Value.ref a = .ref b → ∃ ob, s.heap.get? b = some ob ∧ ob.dict = none) ∧ (a == sysModules) = false := by
 rcases d with ⟨kvs, e⟩ | ⟨kvs, e⟩
 ·obtain ⟨_, hd, vs, _, dd⟩ := dk_rd I.hok e
  refine ⟨dd.typeIs, fun b q => ?_, hd⟩
  cases q
  obtain ⟨ob, _, _, h1, h2, _⟩ := dd
  exact ⟨ob, h1, h2.2.1⟩
 ·obtain ⟨_, hd, xs, _, dd⟩ := dt_rd I.hok e
  refine ⟨dd.typeIs, fun b q => ?_, hd⟩
  cases q
  obtain ⟨ob, _, _, h1, h2, _⟩ := dd
  exact ⟨ob, h1, h2.2.1⟩
section
variable {X : Cx} {pins : List (Addr × Obj)} {σ : St} {H : Hp} {s : Shared} {a : Addr} {y d : V} {u r : Value} {o : Option V} {A : Around} {E : Value → Shared → Prop}
theorem d_get2 {Q : Value → Shared → Prop} (hu : A.units + 1 < cLine) (I : Inv X pins σ H s) (g : DGet H a y o) (ry : RelV y u) (rd : RelV d r) (h : ∀ w' s', Inv X pins σ H s' → RelV (o.getD d) w' → Q w' s') :
  wpAny (model X.prog X.w) A (call (.builtin "dict.get") [.ref a, u, r]) Q E s := by
 rcases g with ⟨kvs, k, e, ey, l⟩ | ⟨kvs, k, b, e, ey, eb, l⟩
 ·subst ey
  obtain ⟨z, hd, vs, rel, dd⟩ := dk_rd I.hok e
  refine call_meetsIn PySem.F.slot_dict_get dd.typeIs PySem.F.entry_dict_get (PySem.F.args_dict_get_3 _ _ _) (meets_dict_get_default (mixKind X.prog X.w) a (kV_is ry) hd r) ⟨_, dd.mapOf, h _ _ (I.tok _) ?_⟩
  rw [l]
  exact (rel.val k).getD rd
 ·subst ey
  cases (show u = Value.ref b from ry)
  obtain ⟨z, hd, xs, rel, dd⟩ := dt_rd I.hok e
  refine call_meetsIn PySem.F.slot_dict_get dd.typeIs PySem.F.entry_dict_get (PySem.F.args_dict_get_3 _ _ _) (meetsH_dict_get_default (tupleKind (mixKind X.prog X.w)) a b hd r) ⟨tupleKind_room_in1 hu, k, xs, key_of I.hok eb, dd, h _ _ (I.tok _) ?_⟩
  rw [l]
  exact (rel.val k).getD rd
end
noncomputable def tDGet2 (td ty tx : TE) : TE := fun σ H Q => td σ H fun x H1 => ∃ a, x = .ref a ∧ IsD H1 a ∧ ty σ H1 fun y H2 => tx σ H2 fun z H3 => ∃ o, DGet H3 a y o ∧ Q (o.getD z) H3
section
variable {X : Cx} {o e f : Expr} {apos cpos : Pos} {td ty tx : TE}
theorem pe_dget2 (hu : X.A.units + 1 < cLine) (ho : PE X o td) (he : PE X e ty) (hf : PE X f tx) (m : M2 X o "get" apos e f cpos) : PE X (.Call (.Attribute o "get" apos) [e, f] [] cpos) (tDGet2 td ty tx) := by
 intro pins s σ H Q I h
 refine wpAny_Call_method m.base m.few m.line PySem.F.plainAttrs_dict PySem.F.slot_dict_get PySem.F.type_dict_get (thn (ho pins s σ H _ I h) fun u s1 hh9 => ?_)
 obtain ⟨x, H1, I1, rx, a, ex, d, q1⟩ := hh9
 subst ex
 obtain rfl : u = Value.ref a := rx
 obtain ⟨t1, t2, _⟩ := isD_at I1 d
 refine ⟨t1, t2, ?_⟩
 rw [m.trees]
 refine Calls.callWith_builtin rfl (Calls.evalArgs_plain (Calls.spliced_cons (thn (he pins s1 σ H1 _ I1 q1) fun iv s2 ⟨y, H2, I2, ry, q2⟩ =>
  Calls.spliced_cons (thn (hf pins s2 σ H2 _ I2 q2) fun fv s3 ⟨z, H3, I3, rz, ov, g, q3⟩ => Calls.spliced_nil ?_))))
 exact d_get2 hu I3 g ry rz fun w' s4 I4 rw' => ⟨_, H3, I4, rw', q3⟩
end
section
variable {X : Cx} {pins : List (Addr × Obj)} {σ : St} {H : Hp} {s : Shared} {a : Addr} {kvs : List (Key × V)} {A : Around} {E : Value → Shared → Prop}
end
section
variable {X : Cx} {pins : List (Addr × Obj)} {σ : St} {H : Hp} {s : Shared} {a : Addr} {y : V} {u : Value} {A : Around} {E : Value → Shared → Prop}
end
end L2
namespace L2
open PySem PySem.Spec PyProof.Rows
section
variable {κ : Type} [DecidableEq κ]
end
end L2
namespace Add
open PySem PySem.Spec PyProof.Rows L2
theorem pos {j : Int} (h : 0 < j) : 0 < j := h
theorem mulL {i j : Int} (h : -1000000 < i) (h' : i < 1000000) : CMul i j := .inl ⟨by omega, by omega⟩
section
variable {K : PySem.W.Frag}
theorem kit_int_int : PySem.W.kitOne K (.type "int") (.type "int") = some true := by kernel_rfl
theorem kit_int_bool : PySem.W.kitOne K (.type "int") (.type "bool") = some false := by kernel_rfl
theorem kit_bool_bool : PySem.W.kitOne K (.type "bool") (.type "bool") = some true := by kernel_rfl
theorem kit_tuple_tuple : PySem.W.kitOne K (.type "tuple") (.type "tuple") = some true := by kernel_rfl
end
section
variable {X : Cx}
theorem call_isi : CallR X (.builtin "isinstance") (fun xs H Q => ∃ x t c b, xs = [x, .ty c] ∧ TyOf X.K H x t ∧ PySem.W.kitOne X.K t (.type c) = some b ∧ Q (.bl b) H) := by
 intro pins s σ H xs us Q I r h
 obtain ⟨x, t, c, b, rfl, ty, e, q⟩ := h
 obtain ⟨u, u', rfl, r1, r2⟩ := Vals.two r
 cases (show u' = Value.type c from r2)
 exact isinst_ok I r1 ty e fun tk => ⟨.bl b, H, I.tok tk, rfl, q⟩
noncomputable def eqVs : List V → List V → Bool
 | [], [] => true
 | x :: xs, y :: ys => eqV x y && eqVs xs ys
 | _, _ => false
noncomputable def eAt (xs ys : List V) (j : Nat) : Bool := match xs[j]?, ys[j]? with
 | some x, some y => eqV x y
 | _, _ => false
theorem all_eq : ∀ (xs ys : List V), ((List.range (min xs.length ys.length)).all (eAt xs ys) && (xs.length == ys.length)) = eqVs xs ys
 | [], [] => rfl
 | [], _ :: _ => by simp [eqVs]
 | _ :: _, [] => by simp [eqVs]
 | x :: xs, y :: ys => by
  have ih := all_eq xs ys
  have e : min (x :: xs).length (y :: ys).length = min xs.length ys.length + 1 := by simp only [List.length_cons]; omega
  rw [e, List.range_succ_eq_map, List.all_cons, List.all_map]
  have f : (eAt (x :: xs) (y :: ys) ∘ Nat.succ) = eAt xs ys := by funext j; simp [eAt, Function.comp]
  have g : ((x :: xs).length == (y :: ys).length) = (xs.length == ys.length) := by simp
  rw [f, g]
  show ((eqV x y && (List.range (min xs.length ys.length)).all (eAt xs ys)) && (xs.length == ys.length)) = (eqV x y && eqVs xs ys)
  rw [← ih, Bool.and_assoc]
theorem items_eq {A : Around} {s : Shared} {xs ys : List V} {us ws : List Value} (r : Vals xs us) (r' : Vals ys ws) (fx : xs.all flatV = true) (fy : ys.all flatV = true) :
  ∀ j (h1 : j < us.toArray.size) (h2 : j < ws.toArray.size), SeqAt.EqAt A s us.toArray[j] ws.toArray[j] (eAt xs ys j) := by
 intro j h1 h2
 have g1 : j < xs.length := by rw [r.length]; simpa using h1
 have g2 : j < ys.length := by rw [r'.length]; simpa using h2
 obtain ⟨u, hu, ru⟩ := r.get (i := j) (x := xs[j]) (by simp [g1])
 obtain ⟨w, hw, rw'⟩ := r'.get (i := j) (x := ys[j]) (by simp [g2])
 have e1 : us.toArray[j] = u := by
  have : us[j]? = some us[j] := by simp
  rw [this] at hu
  simpa using Option.some.inj hu
 have e2 : ws.toArray[j] = w := by
  have : ws[j]? = some ws[j] := by simp
  rw [this] at hw
  simpa using Option.some.inj hw
 have e3 : eAt xs ys j = eqV xs[j] ys[j] := by simp [eAt, g1, g2]
 rw [e1, e2, e3]
 exact eqAt_V ru rw' (List.all_eq_true.mp fx _ (List.getElem_mem g1)) (List.all_eq_true.mp fy _ (List.getElem_mem g2))
end
noncomputable def Its (lo c : Int) (n : Nat) : It := ⟨fun i _ => i < n, fun i H x H' => H' = H ∧ x = .int (lo + (i : Int) * c), fun i _ => n ≤ i⟩
theorem turn_step {P : Program} {w : World} {K : PySem.W.Frag} {tg : Expr} (it : Addr) (lo c : Int) (n : Nat) : Turn P w K tg (Its lo c n) [it] it (fun i h => IsRangeIter h it (lo + (i : Nat) * c) ((n : Int) - (i : Nat)) c) where
 mem := by simp
 obj := fun i h st b hb => by
  have e : b = it := by simpa using hb
  subst e
  exact ⟨_, st, fun v z => by
   have z' : Data.fields _ = Data.cell v := z
   cases z'⟩
 keep := fun i h h' st k => k it (by simp) _ st
 item := by
  intro X hP hw hK hc i pins s σ H E I hf st hg
  subst hP hw hK
  obtain ⟨f0, f1, f2, f3, f4, f5⟩ := hf it (by simp)
  have W := Walks.range (prog := X.prog) (w := X.w) (I.ok.hd hc) it lo c n
  refine W.item i s _ _ hg st fun v h' tk hv st' kk => ?_
  obtain ⟨t, rfl⟩ := hv
  have I1 : Inv X pins σ H { s with heap := h', toks := tk } := I.turned (fun b o hb e => kk b o (by simpa using hb) e) f0 f1 f3 f4 f5
  exact ⟨_, rfl, go_of (s := { s with heap := h', toks := tk }) (n := "range_iterator") st' rfl rfl (by decide) ⟨.int (lo + (i : Int) * c), H, I1, ⟨t, rfl⟩, ⟨rfl, rfl⟩, st', fun b hb => (hf b hb).1⟩⟩
 done := by
  intro X hP hw hK hc i pins s σ H E I hf st hg
  subst hP hw hK
  obtain ⟨f0, f1, f2, f3, f4, f5⟩ := hf it (by simp)
  exact wpAny_pyNext_range_end (I.ok.hd hc) st (by have : n ≤ i := hg; omega) fun h' eb => ⟨rfl, I.turned (t' := s.toks) (fun b o hb e => eb b o hb e) f0 f1 f3 f4 f5⟩
 self := fun _ _ _ _ _ st h => wpAny_pyIter_rangeiter st h
theorem size_nonneg {i j c : Int} (hc : 0 < c) : 0 ≤ Builtin.Range.rangeSize i j c ∧ (i ≤ j → Builtin.Range.rangeSize i j c ≤ j - i) ∧ (j ≤ i → Builtin.Range.rangeSize i j c = 0) := by
 unfold Builtin.Range.rangeSize
 rw [if_pos hc]
 by_cases h : i < j
 ·rw [if_pos h]
  have h1 : 0 ≤ (j - i - 1) / c := Int.ediv_nonneg (by omega) (by omega)
  have h2 : (j - i - 1) / c ≤ j - i - 1 := Int.ediv_le_self c (by omega)
  exact ⟨by omega, fun _ => by omega, fun z => by omega⟩
 ·rw [if_neg h]
  exact ⟨by omega, fun _ => by omega, fun _ => rfl⟩
theorem small_step {i j c : Int} (hc : 0 < c) (hc2 : c < 1000) (h1 : -1000000 < i) (h2 : i < 1000000) (h3 : -1000000 < j) (h4 : j < 1000000) : Builtin.Range.small i j c = true := by
 obtain ⟨a1, a2, a3⟩ := size_nonneg (i := i) (j := j) hc
 have a4 : Builtin.Range.rangeSize i j c < 10000000 := by
  by_cases h : i ≤ j
  ·have := a2 h; omega
  ·have := a3 (by omega); omega
 unfold Builtin.Range.small
 generalize Builtin.Range.rangeSize i j c = n at a1 a4
 simp only [Builtin.Range.rangeFitsLong, Bool.and_eq_true, Bool.or_eq_true, decide_eq_true_eq, beq_iff_eq, if_pos (show c > 0 from hc)]
 omega
section
variable {X : Cx} {tg : Expr}
noncomputable def iRng3 (ta : TA) : TI := fun σ H R => ta σ H fun vs H1 => ∃ i j c : Int, vs = [.int i, .int j, .int c] ∧ (0 < c ∧ c < 1000 ∧ -1000000 < i ∧ i < 1000000 ∧ -1000000 < j ∧ j < 1000000) ∧ R (Its i c (Builtin.Range.rangeSize i j c).toNat) H1
theorem step_it {pins : List (Addr × Obj)} {σ : L2.St} {H : Hp} {s : Shared} {R : It → Hp → Prop} {E : Value → Shared → Prop} {lo hi c : Int} {t u v : Tok} {tk : Nat} (I : Inv X pins σ H s) (hs : Builtin.Range.small lo hi c = true) (hc : 0 < c)
  (q : R (Its lo c (Builtin.Range.rangeSize lo hi c).toNat) H) : wpAny (model X.prog X.w) X.A (pyIter (.ref s.heap.objs.size)) (PIE X pins σ tg R) E { s with heap := s.heap.push { cls := .type "range", data := .fields #[.int lo t, .int hi u, .int c v] }, toks := tk } := by
 refine wpAny_pyIter_range (IsRange.new ..) hs ?_
 have I1 : Inv X pins σ H { s with heap := s.heap.push { cls := .type "range", data := .fields #[.int lo t, .int hi u, .int c v] }, toks := tk } := I.kept fun b o e => Heap.get?_push_of_some _ e
 refine ⟨(s.heap.push { cls := .type "range", data := .fields #[.int lo t, .int hi u, .int c v] }).objs.size, [(s.heap.push { cls := .type "range", data := .fields #[.int lo t, .int hi u, .int c v] }).objs.size], _, _, H, rfl,
  I1.kept (t' := tk) fun b o e => Heap.get?_push_of_some _ e, turn_step _ lo c (Builtin.Range.rangeSize lo hi c).toNat, ?_, fun b hb => ?_, q⟩
 ·have e1 : lo + ((0 : Nat) : Int) * c = lo := by simp
  have e2 : (((Builtin.Range.rangeSize lo hi c).toNat : Nat) : Int) - ((0 : Nat) : Int) = Builtin.Range.rangeSize lo hi c := by
   have := (size_nonneg (i := lo) (j := hi) hc).1
   omega
  show IsRangeIter _ _ (lo + ((0 : Nat) : Int) * c) ((((Builtin.Range.rangeSize lo hi c).toNat : Nat) : Int) - ((0 : Nat) : Int)) c
  rw [e1, e2]
  exact Heap.get?_push_size _ rfl
 ·have e : b = (s.heap.push { cls := .type "range", data := .fields #[.int lo t, .int hi u, .int c v] }).objs.size := by simpa using hb
  subst e
  exact I1.fpOk (Nat.le_refl _) (I1.hok.fresh (Nat.le_refl _))
theorem pi_range3 {a b c : Expr} {ta : TA} {p pos : Pos} (hg : Gl X "range") (hm : X.mg "range" = none) (ha : PA X [a, b, c] ta) (hs : starEach [a, b, c] X.env = [(false, eval a X.env), (false, eval b X.env), (false, eval c X.env)] := by rfl)
  (hs2 : starEach [b, c] X.env = [(false, eval b X.env), (false, eval c X.env)] := by rfl) : PI X tg (.Call (.Name "range" p) [a, b, c] [] pos) (iRng3 ta) := by
 intro pins s σ H R I h
 refine Call_ (ld_blt I hg hm boot_range (PyProof.Rows.callWith_type1 (thn (ha pos pins s σ H _ I h) fun us s1 ⟨vs, H1, I1, r1, q1⟩ => ?_) (by rw [hs, hs2]) (by rw [hs2]; rfl)))
 obtain ⟨i, j, k, e, ⟨q1, q2, q3, q4, q5, q6⟩, q⟩ := q1
 subst e
 cases r1 with
 | cons r rr =>
  cases rr with
  | cons r' rr =>
   cases rr with
   | cons r2 rr =>
    cases rr
    obtain ⟨t, rfl⟩ := r
    obtain ⟨t', rfl⟩ := r'
    obtain ⟨t2, rfl⟩ := r2
    exact call_range_3 (by omega) (step_it I1 (small_step q1 q2 q3 q4 q5 q6) q1 q) (Or.inl (PyProof.noPylong_small (by omega)))
end
theorem for_step {lo c : Int} {n : Nat} {g : TG} {tb : TS} {D : Ends} {σ : L2.St} {H : Hp} (Pv : Nat → L2.St → Hp → Prop) (h0 : Pv 0 σ H)
  (hs : ∀ i σ H, i < n → Pv i σ H → g (.int (lo + (i : Int) * c)) σ H fun σ2 H2 => tb { D with nx := Pv (i + 1), ct := Pv (i + 1), bk := D.nx } σ2 H2) (hd : ∀ σ H, Pv n σ H → D.nx σ H) :
  ∃ W : Nat → Nat → L2.St → Hp → Prop, (∃ m, W 0 m σ H) ∧ ∀ i m σ H, W i m σ H →
   ((Its lo c n).stop i H ∧ D.nx σ H) ∨ ((Its lo c n).go i H ∧ ∃ N : L2.St → Hp → Prop, (∀ σ' H', N σ' H' → ∃ m', m' < m ∧ W (i + 1) m' σ' H') ∧ ∀ x H', (Its lo c n).yld i H x H' → g x σ H' fun σ2 H2 => tb { D with nx := N, ct := N, bk := D.nx } σ2 H2) := by
 refine ⟨fun i m σ H => m = n - i ∧ i ≤ n ∧ Pv i σ H, ⟨n, by simp, Nat.zero_le _, h0⟩, ?_⟩
 rintro i m σ H ⟨rfl, hi, p⟩
 by_cases hlt : i < n
 ·refine .inr ⟨hlt, Pv (i + 1), fun σ' H' p' => ⟨n - (i + 1), by omega, rfl, hlt, p'⟩, fun x H' y => ?_⟩
  obtain ⟨e, y⟩ := y
  subst e y
  exact hs i σ _ hlt p
 ·have e : i = n := by omega
  subst e
  exact .inl ⟨Nat.le_refl _, hd σ H p⟩
end Add
namespace Add
open PySem PySem.Spec PyProof.Rows L2
section
open PySem.SeqAt
open PySem.AutoSeq1 (wpAny_loadPart')
open PySem.MeetsSeq PySem.MeetsSeq2 PySem.MeetsSeq3
open HT
end
section
variable {prog : Program} {w : World} {A : Around} {E : Value → Shared → Prop} {s : Shared}
end
section
variable {X : Cx}
end
end Add
namespace Add
open PySem PySem.Spec PyProof.Rows L2
theorem closure_go {env : Env} : ∀ (names : List (Str × NameKind)) (acc : List (Str × Addr)), (∀ x ∈ names, x.2 = .free → ∃ c, env.cells.lookup x.1 = some c) →
  (∀ x c, acc.lookup x = some c → env.cells.lookup x = some c) →
  ∃ cl, (forIn names acc fun (x : Str × NameKind) (cs : List (Str × Addr)) => if (x.2 == NameKind.free) = true then (do let a ← cellOf env x.1; pure (ForInStep.yield ((x.1, a) :: cs))) else (pure (ForInStep.yield cs) : Sem (ForInStep (List (Str × Addr))))) = pure cl ∧
   (∀ x c, cl.lookup x = some c → env.cells.lookup x = some c) ∧ (∀ x, (acc.lookup x).isSome = true → (cl.lookup x).isSome = true) ∧ ∀ x ∈ names, x.2 = .free → (cl.lookup x.1).isSome = true
 | [], acc, _, ha => ⟨acc, rfl, ha, fun _ h => h, fun _ h => absurd h (by simp)⟩
 | (n, k) :: r, acc, hf, ha => by
  have hr : ∀ x ∈ r, x.2 = .free → ∃ c, env.cells.lookup x.1 = some c := fun x hx => hf x (List.mem_cons_of_mem _ hx)
  rw [List.forIn_cons]
  cases hk : (k == NameKind.free) with
  | false =>
   obtain ⟨cl, e, c1, c2, c3⟩ := closure_go r acc hr ha
   refine ⟨cl, ?_, c1, c2, fun x hx hx2 => ?_⟩
   ·simp only [hk, Bool.false_eq_true, if_false]
    exact e
   ·rcases List.mem_cons.mp hx with z | z
    ·subst z
     have z2 : k = .free := hx2
     subst z2
     exact absurd hk (by decide)
    ·exact c3 x z hx2
  | true =>
   have hk' : k = .free := by simpa using hk
   obtain ⟨c, hc⟩ := hf (n, k) List.mem_cons_self hk'
   have ha' : ∀ x d, ((n, c) :: acc).lookup x = some d → env.cells.lookup x = some d := fun x d e => by
    rw [List.lookup_cons] at e
    cases q : x == n with
    | true =>
     rw [q] at e
     have q' : x = n := by simpa using q
     subst q'
     rw [hc]; exact e
    | false => rw [q] at e; exact ha x d e
   obtain ⟨cl, e, c1, c2, c3⟩ := closure_go r ((n, c) :: acc) hr ha'
   have there : ((((n, c) :: acc).lookup n).isSome) = true := by simp
   refine ⟨cl, ?_, c1, fun x hx => c2 x ?_, fun x hx hx2 => ?_⟩
   ·have hcell : cellOf env n = pure c := by unfold cellOf; rw [hc]
    simp only [hk, if_true, hcell]
    exact e
   ·rw [List.lookup_cons]
    cases q : x == n with
    | true => rfl
    | false => exact hx
   ·rcases List.mem_cons.mp hx with z | z
    ·subst z; exact c2 n there
    ·exact c3 x z hx2
theorem closure_ok {env : Env} {scope : Scope} (hf : ∀ x ∈ scope.names, x.2 = .free → ∃ c, env.cells.lookup x.1 = some c) :
  ∃ cl, closureFor scope env = pure cl ∧ (∀ x c, cl.lookup x = some c → env.cells.lookup x = some c) ∧ ∀ x ∈ scope.names, x.2 = .free → (cl.lookup x.1).isSome = true := by
 obtain ⟨cl, e, c1, _, c3⟩ := closure_go scope.names [] hf (fun x c h => absurd h (by simp))
 refine ⟨cl, ?_, c1, c3⟩
 unfold closureFor
 exact (congrArg (fun z => z >>= fun cs => (pure cs : Sem (List (Str × Addr)))) e).trans rfl
noncomputable def compOk (N : List Str) (js : List (Option Nat)) (XN : List Str) (xs scope : Scope) : Bool :=
 (scope.kind == .function) && (scope.names.all fun x => x.2 != .cell) && (scope.names.all fun x => x.2 != .local || (scope.names.lookup x.1 == some .local)) &&
 (scope.names.all fun x => x.2 != .free || (xs.names.lookup x.1 == some .cell || xs.names.lookup x.1 == some .free)) && (N.length == js.length) &&
 ((N.zip js).all fun p => match p.2 with | none => true | some j => (XN[j]? == some p.1) && (xs.names.lookup p.1 == some .cell || xs.names.lookup p.1 == some .free) && (scope.names.any fun x => x.1 == p.1 && x.2 == .free) && (scope.names.lookup p.1 == some .free))
structure CompNm (N : List Str) (js : List (Option Nat)) (XN : List Str) (xs scope : Scope) : Prop where
 kind : scope.kind = .function
 nocell : ∀ x ∈ scope.names, x.2 ≠ .cell
 names : ∀ x ∈ scope.names, x.2 = .local → scope.names.lookup x.1 = some .local
 clos : ∀ x ∈ scope.names, x.2 = .free → (xs.names.lookup x.1 = some .cell ∨ xs.names.lookup x.1 = some .free)
 len : N.length = js.length
 free : ∀ (i j : Nat) (x : Str), N[i]? = some x → js[i]? = some (some j) → XN[j]? = some x ∧ (xs.names.lookup x = some .cell ∨ xs.names.lookup x = some .free) ∧ (x, NameKind.free) ∈ scope.names ∧ scope.names.lookup x = some .free
theorem compOk_nm {N : List Str} {js : List (Option Nat)} {XN : List Str} {xs scope : Scope} (h : compOk N js XN xs scope = true) : CompNm N js XN xs scope := by
 unfold compOk at h
 simp only [Bool.and_eq_true, List.all_eq_true, beq_iff_eq, Bool.or_eq_true, bne_iff_ne, ne_eq] at h
 obtain ⟨⟨⟨⟨⟨h1, h2⟩, h3⟩, h4⟩, h5⟩, h6⟩ := h
 refine ⟨h1, fun x hx => h2 x hx, fun x hx e => ?_, fun x hx e => ?_, h5, fun i j x e1 e2 => ?_⟩
 ·rcases h3 x hx with z | z
  ·exact absurd e z
  ·exact z
 ·rcases h4 x hx with z | z
  ·exact absurd e z
  ·exact z
 ·have hz : (N.zip js)[i]? = some (x, some j) := by rw [List.getElem?_zip_eq_some]; exact ⟨e1, e2⟩
  have := h6 _ (List.mem_of_getElem? hz)
  simp only [Bool.and_eq_true, beq_iff_eq, Bool.or_eq_true, List.any_eq_true] at this
  obtain ⟨⟨⟨a1, a2⟩, y, hy, b1, b2⟩, a4⟩ := this
  refine ⟨a1, a2, ?_, a4⟩
  obtain ⟨y1, y2⟩ := y
  have b1' : y1 = x := b1
  have b2' : y2 = .free := b2
  subst b1' b2'
  exact hy
theorem lookup_free {env : Env} {scope : Scope} {x : Str} (h : scope.names.lookup x = some .free) : (relabel scope env).names.lookup x = some .cell ∨ (relabel scope env).names.lookup x = some .free := by
 have gen : ∀ (l : List (Str × NameKind)), l.lookup x = some .free → ((l.map fun (n, k) => if (k == NameKind.free && env.scope.kind == .function && env.kindOf n == some .cell) then (n, NameKind.cell) else (n, k)).lookup x = some .cell ∨ (l.map fun (n, k) => if (k == NameKind.free && env.scope.kind == .function && env.kindOf n == some .cell) then (n, NameKind.cell) else (n, k)).lookup x = some .free) := by
  intro l
  induction l with
  | nil => intro h; simp at h
  | cons y r ih =>
   obtain ⟨n, k⟩ := y
   intro h
   rw [List.lookup_cons] at h
   rw [List.map_cons]
   cases q : x == n with
   | false =>
    rw [q] at h
    have := ih h
    by_cases hc : (k == NameKind.free && env.scope.kind == .function && env.kindOf n == some .cell) = true
    ·simpa [hc, List.lookup_cons, q] using this
    ·simpa [hc, List.lookup_cons, q] using this
   | true =>
    rw [q] at h
    have h' : k = .free := Option.some.inj h
    subst h'
    by_cases hc : (NameKind.free == NameKind.free && env.scope.kind == .function && env.kindOf n == some .cell) = true
    ·exact .inl (by show List.lookup x ((if (NameKind.free == NameKind.free && env.scope.kind == .function && env.kindOf n == some .cell) = true then (n, NameKind.cell) else (n, NameKind.free)) :: _) = _; rw [if_pos hc, List.lookup_cons, q])
    ·exact .inr (by show List.lookup x ((if (NameKind.free == NameKind.free && env.scope.kind == .function && env.kindOf n == some .cell) = true then (n, NameKind.cell) else (n, NameKind.free)) :: _) = _; rw [if_neg hc, List.lookup_cons, q])
 exact gen scope.names h
noncomputable def cxComp (X : Cx) (N : List Str) (scope : Scope) (cl : List (Str × Addr)) (C : Addr) (s : Shared) (H : Hp) (fp : List Addr) (E : Value → Shared → Prop) : Cx :=
 { X with N := N, s₀ := s, H₀ := H, env := compEnvC scope cl C X.env, outer := X.stack, ex := fp, fn := fun _ => false, pn := [], xe := E }
noncomputable def compSt (js : List (Option Nat)) (σ : L2.St) : L2.St := js.map fun j => j.bind fun k => (σ[k]?).join
section
variable {prog : Program} {w : World} {A : Around} {R : Result → Shared → Prop} {s : Shared}
theorem compLoop_G {elt target iter : Expr} {ifs : List Expr} {scope : Scope} {pos : Pos} {it acc : Value} {env : Env} (I : Nat → Shared → Prop)
  (turn : ∀ n s, I n s → wpAny (model prog w) A (pyNext it) (fun r s₁ => match r with
   | none => R (.ok .next) s₁
   | some v => wpAny (model prog w) A (letOwnedTupleGo target it v) (fun _ s₁' => wpAny (model prog w) A (assign target env v) (fun _ s₂ =>
     wpAny (model prog w) A (forIn ifs true fun c r => if r = true then do let ok ← isTrue c env (eval c env); pure (ForInStep.yield ok) else pure (ForInStep.yield r)) (fun ok s₃ =>
      if ok = true then wpAny (model prog w) A (eval elt env) (fun x s₄ =>
       wpAny (model prog w) A (call (.builtin "list.append") [acc, x]) (fun _ s₅ => ∃ m, m < n ∧ I m s₅) (notedBy (model prog w) A env fun e s' => R (.error e) s') s₄) (notedBy (model prog w) A env fun e s' => R (.error e) s') s₃
      else ∃ m, m < n ∧ I m s₃) (notedBy (model prog w) A env fun e s' => R (.error e) s') s₂) (notedBy (model prog w) A env fun e s' => R (.error e) s') s₁')
     (notedBy (model prog w) A env fun e s' => R (.error e) s') s₁) (notedBy (model prog w) A env fun e s' => R (.error e) s') s)
  (n : Nat) (h : I n s) : codeAny (model prog w) A (.compLoop (.ListComp elt [⟨target, iter, ifs, 0⟩] scope pos) 0 it acc env) R s := by
 refine codeAny_loop rfl I (fun n s hI => ?_) n h
 show wpAny _ A ((compTurn (.ListComp elt [⟨target, iter, ifs, 0⟩] scope pos) 0 it acc env).onRaise (fun x => do noteFrame x env; theTreesLotGoes x)) _ _ s
 refine wpAny_noted ?_
 rw [compTurn_list]
 refine wpAny_bind (wpAny_standAt (wpAny_bind (wpAny_mono (turn n s hI) (fun r s₁ h₁ => ?_) fun _ _ h' => h')))
 cases r with
 | none => exact wpAny_pure h₁
 | some v =>
  refine wpAny_bind (wpAny_mono h₁ (fun _ s₁' h₁' => ?_) fun _ _ h' => h')
  refine wpAny_bind (wpAny_mono h₁' (fun _ s₂ h₂ => wpAny_bind (wpAny_mono h₂ (fun ok s₃ h₃ => ?_) fun _ _ h' => h')) fun _ _ h' => h')
  cases ok with
  | false => exact wpAny_pure ⟨rfl, h₃⟩
  | true =>
   exact wpAny_bind (wpAny_bind (wpAny_mono h₃ (fun x s₄ h₄ => wpAny_bind (wpAny_mono h₄ (fun _ s₅ h₅ => wpAny_pure (wpAny_pure ⟨rfl, h₅⟩)) fun _ _ h' => h')) fun _ _ h' => h'))
end
noncomputable def PTs (X : Cx) (ifs : List Expr) (t : TT) : Prop :=
 ∀ (pins : List (Addr × Obj)) (s : Shared) (σ : L2.St) (H : Hp) (Q : Bool → Hp → Prop), Inv X pins σ H s → t σ H Q →
  wpAny (model X.prog X.w) X.A (forIn ifs true fun c r => if r = true then do let ok ← isTrue c X.env (eval c X.env); pure (ForInStep.yield ok) else pure (ForInStep.yield r)) (TP X pins σ Q) X.xe s
noncomputable def tNoIf : TT := fun _ H Q => Q true H
theorem pts_nil {X : Cx} : PTs X [] tNoIf := fun _ _ _ H _ I h => wpAny_tests_nil ⟨H, I, h⟩
theorem pts_one {X : Cx} {c : Expr} {t : TT} (hc : PT X c t) : PTs X [c] t := fun pins s σ H Q I h => wpAny_tests_one (hc pins s σ H Q I h)
noncomputable def tCompR (js : List (Option Nat)) (g : TG) (tc : TT) (te : TE) (σ : L2.St) (Q : VK) (J : It) (H1 : Hp) : Prop := ∀ p, H1 p = none →
 ∃ W : Nat → Nat → L2.St → Hp → Prop, (∃ m, W 0 m (compSt js σ) (upd H1 p (.lst []))) ∧ ∀ i m σ' H', W i m σ' H' →
  (J.stop i H' ∧ Q (.ref p) H') ∨ (J.go i H' ∧ ∃ N : L2.St → Hp → Prop, (∀ σ2 H2, N σ2 H2 → ∃ m', m' < m ∧ W (i + 1) m' σ2 H2) ∧
   ∀ x H2, J.yld i H' x H2 → g x σ' H2 fun σ3 H3 => tc σ3 H3 fun k H4 => if k = true then te σ3 H4 fun v H5 => ∃ xs, H5 p = some (.lst xs) ∧ xs.length < sizeLine ∧ N σ3 (upd H5 p (.lst (xs ++ [v]))) else N σ3 H4)
noncomputable def tComp (js : List (Option Nat)) (wi : TI) (g : TG) (tc : TT) (te : TE) : TE := fun σ H Q => wi σ H (tCompR js g tc te σ Q)
section
variable {X : Cx} {N XN : List Str} {js : List (Option Nat)} {xs scope : Scope} {elt target iter : Expr} {ifs : List Expr} {pos : Pos} {g : TG} {tc : TT} {te : TE}
theorem comp_block {pins : List (Addr × Obj)} {σ : L2.St} {H2 : Hp} {s2 : Shared} {it : Addr} {fp : List Addr} {tn : Nat → Heap → Prop} {J : It} {cl : List (Str × Addr)} {Q : V → Hp → Prop} {RR : Value → Addr → Result → Shared → Prop} {E : Value → Shared → Prop}
  (hc : X.calm = true) (hN : X.N = XN) (hS : X.env.scope = xs) (nm : CompNm N js XN xs scope) (hcl1 : ∀ x c, cl.lookup x = some c → X.env.cells.lookup x = some c) (hcl2 : ∀ x ∈ scope.names, x.2 = .free → (cl.lookup x.1).isSome = true)
  (hg : ∀ (cl : List (Str × Addr)) (C : Addr) (s : Shared) (H : Hp) (fp : List Addr) (E : Value → Shared → Prop), PG (cxComp X N scope cl C s H fp E) target g)
  (ht : ∀ (cl : List (Str × Addr)) (C : Addr) (s : Shared) (H : Hp) (fp : List Addr) (E : Value → Shared → Prop), PTs (cxComp X N scope cl C s H fp E) ifs tc)
  (he : ∀ (cl : List (Str × Addr)) (C : Addr) (s : Shared) (H : Hp) (fp : List Addr) (E : Value → Shared → Prop), PE (cxComp X N scope cl C s H fp E) elt te)
  (I2 : Inv X pins σ H2 s2) (T : Turn X.prog X.w X.K target J fp it tn) (st2 : tn 0 s2.heap) (f2 : ∀ b ∈ fp, FpOk X pins H2 b)
  (hW : tCompR js g tc te σ Q J H2)
  (fin : ∀ (p C : Addr) (H' : Hp) (s' : Shared) (m : Str → Option Value), Inv X pins σ H' s' → s'.heap.Ns C m → s2.heap.objs.size ≤ C → H' C = none → Q (.ref p) H' → RR (.ref p) C (.ok .next) s') :
  wpAny (model X.prog X.w) X.A (newList []) (fun acc s₃ => wpAny (model X.prog X.w) X.A (newFunctionEnv scope X.env.globals cl [] X.env.qual none .none (some X.env)) (fun cenv s₄ =>
   codeAny (model X.prog X.w) X.A (.compStart (.ListComp elt [⟨target, iter, ifs, 0⟩] scope pos) 0 (.ref it) acc { cenv with scope := relabel scope X.env }) (RR acc cenv.locals) s₄) E s₃) E s2 := by
 refine wpAny_newObj_type (wpAny_newFunctionEnv nm.nocell (by intro y hy; simp at hy) (fun h₁ hns₁ hsb₁ => ?_) nm.kind)
 obtain ⟨W, ⟨m0, w0⟩, turn⟩ := hW s2.heap.objs.size I2.fresh
 have I3 : Inv X pins σ (upd H2 s2.heap.objs.size (.lst [])) { s2 with heap := s2.heap.push { cls := .type "list", data := .seq ([] : List Value).toArray } } := I2.lnew (ys := []) (its := []) (t' := s2.toks) .nil (Nat.zero_le _)
 generalize hs3 : ({ s2 with heap := s2.heap.push { cls := .type "list", data := .seq ([] : List Value).toArray } } : Shared) = s3 at I3 hns₁ hsb₁ ⊢
 have hh3 : s3.heap = s2.heap.push { cls := .type "list", data := .seq ([] : List Value).toArray } := by rw [← hs3]
 have z3 : s3.heap.objs.size = s2.heap.objs.size + 1 := by rw [hh3, Heap.size_push]
 generalize hP : s2.heap.objs.size = P at w0 turn I3 z3 ⊢
 have hH3 : ∀ b ∈ fp, upd H2 P (.lst []) b = none := fun b hb => by
  have nb : b ≠ P := by
   obtain ⟨o, eo, _⟩ := T.obj 0 s2.heap st2 b hb
   have := Heap.lt_size eo
   rw [hP] at this
   exact Nat.ne_of_lt this
  rw [qr nb]
  exact (f2 b hb).1
 generalize hH : upd H2 P (.lst []) = H3 at w0 I3 hH3
 have f3 : ∀ b ∈ fp, b ≠ X.env.locals ∧ b ∉ X.fs ∧ (b ∈ X.ex ∨ X.s₀.heap.objs.size ≤ b) ∧ (∀ x c, X.env.cells.lookup x = some c → c ≠ b) ∧ ∀ p ∈ X.pn ++ pins, p.1 ≠ b := fun b hb => (f2 b hb).2
 have fpl : ∀ b ∈ fp, b < s3.heap.objs.size := fun b hb => by
  obtain ⟨o, eo, _⟩ := T.obj 0 s2.heap st2 b hb
  have hl := Heap.lt_size eo
  exact Nat.lt_of_lt_of_le hl (by rw [z3, hP]; exact Nat.le_succ _)
 have st3 : tn 0 s3.heap := T.keep 0 _ _ st2 fun b _ o e => by rw [hh3]; exact Heap.get?_push_of_some _ e
 generalize hC : s3.heap.objs.size = C at hns₁ hsb₁ z3 fpl ⊢
 have old : ∀ b o, s3.heap.get? b = some o → h₁.get? b = some o := fun b o e => hsb₁.extBut b o (by have hl := Heap.lt_size e; rw [hC] at hl; exact Nat.ne_of_lt hl) (Heap.get?_push_of_some _ e)
 have stk : ∀ b ∈ fp, b ∉ frs X.stack := fun b hb z => by
  rcases List.mem_cons.mp (I3.stkSub b z) with q | q
  ·exact (f3 b hb).1 q
  ·exact (f3 b hb).2.1 q
 have ok : ∀ E', (cxComp X N scope cl C s3 H3 fp E').Ok := fun E' => {
  mod := I3.ok.mod
  kind := nm.kind
  glob := I3.ok.glob
  blt := I3.ok.blt
  above := Nat.le_of_eq hC
  inj := fun x y c h1 h2 => I3.ok.inj x y c (hcl1 x c h1) (hcl1 y c h2)
  has := fun x hx => by
   have key : (x, NameKind.free) ∈ scope.names := by
    have hl : (relabel scope X.env).names.lookup x = some .cell ∨ (relabel scope X.env).names.lookup x = some .free := hx
    have gen : ∀ (l : List (Str × NameKind)), (∀ y ∈ l, y.2 ≠ .cell) → ((l.map fun (n, k) => if (k == NameKind.free && X.env.scope.kind == .function && X.env.kindOf n == some .cell) then (n, NameKind.cell) else (n, k)).lookup x = some .cell ∨ (l.map fun (n, k) => if (k == NameKind.free && X.env.scope.kind == .function && X.env.kindOf n == some .cell) then (n, NameKind.cell) else (n, k)).lookup x = some .free) → (x, NameKind.free) ∈ l := by
     intro l
     induction l with
     | nil => intro _ h; rcases h with h | h <;> simp at h
     | cons y r ih =>
      obtain ⟨n, k⟩ := y
      intro hn h
      have hr := ih (fun y hy => hn y (List.mem_cons_of_mem _ hy))
      have hk : k ≠ .cell := hn (n, k) List.mem_cons_self
      rw [List.map_cons] at h
      cases q : x == n with
      | false =>
       refine List.mem_cons_of_mem _ (hr ?_)
       by_cases hc : (k == NameKind.free && X.env.scope.kind == .function && X.env.kindOf n == some .cell) = true
       ·simpa [hc, List.lookup_cons, q] using h
       ·simpa [hc, List.lookup_cons, q] using h
      | true =>
       have q' : x = n := by simpa using q
       subst q'
       by_cases hc : (k == NameKind.free && X.env.scope.kind == .function && X.env.kindOf x == some .cell) = true
       ·have : k = .free := by
         simp only [Bool.and_eq_true, beq_iff_eq] at hc
         exact hc.1.1
        subst this
        exact List.mem_cons_self
       ·have h' : k = .cell ∨ k = .free := by simpa [hc, List.lookup_cons] using h
        rcases h' with z | z
        ·exact absurd z hk
        ·subst z; exact List.mem_cons_self
    exact gen scope.names nm.nocell hl
   exact Option.isSome_iff_exists.mp (hcl2 _ key rfl)
  cab := fun _ _ h _ => nomatch h
  hd := I3.ok.hd
  frames := I3.ok.frames
  stk := .inl rfl
  exf := fun b hb => ⟨Nat.ne_of_lt (fpl b hb), fun x c e => (f3 b hb).2.2.2.1 x c (hcl1 x c e)⟩
  bs := I3.bs
  bsz := Nat.le_trans I3.ok.bsz I3.sz
  noex := fun b o e hb => by
   rcases (f3 b hb).2.2.1 with z | z
   ·exact I3.ok.noex b o e z
   ·have h1 := Heap.lt_size e
    have h2 := I3.ok.bsz
    exact absurd (Nat.lt_of_lt_of_le h1 (Nat.le_trans h2 z)) (Nat.lt_irrefl _)
  exfs := stk
  funs := I3.stack
  frf := I3.stkFree }
 have start : ∀ E', Inv (cxComp X N scope cl C s3 H3 fp E') [] (compSt js σ) H3 { s3 with heap := h₁, toks := s3.toks + ([] : List (Str × Value)).length } := fun E' => {
  ok := ok E'
  os := rfl
  bare := I3.bare
  base := Un.kept old
  loc := by
   refine ⟨_, hns₁, fun i x v e1 e2 e3 => ?_⟩
   have e2' : ((js[i]?).map fun j => j.bind fun k => (σ[k]?).join) = some (some v) := by
    have := e2
    unfold compSt at this
    rwa [List.getElem?_map] at this
   cases hj : js[i]? with
   | none => rw [hj] at e2'; cases e2'
   | some jo =>
    rw [hj] at e2'
    cases jo with
    | none => cases e2'
    | some j =>
     have e2'' : (σ[j]?).join = some v := Option.some.inj e2'
     have e4 : σ[j]? = some (some v) := by
      cases q : σ[j]? with
      | none => rw [q] at e2''; cases e2''
      | some o => rw [q] at e2''; cases o with
       | none => cases e2''
       | some y => cases e2''; rfl
     obtain ⟨a1, a2, a3, a4⟩ := nm.free i j x e1 hj
     obtain ⟨mX, hnX, lX⟩ := I3.loc
     have vis : Vis X.env.scope x := by rw [hS]; exact .inr a2
     obtain ⟨u, ru, lu⟩ := lX j x v (by rw [hN]; exact a1) e4 vis
     refine ⟨u, ru, ?_⟩
     rcases lu with ⟨k1, _⟩ | ⟨k1, c, e5, z⟩
     ·exfalso
      have k1' : X.env.scope.names.lookup x = some .local := k1
      rw [hS] at k1'
      rcases a2 with q | q <;> rw [q] at k1' <;> cases k1'
     ·obtain ⟨c', e6⟩ := Option.isSome_iff_exists.mp (hcl2 _ a3 rfl)
      have e7 := hcl1 x c' e6
      rw [e5] at e7
      cases e7
      refine .inr ⟨?_, c, e6, ?_⟩
      ·rcases e3 with q | q | q
       ·exfalso
        have := lookup_free (env := X.env) a4
        rcases this with t | t <;> (have q' : (relabel scope X.env).names.lookup x = some .local := q; rw [t] at q'; cases q')
       ·exact .inl q
       ·exact .inr q
      ·obtain ⟨o, ho, hd⟩ := z
       exact ⟨o, old c o ho, hd⟩
  cell := fun x c e => by
   obtain ⟨v, o, ho, hd⟩ := I3.cell x c (hcl1 x c e)
   exact ⟨v, o, old c o ho, hd⟩
  free := I3.hok.fresh (Nat.le_of_eq hC)
  freeC := fun x c e => I3.freeC x c (hcl1 x c e)
  pin := fun p hp => absurd (show p ∈ ([] : List (Addr × Obj)) from hp) (by simp)
  hok := I3.hok.kept old
  len := by unfold compSt; rw [List.length_map]; exact nm.len.symm }
 have done : ∀ {E' : Value → Shared → Prop} {σ' : L2.St} {H' : Hp} {s' : Shared}, Inv (cxComp X N scope cl C s3 H3 fp E') [] σ' H' s' → Q (.ref P) H' → RR (.ref P) C (.ok .next) s' := fun {E' σ' H' s'} J' q => by
  obtain ⟨m', hn', _⟩ := J'.loc
  refine fin P C H' s' m' (I3.call' (ch := fp) J'.os J'.base J'.hok J'.bare fun b hb => ⟨(f3 b hb).2.2.1, (f3 b hb).1, (f3 b hb).2.2.2.1, (f3 b hb).2.2.2.2⟩) hn' (by rw [z3, hP]; exact Nat.le_succ _) J'.free q
 have loop : ∀ s₄ : Shared, s₄ = { s3 with heap := h₁, toks := s3.toks + ([] : List (Str × Value)).length } →
   codeAny (model X.prog X.w) X.A (.compLoop (.ListComp elt [⟨target, iter, ifs, 0⟩] scope pos) 0 (.ref it) (.ref P) (compEnvC scope cl C X.env)) (RR (.ref P) C) s₄ := by
  rintro s₄ rfl
  generalize hNB : notedBy (model X.prog X.w) X.A (compEnvC scope cl C X.env) (fun e s' => RR (.ref P) C (.error e) s') = NB
  have stat : ∀ {H' : Hp}, (∀ b ∈ fp, H' b = none) → ∀ b ∈ fp, FpOk (cxComp X N scope cl C s3 H3 fp NB) [] H' b := fun hn b hb =>
   ⟨hn b hb, Nat.ne_of_lt (fpl b hb), stk b hb, .inl hb, fun x c e => (f3 b hb).2.2.2.1 x c (hcl1 x c e), fun p hp => absurd (show p ∈ ([] : List (Addr × Obj)) from hp) (by simp)⟩
  refine compLoop_G (fun n s' => ∃ i σ' H', Inv (cxComp X N scope cl C s3 H3 fp NB) [] σ' H' s' ∧ tn i s'.heap ∧ (∀ b ∈ fp, H' b = none) ∧ W i n σ' H') ?_ m0 ⟨0, compSt js σ, H3, start NB, T.keep 0 _ _ st3 fun b _ o e => old b o e, hH3, w0⟩
  rw [hNB]
  rintro n s5 ⟨i, σ5, H5, I5, st5, fr5, w5⟩
  rcases turn i n σ5 H5 w5 with ⟨stop, qn⟩ | ⟨go, Nx, hNx, step⟩
  ·refine thn (T.done (cxComp X N scope cl C s3 H3 fp NB) rfl rfl rfl hc i [] s5 σ5 H5 NB I5 (stat fr5) st5 stop) fun r s6 ⟨hr, I6⟩ => ?_
   subst hr
   exact done I6 qn
  ·refine thn (T.item (cxComp X N scope cl C s3 H3 fp NB) rfl rfl rfl hc i [] s5 σ5 H5 NB I5 (stat fr5) st5 go) fun r s6 ⟨u, hr, h6⟩ => ?_
   subst hr
   refine thn h6 fun _ s7 ⟨x, H7, I7, r7, y7, st7, fr7⟩ => ?_
   have I7' := I7.pinned (stat fr7) (T.obj _ _ st7)
   have again : ∀ {σ8 : L2.St} {H8 : Hp} {s8 : Shared}, Inv (cxComp X N scope cl C s3 H3 fp NB) ([] ++ pinsAt fp s7.heap) σ8 H8 s8 → Nx σ8 H8 → ∃ m, m < n ∧ ∃ i σ' H', Inv (cxComp X N scope cl C s3 H3 fp NB) [] σ' H' s8 ∧ tn i s8.heap ∧ (∀ b ∈ fp, H' b = none) ∧ W i m σ' H' := fun {σ8 H8 s8} I8 n8 => by
    obtain ⟨m', hm, w8⟩ := hNx σ8 H8 n8
    refine ⟨m', hm, i + 1, σ8, H8, I8.unpinned, T.keep _ _ _ st7 fun b hb o e => (I8.pin (b, o) (List.mem_append_right _ (List.mem_append_right _ (mem_pinsAt hb e)))).1, fun b hb => ?_, w8⟩
    obtain ⟨o, e, d⟩ := T.obj _ _ st7 b hb
    exact (I8.pin (b, o) (List.mem_append_right _ (List.mem_append_right _ (mem_pinsAt hb e)))).2.1
   refine thn (hg cl C s3 H3 fp NB _ s7 σ5 H7 x u _ I7' r7 (step x H7 y7)) fun _ s8 ⟨σ8, H8, I8, q8⟩ => ?_
   refine thn (ht cl C s3 H3 fp NB _ s8 σ8 H8 _ I8 q8) fun k s9 ⟨H9, I9, q9⟩ => ?_
   cases k with
   | false =>
    rw [if_neg (by decide)] at q9 ⊢
    exact again I9 q9
   | true =>
    rw [if_pos rfl] at q9 ⊢
    refine thn (he cl C s3 H3 fp NB _ s9 σ8 H9 _ I9 q9) fun uv s10 ⟨v, H10, I10, r10, xs', hx1, hx2, q10⟩ => ?_
    refine thn (mt_append (X := cxComp X N scope cl C s3 H3 fp NB) _ s10 σ8 H10 (.ref P) [v] (.ref P) [uv] (fun _ H11 => Nx σ8 H11) I10 rfl (.cons r10 .nil) ⟨P, xs', v, rfl, rfl, hx1, hx2, q10⟩) fun _ s11 ⟨_, H11, I11, _, q11⟩ => ?_
    exact again I11 q11
 exact codeAny_compStart_list (loop _ rfl) (T.self _ 0 _ _ _ (T.keep 0 _ _ st3 fun b _ o e => old b o e) (loop _ rfl))
end
section
variable {X : Cx} {N XN : List Str} {js : List (Option Nat)} {xs scope : Scope} {elt target iter : Expr} {ifs : List Expr} {pos : Pos} {wi : TI} {g : TG} {tc : TT} {te : TE}
theorem comp_turned {pins : List (Addr × Obj)} {σ σ' : L2.St} {H H' : Hp} {s s' : Shared} {C : Addr} {h' : Heap} (I2 : Inv X pins σ H s) (J : Inv X pins σ' H' s') (hC : s.heap.objs.size ≤ C) (hn : H' C = none) (sb : Heap.SameBut C s'.heap h') : Inv X pins σ' H' { s' with heap := h' } :=
 J.turned (t' := s'.toks) (it := C) (fun b o hb e => sb.extBut b o hb e) hn (Nat.ne_of_gt (Nat.lt_of_lt_of_le I2.lt hC)) (.inr (Nat.le_trans I2.sz hC))
  (fun x c e => by
   obtain ⟨v, q⟩ := I2.cell x c e
   exact Nat.ne_of_lt (Nat.lt_of_lt_of_le q.lt hC)) fun p hp => Nat.ne_of_lt (Nat.lt_of_lt_of_le (Heap.lt_size (I2.pin p hp).1) hC)
theorem pe_comp (hc : X.calm = true) (hN : X.N = XN) (hS : X.env.scope = xs) (hok : compOk N js XN xs scope = true) (hi : PI X target iter wi)
  (hg : ∀ (cl : List (Str × Addr)) (C : Addr) (s : Shared) (H : Hp) (fp : List Addr) (E : Value → Shared → Prop), PG (cxComp X N scope cl C s H fp E) target g)
  (ht : ∀ (cl : List (Str × Addr)) (C : Addr) (s : Shared) (H : Hp) (fp : List Addr) (E : Value → Shared → Prop), PTs (cxComp X N scope cl C s H fp E) ifs tc)
  (he : ∀ (cl : List (Str × Addr)) (C : Addr) (s : Shared) (H : Hp) (fp : List Addr) (E : Value → Shared → Prop), PE (cxComp X N scope cl C s H fp E) elt te)
  (hs : ∀ x, foldedSetIterable iter X.env x = pure x := by intro _; rfl) : PE X (.ListComp elt [⟨target, iter, ifs, 0⟩] scope pos) (tComp js wi g tc te) := by
 intro pins s σ H Q I h
 have nm := compOk_nm hok
 obtain ⟨cl, hcl, c1, c2⟩ := closure_ok (env := X.env) (scope := scope) fun x hx e => I.ok.has x.1 (by
  rcases nm.clos x hx e with q | q
  ·exact .inl (by show X.env.scope.names.lookup _ = _; rw [hS]; exact q)
  ·exact .inr (by show X.env.scope.names.lookup _ = _; rw [hS]; exact q))
 rw [eval_ListComp]
 refine wpAny_comprehension_free (use := none) rfl hs hcl nm.kind nm.names (thn (hi pins s σ H _ I h) fun v s1 h1 => thn h1 fun itv s2 h2 => ?_)
 obtain ⟨it, fp, tn, J, H2, e, I2, T, st2, f2, hW⟩ := h2
 subst e
 refine comp_block (RR := fun acc C => compPost (model X.prog X.w) X.A X.xe none (EP X pins σ Q) acc C) hc hN hS nm c1 c2 hg ht he I2 T st2 f2 hW fun p C H' s' m J' hn hC hCf q => ?_
 exact ⟨m, hn, fun h' hs' => ⟨.ref p, H', comp_turned I2 J' hC hCf hs', rfl, q⟩⟩
theorem ps_setComp {i : Nat} {x : Str} {px spos : Pos} (hNd : X.N.Nodup) (hix : X.N[i]? = some x) (hloc : X.env.scope.names.lookup x = some .local) (hc : X.calm = true) (hN : X.N = XN) (hS : X.env.scope = xs) (hok : compOk N js XN xs scope = true) (hi : PI X target iter wi)
  (hg : ∀ (cl : List (Str × Addr)) (C : Addr) (s : Shared) (H : Hp) (fp : List Addr) (E : Value → Shared → Prop), PG (cxComp X N scope cl C s H fp E) target g)
  (ht : ∀ (cl : List (Str × Addr)) (C : Addr) (s : Shared) (H : Hp) (fp : List Addr) (E : Value → Shared → Prop), PTs (cxComp X N scope cl C s H fp E) ifs tc)
  (he : ∀ (cl : List (Str × Addr)) (C : Addr) (s : Shared) (H : Hp) (fp : List Addr) (E : Value → Shared → Prop), PE (cxComp X N scope cl C s H fp E) elt te)
  (hsw : swapsWith (.ListComp elt [⟨target, iter, ifs, 0⟩] scope pos) (some (.Name x px)) spos.line X.env = pure true := by rfl)
  (hs : ∀ x, foldedSetIterable iter X.env x = pure x := by intro _; rfl) : PS X (.Assign [.Name x px] (.ListComp elt [⟨target, iter, ifs, 0⟩] scope pos) spos) (tAsg (tComp js wi g tc te) (gName i)) := by
 intro pins s σ H D I h
 have nm := compOk_nm hok
 obtain ⟨cl, hcl, c1, c2⟩ := closure_ok (env := X.env) (scope := scope) fun x hx e => I.ok.has x.1 (by
  rcases nm.clos x hx e with q | q
  ·exact .inl (by show X.env.scope.names.lookup _ = _; rw [hS]; exact q)
  ·exact .inr (by show X.env.scope.names.lookup _ = _; rw [hS]; exact q))
 rw [exec_Assign_Name_used _ _ _ _ hsw]
 refine wpAny_bind (wpAny_standAt (wpAny_bind ?_))
 show wpAny _ X.A (do let _ ← comprehension (.ListComp elt [⟨target, iter, ifs, 0⟩] scope pos) scope X.env _ (newList []) false (eval iter X.env) (some (assign (.Name x px) X.env))) _ _ s
 refine wpAny_bind (wpAny_mono (wpAny_comprehension_free (use := some (assign (.Name x px) X.env)) (Q := fun _ s' => SP X pins D .next s') rfl hs hcl nm.kind nm.names
  (thn (hi pins s σ H _ I h) fun v s1 h1 => thn h1 fun itv s2 h2 => ?_)) (fun _ s' hq => wpAny_pure (wpAny_pure hq)) fun _ _ e => e)
 obtain ⟨it, fp, tn, J, H2, e, I2, T, st2, f2, hW⟩ := h2
 subst e
 refine comp_block (Q := fun x H1 => gName i x σ H1 D.nx) (RR := fun acc C => compPost (model X.prog X.w) X.A X.xe (some (assign (.Name x px) X.env)) (fun _ s' => SP X pins D .next s') acc C) hc hN hS nm c1 c2 hg ht he I2 T st2 f2 hW fun p C H' s' m J' hn hC hCf q => ?_
 obtain ⟨o, es, ep, ho, hd, hr⟩ := id hn
 have Jp : Inv X (pins ++ [(C, o)]) σ H' s' := J'.pins_of fun z hz => (List.mem_append.mp hz).elim (fun y => J'.pin z (List.mem_append_right _ y)) fun y => by
  have e : z = (C, o) := by simpa using y
  subst e
  exact ⟨ho, hCf, Nat.ne_of_gt (Nat.lt_of_lt_of_le I2.lt hC), I2.nofs hC, fun v z => by rw [hd] at z; cases z⟩
 refine thn (pg_name (X := X) (pos := px) hNd hix (.inl hloc) (.inr hloc) (pins ++ [(C, o)]) s' σ H' (.ref p) (.ref p) _ Jp rfl q) fun _ s'' ⟨σ'', H'', Js, q''⟩ => ?_
 have pc := Js.pin (C, o) (List.mem_append_right _ (List.mem_append_right _ (by simp)))
 refine ⟨m, ⟨o, es, ep, pc.1, hd, hr⟩, fun h' hs' => ⟨σ'', H'', comp_turned I2 Js.unpinned hC pc.2.1 hs', q''⟩⟩
end
noncomputable def Feeds (J : It) (H : Hp) (xs : List V) : Prop := ∀ H', Same H H' → (∀ i x, xs[i]? = some x → J.go i H' ∧ ∀ y H2, J.yld i H' y H2 → y = x ∧ H2 = H') ∧ J.stop xs.length H'
theorem feeds_list {K : PySem.W.Frag} {H : Hp} {a : Addr} {xs : List V} (h : SqL K H a xs) : Feeds (Itl K a) H xs := fun H' e =>
 ⟨fun i x hx => ⟨⟨xs, x, e.seq h, hx⟩, fun y H2 hy => by
  obtain ⟨e1, e2⟩ := hy
  have := e2 xs (e.seq h)
  rw [hx] at this
  exact ⟨(Option.some.inj this).symm, e1⟩⟩, ⟨xs, e.seq h, Nat.le_refl _⟩⟩
theorem feeds_range {H : Hp} {lo : Int} {n : Nat} : Feeds (Itr lo n) H ((List.range n).map fun i => V.int (lo + (i : Nat))) := fun H' _ =>
 ⟨fun i x hx => by
  rw [List.getElem?_map] at hx
  cases q : (List.range n)[i]? with
  | none => rw [q] at hx; cases hx
  | some j =>
   have hi : i < n := by
    obtain ⟨h1, _⟩ := List.getElem?_eq_some_iff.mp q
    simpa using h1
   have hj : j = i := by
    obtain ⟨_, h2⟩ := List.getElem?_eq_some_iff.mp q
    simpa using h2.symm
   rw [q] at hx
   subst hj
   exact ⟨hi, fun y H2 hy => ⟨hy.2.trans (Option.some.inj hx), hy.1⟩⟩, by show n ≤ _; simp⟩
theorem comp_pure {js : List (Option Nat)} {g : TG} {te : TE} {J : It} {σ : L2.St} {H : Hp} {Q : VK} {xs : List V} (f : V → V) (Sv : L2.St → Prop) (F : Feeds J H xs) (hz : xs.length ≤ sizeLine) (h0 : Sv (compSt js σ))
  (step : ∀ (x : V) (σ' : L2.St) (H' : Hp) (R : L2.St → VK), x ∈ xs → Same H H' → Sv σ' → (∀ σ3, Sv σ3 → R σ3 (f x) H') → g x σ' H' fun σ3 H3 => te σ3 H3 (R σ3))
  (gk : ∀ (x : V) (σ' : L2.St) (H' : Hp) (R R' : L2.St → Hp → Prop), (∀ σ3 H3, R σ3 H3 → R' σ3 H3) → g x σ' H' R → g x σ' H' R')
  (fin : ∀ p, H p = none → Q (.ref p) (upd H p (.lst (xs.map f)))) :
  tCompR js g tNoIf te σ Q J H := by
 intro p hp
 have sm : ∀ o, Same H (upd H p o) := fun o b u e => by rw [qr (ne_of_none e hp)]; exact e
 refine ⟨fun i m σ' H' => m = xs.length - i ∧ i ≤ xs.length ∧ Sv σ' ∧ H' = upd H p (.lst ((xs.take i).map f)), ⟨xs.length, by simp, Nat.zero_le _, h0, by simp⟩, ?_⟩
 rintro i m σ' H' ⟨rfl, hi, hv, rfl⟩
 obtain ⟨F1, F2⟩ := F _ (sm (.lst ((xs.take i).map f)))
 by_cases hlt : i < xs.length
 ·have ex : xs[i]? = some xs[i] := by simp [hlt]
  obtain ⟨go, yl⟩ := F1 i _ ex
  refine .inr ⟨go, fun σ2 H2 => Sv σ2 ∧ H2 = upd H p (.lst ((xs.take (i + 1)).map f)), fun σ2 H2 ⟨a, b⟩ => ⟨xs.length - (i + 1), by omega, rfl, hlt, a, b⟩, fun x H2 hy => ?_⟩
  obtain ⟨rfl, rfl⟩ := yl x H2 hy
  refine gk _ _ _ _ _ (fun σ3 H3 z => ?_) (step xs[i] σ' _ (fun σ3 v H5 => ∃ ys, H5 p = some (.lst ys) ∧ ys.length < sizeLine ∧ (Sv σ3 ∧ upd H5 p (.lst (ys ++ [v])) = upd H p (.lst ((xs.take (i + 1)).map f)))) (List.getElem_mem hlt) (sm _) hv fun σ3 hs3 => ?_)
  ·exact z
  ·refine ⟨_, qm, ?_, hs3, ?_⟩
   ·rw [List.length_map, List.length_take]; omega
   ·rw [upd_upd, List.take_add_one, ex, List.map_append]; rfl
 ·have e : i = xs.length := by omega
  subst e
  refine .inl ⟨F2, ?_⟩
  rw [List.take_length]
  exact fin p hp
theorem gk_name {i : Nat} (x : V) (σ' : L2.St) (H' : Hp) (R R' : L2.St → Hp → Prop) (h : ∀ σ3 H3, R σ3 H3 → R' σ3 H3) (z : gName i x σ' H' R) : gName i x σ' H' R' := h _ _ z
end Add
namespace Add
open PySem PySem.Spec PyProof.Rows L2
section
variable {X : Cx} {tg : Expr}
end
section
variable {X : Cx}
theorem star_lst {a b} {es : List Expr} {env : Env} : starEach (.List a b :: es) env = (false, eval (.List a b) env) :: starEach es env := by rw [starEach]; intro e p' h; cases h
theorem zo {a b c} {es : List Expr} {env : Env} : starEach (.Tuple a b c :: es) env = (false, eval (.Tuple a b c) env) :: starEach es env := by rw [starEach]; intro e p' h; cases h
theorem star_cmp {a b c d} {es : List Expr} {env : Env} : starEach (.ListComp a b c d :: es) env = (false, eval (.ListComp a b c d) env) :: starEach es env := by rw [starEach]; intro e p' h; cases h
theorem qo {a b c} {es : List Expr} {env : Env} : starEach (.Constant a b c :: es) env = (false, eval (.Constant a b c) env) :: starEach es env := by rw [starEach]; intro e p' h; cases h
theorem qg {a b} {es : List Expr} {env : Env} : starEach (.Name a b :: es) env = (false, eval (.Name a b) env) :: starEach es env := by rw [starEach]; intro e p' h; cases h
theorem zl {a b c d} {es : List Expr} {env : Env} : starEach (.Call a b c d :: es) env = (false, eval (.Call a b c d) env) :: starEach es env := by rw [starEach]; intro e p' h; cases h
theorem zm {a b c d} {es : List Expr} {env : Env} : starEach (.BinOp a b c d :: es) env = (false, eval (.BinOp a b c d) env) :: starEach es env := by rw [starEach]; intro e p' h; cases h
theorem star_rel {a b c d} {es : List Expr} {env : Env} : starEach (.Compare a b c d :: es) env = (false, eval (.Compare a b c d) env) :: starEach es env := by rw [starEach]; intro e p' h; cases h
theorem zn {a b c} {es : List Expr} {env : Env} : starEach (.Subscript a b c :: es) env = (false, eval (.Subscript a b c) env) :: starEach es env := by rw [starEach]; intro e p' h; cases h
theorem star_att {a b c} {es : List Expr} {env : Env} : starEach (.Attribute a b c :: es) env = (false, eval (.Attribute a b c) env) :: starEach es env := by rw [starEach]; intro e p' h; cases h
theorem star_ife {a b c d} {es : List Expr} {env : Env} : starEach (.IfExp a b c d :: es) env = (false, eval (.IfExp a b c d) env) :: starEach es env := by rw [starEach]; intro e p' h; cases h
end
section
variable {K : PySem.W.Frag}
theorem kit_str_str : PySem.W.kitOne K (.type "str") (.type "str") = some true := by kernel_rfl
theorem kit_int_str : PySem.W.kitOne K (.type "int") (.type "str") = some false := by kernel_rfl
theorem kit_lst_str : PySem.W.kitOne K (.type "list") (.type "str") = some false := by kernel_rfl
theorem kit_lst_lst : PySem.W.kitOne K (.type "list") (.type "list") = some true := by kernel_rfl
theorem kit_tup_str : PySem.W.kitOne K (.type "tuple") (.type "str") = some false := by kernel_rfl
end
end Add
namespace Add
open PySem PySem.Spec PyProof.Rows L2
section
variable {prog : Program} {w : World} {A : Around} {E : Value → Shared → Prop} {h : Heap} {g : Array GenState} {d : Drawn} {t : Nat} {os : OsState}
variable {nm q : Str} {C N : Addr} {bs bm bmB : List Value} {hdct : Bool} {sn : List Str} {sub : List Value} {ab : Bool} {col : Option Bool} {dd : Option Addr} {k0 k1 k2 k3 k5 : Option Value} {B Bn newId nid initId inN : String} {bmN : List Value}
end
end Add
namespace Add
open PySem PySem.Spec PyProof.Rows L2
section
open PySem.W
variable {prog : Program} {w : World} {A : Around} {E : Value → Shared → Prop} {s : Shared} {K : Frag} {x C : Addr} {ox : Obj} {od : Option Obj} {name : Str} {expr : Bool}
end
end Add
namespace Add
open PySem PySem.Spec PyProof.Rows L2
section
open PySem.W
variable {prog : Program} {w : World} {A : Around} {E : Value → Shared → Prop} {s : Shared} {K : Frag} {x C : Addr} {ox : Obj} {od : Option Obj} {name : Str} {expr : Bool}
end
end Add
namespace Add
open PySem PySem.Spec PyProof.Rows L2
section
open PySem.W
variable {prog : Program} {w : World} {A : Around} {E : Value → Shared → Prop} {s : Shared} {K : Frag} {x C : Addr} {o : Obj} {name : Str} {v : Value}
end
end Add
namespace Add
open PySem PySem.Spec PyProof.Rows L2
section
variable {prog : Program} {w : World} {A : Around} {E : Value → Shared → Prop} {K : PySem.W.Frag} {C fI : Addr} {s : Shared} {rest : List Value}
end
end Add
namespace Add
open PySem PySem.Spec PyProof.Rows L2
section
variable {P : Program} {w : World} {H : Hp} {h : Heap} {x C dx : Addr} {od : Option Addr} {fr : Bool} {fs : List (Str × V)}
end
section
variable {X : Cx} {pins : List (Addr × Obj)} {σ : L2.St} {H : Hp} {s : Shared} {A : Around} {E : Value → Shared → Prop}
variable {CX : CXT} {k : Nat} {f : Addr} {fd : FuncData} {ps : List Str} {sp : Sp} {ds : List Value} {dvs : List V} {EX : XK}
end
end Add
namespace Add
open PySem PySem.Spec PyProof.Rows L2
section
variable {X : Cx} {pins : List (Addr × Obj)} {σ : L2.St} {H : Hp} {s : Shared} {E : Value → Shared → Prop}
end
end Add
namespace Add
open PySem PySem.Spec PyProof.Rows L2
section
variable {X : Cx}
theorem eqV_self : ∀ {x : V}, flatV x = true → eqV x x = true
 | .non, _ => rfl
 | .bl b, _ => by cases b <;> rfl
 | .int i, _ => by simp [eqV]
 | .str y, _ => by simp [eqV]
 | .byt _, h => by simp [flatV] at h
 | .flt _, h => by simp [flatV] at h
 | .ref _, h => by simp [flatV] at h
 | .ty _, h => by simp [flatV] at h
theorem eqVs_self : ∀ {xs : List V}, xs.all flatV = true → eqVs xs xs = true
 | [], _ => rfl
 | x :: xs, h => by
  rw [List.all_cons, Bool.and_eq_true] at h
  show (eqV x x && eqVs xs xs) = true
  rw [eqV_self h.1, eqVs_self h.2]; rfl
end
end Add
namespace Add
open PySem PySem.Spec PyProof.Rows L2
noncomputable def xNo (K : PySem.W.Frag) (C : Addr) (ns : List Str) : Bool := ns.all fun n => PySem.W.findIn K (.ref C) n == some none
theorem qq {K : PySem.W.Frag} {C : Addr} {ns : List Str} {n : Str} (h : xNo K C ns = true) (m : n ∈ ns) : PySem.W.findIn K (.ref C) n = some none := beq_iff_eq.mp (List.all_eq_true.mp h n m)
structure MethAt (K : PySem.W.Frag) (x qual : Str) (st : Stmt) (ps : List Str) (f : Addr) (fd : FuncData) : Prop where
 fn : Fun K x qual st f fd
 bd : Binds K fd ps []
 ty : PySem.W.typeIn K (.ref f) = some (.type "function")
section
variable {X : Cx} {K : PySem.W.Frag}
theorem pe_fldK {e : Expr} {f : Str} {pos : Pos} {ta : TE} (hK : X.K = K) (he : PE X e ta) (hb : attributeBase e f X.env (eval e X.env) = eval e X.env) : PE X (.Attribute e f pos) (tFld K ta f) := hK ▸ pe_fld he hb
end
end Add
namespace Add
open PySem PySem.Spec PyProof.Rows L2
section
variable {M : Model} {A : Around} {E : Value → Shared → Prop} {s : Shared} {base : Heap} {env : Env} {outer : List Env} {L x C : Addr} {od : Option Addr} {vs : Array Value} {sl : Array (Option Value)}
end
end Add
namespace Add
open PySem PySem.Spec PyProof.Rows L2
section
variable {X : Cx} {pins : List (Addr × Obj)} {σ : L2.St} {H : Hp} {s : Shared} {E : Value → Shared → Prop} {x C : Addr} {od : Option Addr}
end
end Add
namespace Add
open PySem PySem.Spec PyProof.Rows L2
section
variable {P : Program} {w : World} {K : PySem.W.Frag} {mg : Str → Option Value} {base : Heap}
end
section
variable {X : Cx} {k : Nat} {f C : Addr} {fd : FuncData} {ps : List Str} {sp : Sp} {dvs : List V} {ds : List Value} {EX : L2.St → XK} {x m : Str} {p pos apos : Pos} {e o : Expr} {es : List Expr} {ta : TE} {t : TA}
end
end Add
namespace Add
open PySem PySem.Spec PyProof.Rows L2
noncomputable abbrev _root_.L2.Cx.tr (X : Cx) (pins : List (Addr × Obj)) (W : Value → Shared → Prop) : Cx := { X with pn := X.pn ++ pins, xe := W }
section
variable {X : Cx} {pins pins' : List (Addr × Obj)} {σ : L2.St} {H : Hp} {s : Shared} {W : Value → Shared → Prop} {e : Value}
end
noncomputable abbrev TH := Ends → L2.St → Addr → Addr → Option Addr → Hp → Prop
section
variable {X : Cx} {pins : List (Addr × Obj)} {σ : L2.St} {H : Hp} {s : Shared} {E : Value → Shared → Prop}
end
noncomputable def PC (X : Cx) (t : Expr) (c : Value) : Prop := ∀ (e : Value) (E : Value → Shared → Prop) (pins : List (Addr × Obj)) (s : Shared) (σ : L2.St) (H : Hp) (Q : Value → Shared → Prop), Inv X pins σ H s → Q c s → wpAny (model X.prog X.w) (X.A.mark (some e)) (eval t X.env) Q E s
section
variable {X : Cx} {t : Expr} {b₀ : Stmt} {body : List Stmt} {pos : Pos} {rest : List ExceptHandler} {c : Value} {ts : Addr → TS} {tr : TH}
end
end Add
namespace Add
open PySem PySem.Spec PyProof.Rows L2
end Add
namespace Add
open PySem PySem.Spec PyProof.Rows L2
section
variable {X : Cx}
theorem pe_never {e : Expr} : PE X e fun _ _ _ => False := fun _ _ _ _ _ _ h => h.elim
end
end Add
namespace Add
open PySem PySem.Spec PyProof.Rows L2
noncomputable abbrev TJ := Str → TE
section
variable {X : Cx} {e : Expr} {es : List Expr} {te : TE} {tj : TJ} {pos : Pos}
end
end Add
namespace Add
open PySem PySem.Spec PyProof.Rows L2
open Builtin Builtin.Str
section
variable {X : Cx}
end
end Add
namespace Add
open PySem PySem.Spec PyProof.Rows L2
end Add
namespace Add
open PySem PySem.Spec PyProof.Rows L2
section
variable {K : PySem.W.Frag} {C f : Addr} {m : Str}
noncomputable def clsB (K : PySem.W.Frag) (C : Addr) : Bool := PySem.W.plainGet K C Str.empty && PySem.W.hasDictIn K C && PySem.W.plainOver K C && (PySem.W.findIn K (.ref C) "__setattr__" == some (some (.builtin "object.__setattr__")))
theorem cls_of (h : clsB K C = true) : Cls K C := by
 unfold clsB at h
 simp only [Bool.and_eq_true, beq_iff_eq] at h
 obtain ⟨⟨⟨h1, h2⟩, h3⟩, h4⟩ := h
 exact ⟨h1, h2, h3, h4⟩
noncomputable def mkB (K : PySem.W.Frag) (C f : Addr) : Bool := PySem.W.makesIn K C && (PySem.W.findIn K (.ref C) "__init__" == some (some (.ref f))) && PySem.W.isFn K (.ref f) && PySem.W.keepIn K (.ref C)
theorem mk_of (h : mkB K C f = true) : Mk K C f := by
 unfold mkB at h
 simp only [Bool.and_eq_true, beq_iff_eq] at h
 obtain ⟨⟨⟨h1, h2⟩, h3⟩, h4⟩ := h
 exact ⟨h1, h2, h3, h4⟩
noncomputable def methB (K : PySem.W.Frag) (C : Addr) (m : Str) (f : Addr) : Bool := (PySem.W.findIn K (.ref C) m == some (some (.ref f))) && PySem.W.isFn K (.ref f) && PySem.W.keepIn K (.ref f)
theorem meth_of (h : methB K C m f = true) : Meth K C m f := by
 unfold methB at h
 simp only [Bool.and_eq_true, beq_iff_eq] at h
 obtain ⟨⟨h1, h2⟩, h3⟩ := h
 exact ⟨h1, h2, h3⟩
end
end Add
namespace Add
open PySem PySem.Spec PyProof.Rows L2
open Builtin Builtin.Str
section
variable {X : Cx}
end
end Add
namespace Add
open PySem PySem.Spec PyProof.Rows L2
open Builtin Builtin.Str
end Add
namespace Add
open PySem PySem.Spec PyProof.Rows L2
theorem same_add {H H' : Hp} {p : Addr} {o : HO} (s : Same H H') (n : H p = none) : Same H (upd H' p o) := fun b u e => by rw [qr (ne_of_none e n)]; exact s _ _ e
theorem comp_grow {js : List (Option Nat)} {g : TG} {te : TE} {J : It} {σ : L2.St} {H : Hp} {Q : VK} {xs : List V} (f : V → V) (Sv : L2.St → Prop) (F : Feeds J H xs) (hz : xs.length ≤ sizeLine) (h0 : Sv (compSt js σ))
  (step : ∀ (x : V) (σ' : L2.St) (H' : Hp) (R : L2.St → VK), x ∈ xs → Same H H' → Sv σ' → (∀ σ3 H5, Sv σ3 → Same H' H5 → R σ3 (f x) H5) → g x σ' H' fun σ3 H3 => te σ3 H3 (R σ3))
  (gk : ∀ (x : V) (σ' : L2.St) (H' : Hp) (R R' : L2.St → Hp → Prop), (∀ σ3 H3, R σ3 H3 → R' σ3 H3) → g x σ' H' R → g x σ' H' R')
  (fin : ∀ p H', H p = none → Same H H' → H' p = some (.lst (xs.map f)) → Q (.ref p) H') :
  tCompR js g tNoIf te σ Q J H := by
 intro p hp
 refine ⟨fun i m σ' H' => m = xs.length - i ∧ i ≤ xs.length ∧ Sv σ' ∧ Same H H' ∧ H' p = some (.lst ((xs.take i).map f)), ⟨xs.length, by simp, Nat.zero_le _, h0, same_add (Same.refl H) hp, by rw [qm]; rfl⟩, ?_⟩
 rintro i m σ' H' ⟨rfl, hi, hv, sm, hh⟩
 obtain ⟨F1, F2⟩ := F _ sm
 by_cases hlt : i < xs.length
 ·have ex : xs[i]? = some xs[i] := by simp [hlt]
  obtain ⟨go, yl⟩ := F1 i _ ex
  refine .inr ⟨go, fun σ2 H2 => Sv σ2 ∧ Same H H2 ∧ H2 p = some (.lst ((xs.take (i + 1)).map f)), fun σ2 H2 ⟨a, b, c⟩ => ⟨xs.length - (i + 1), by omega, rfl, hlt, a, b, c⟩, fun x H2 hy => ?_⟩
  obtain ⟨rfl, rfl⟩ := yl x H2 hy
  refine gk _ _ _ _ _ (fun σ3 H3 z => ?_) (step xs[i] σ' _ (fun σ3 v H5 => ∃ ys, H5 p = some (.lst ys) ∧ ys.length < sizeLine ∧ (Sv σ3 ∧ Same H (upd H5 p (.lst (ys ++ [v]))) ∧ upd H5 p (.lst (ys ++ [v])) p = some (.lst ((xs.take (i + 1)).map f)))) (List.getElem_mem hlt) sm hv fun σ3 H5 hs3 s5 => ?_)
  ·exact z
  ·refine ⟨_, s5 _ _ hh, ?_, hs3, same_add (sm.trans s5) hp, ?_⟩
   ·rw [List.length_map, List.length_take]; omega
   ·rw [qm, List.take_add_one, ex, List.map_append]; rfl
 ·have e : i = xs.length := by omega
  subst e
  refine .inl ⟨F2, ?_⟩
  rw [List.take_length] at hh
  exact fin p _ hp sm hh
theorem comp_filt {js : List (Option Nat)} {g : TG} {tc : TT} {te : TE} {J : It} {σ : L2.St} {H : Hp} {Q : VK} {xs : List V} (b : V → Bool) (f : V → V) (Sv : L2.St → Prop) (F : Feeds J H xs) (hz : xs.length ≤ sizeLine) (h0 : Sv (compSt js σ))
  (step : ∀ (x : V) (σ' : L2.St) (H' : Hp) (N : L2.St → Hp → Prop) (R : L2.St → VK), x ∈ xs → Same H H' → Sv σ' → (∀ σ3, Sv σ3 → b x = false → N σ3 H') → (∀ σ3, Sv σ3 → b x = true → R σ3 (f x) H') →
   g x σ' H' fun σ3 H3 => tc σ3 H3 fun k H4 => if k = true then te σ3 H4 (R σ3) else N σ3 H4)
  (gk : ∀ (x : V) (σ' : L2.St) (H' : Hp) (R R' : L2.St → Hp → Prop), (∀ σ3 H3, R σ3 H3 → R' σ3 H3) → g x σ' H' R → g x σ' H' R')
  (fin : ∀ p, H p = none → Q (.ref p) (upd H p (.lst ((xs.filter b).map f)))) :
  tCompR js g tc te σ Q J H := by
 intro p hp
 have sm : ∀ o, Same H (upd H p o) := fun o => same_add (Same.refl H) hp
 have fl : ∀ i, ((xs.take i).filter b).length ≤ i := fun i => Nat.le_trans (List.length_filter_le b (xs.take i)) (by rw [List.length_take]; omega)
 refine ⟨fun i m σ' H' => m = xs.length - i ∧ i ≤ xs.length ∧ Sv σ' ∧ H' = upd H p (.lst (((xs.take i).filter b).map f)), ⟨xs.length, by simp, Nat.zero_le _, h0, by simp⟩, ?_⟩
 rintro i m σ' H' ⟨rfl, hi, hv, rfl⟩
 obtain ⟨F1, F2⟩ := F _ (sm (.lst (((xs.take i).filter b).map f)))
 by_cases hlt : i < xs.length
 ·have ex : xs[i]? = some xs[i] := by simp [hlt]
  obtain ⟨go, yl⟩ := F1 i _ ex
  have et : (xs.take (i + 1)).filter b = (xs.take i).filter b ++ (if b xs[i] = true then [xs[i]] else []) := by
   rw [List.take_add_one, ex, List.filter_append]
   congr 1
   show List.filter b [xs[i]] = _
   rw [List.filter_cons]
   rfl
  refine .inr ⟨go, fun σ2 H2 => Sv σ2 ∧ H2 = upd H p (.lst (((xs.take (i + 1)).filter b).map f)), fun σ2 H2 ⟨a, b⟩ => ⟨xs.length - (i + 1), by omega, rfl, hlt, a, b⟩, fun x H2 hy => ?_⟩
  obtain ⟨rfl, rfl⟩ := yl x H2 hy
  refine gk _ _ _ _ _ (fun σ3 H3 z => ?_) (step xs[i] σ' _ (fun σ2 H2 => Sv σ2 ∧ H2 = upd H p (.lst (((xs.take (i + 1)).filter b).map f))) (fun σ3 v H5 => ∃ ys, H5 p = some (.lst ys) ∧ ys.length < sizeLine ∧ (Sv σ3 ∧ upd H5 p (.lst (ys ++ [v])) = upd H p (.lst (((xs.take (i + 1)).filter b).map f)))) (List.getElem_mem hlt) (sm _) hv (fun σ3 hs3 hb => ?_) fun σ3 hs3 hb => ?_)
  ·exact z
  ·refine ⟨hs3, ?_⟩
   rw [et, hb]
   simp
  ·refine ⟨_, qm, ?_, hs3, ?_⟩
   ·rw [List.length_map]; have := fl i; omega
   ·rw [upd_upd, et, hb, if_pos rfl, List.map_append]; rfl
 ·have e : i = xs.length := by omega
  subst e
  refine .inl ⟨F2, ?_⟩
  rw [List.take_length]
  exact fin p hp
end Add
namespace Wri
open PySem PySem.Spec PyProof.Rows PySem.W PySem.W.KIN PySem.NumText
noncomputable def jl (c : Nat) : List (List Nat) → List Nat
 | [] => []
 | [x] => x
 | x :: y :: r => x ++ c :: jl c (y :: r)
noncomputable def plain (x : Str) : Bool := decide (x = Str.ofString "0") || !decide (x.cps.toList.head? = some 48)
end Wri
namespace Add
open PySem PySem.Spec PyProof.Rows L2
inductive Tups (H : Hp) : List V → List (List V) → Prop where
 | nil : Tups H [] []
 | cons {a : Addr} {r : List V} {vs : List V} {rs : List (List V)} (h : H a = some (.tup r)) (t : Tups H vs rs) : Tups H (.ref a :: vs) (r :: rs)
theorem Tups.same {H H' : Hp} {vs : List V} {rs : List (List V)} (t : Tups H vs rs) (s : Same H H') : Tups H' vs rs := by
 induction t with
 | nil => exact .nil
 | cons h _ ih => exact .cons (s _ _ h) ih
theorem Tups.length {H : Hp} {vs : List V} {rs : List (List V)} (t : Tups H vs rs) : vs.length = rs.length := by
 induction t with
 | nil => rfl
 | cons _ _ ih => rw [List.length_cons, List.length_cons, ih]
theorem Tups.get {H : Hp} {vs : List V} {rs : List (List V)} (t : Tups H vs rs) : ∀ {i : Nat} {r : List V}, rs[i]? = some r → ∃ a, vs[i]? = some (.ref a) ∧ H a = some (.tup r) := by
 induction t with
 | nil => intro i r h; cases i <;> cases h
 | cons h _ ih =>
  intro i r' h'
  cases i with
  | zero => cases h'; exact ⟨_, rfl, h⟩
  | succ i => exact ih (i := i) h'
theorem Tups.get' {H : Hp} {vs : List V} {rs : List (List V)} (t : Tups H vs rs) {i : Nat} {v : V} (h : vs[i]? = some v) : ∃ a r, v = .ref a ∧ rs[i]? = some r ∧ H a = some (.tup r) := by
 have hi : i < rs.length := by rw [← t.length]; exact (List.getElem?_eq_some_iff.mp h).1
 obtain ⟨a, e, q⟩ := t.get (i := i) (r := rs[i]) (by simp [hi])
 rw [h] at e
 cases e
 exact ⟨a, _, rfl, by simp [hi], q⟩
theorem Tups.app {H : Hp} {vs us : List V} {rs ts : List (List V)} (t : Tups H vs rs) (u : Tups H us ts) : Tups H (vs ++ us) (rs ++ ts) := by
 induction t with
 | nil => exact u
 | cons h _ ih => exact .cons h ih
theorem Tups.snoc {H : Hp} {vs : List V} {rs : List (List V)} {a : Addr} {r : List V} (t : Tups H vs rs) (h : H a = some (.tup r)) : Tups H (vs ++ [.ref a]) (rs ++ [r]) := t.app (.cons h .nil)
theorem Tups.take {H : Hp} {vs : List V} {rs : List (List V)} (t : Tups H vs rs) : ∀ n, Tups H (vs.take n) (rs.take n) := by
 induction t with
 | nil => intro n; rw [List.take_nil, List.take_nil]; exact .nil
 | cons h _ ih =>
  intro n
  cases n with
  | zero => exact .nil
  | succ n => exact .cons h (ih n)
theorem Tups.drop {H : Hp} {vs : List V} {rs : List (List V)} (t : Tups H vs rs) : ∀ n, Tups H (vs.drop n) (rs.drop n) := by
 induction t with
 | nil => intro n; rw [List.drop_nil, List.drop_nil]; exact .nil
 | cons h t ih =>
  intro n
  cases n with
  | zero => exact .cons h t
  | succ n => exact ih n
theorem Tups.upd {H : Hp} {vs : List V} {rs : List (List V)} {p : Addr} {xs : List V} {o : HO} (t : Tups H vs rs) (hp : H p = some (.lst xs)) : Tups (L2.upd H p o) vs rs := by
 induction t with
 | nil => exact .nil
 | cons h _ ih => exact .cons (by rw [qr (fun z => by rw [z, hp] at h; cases h)]; exact h) ih
theorem Tups.setLast {H : Hp} {vs : List V} {rs : List (List V)} {v : V} {r r' : List V} {a : Addr} (t : Tups H (vs ++ [v]) (rs ++ [r])) (h : H a = some (.tup r')) : Tups H (vs ++ [.ref a]) (rs ++ [r']) := by
 have := t.take vs.length
 have hl := t.length
 simp only [List.length_append, List.length_cons, List.length_nil] at hl
 rw [List.take_left, show vs.length = rs.length by omega, List.take_left] at this
 exact this.snoc h
noncomputable def eqTs : List (List V) → List (List V) → Bool
 | [], [] => true
 | x :: xs, y :: ys => eqVs x y && eqTs xs ys
 | _, _ => false
theorem eqTs_len : ∀ {xs ys : List (List V)}, xs.length ≠ ys.length → eqTs xs ys = false
 | [], [], h => absurd rfl h
 | [], _ :: _, _ => rfl
 | _ :: _, [], _ => rfl
 | x :: xs, y :: ys, h => by
  show (eqVs x y && eqTs xs ys) = false
  rw [eqTs_len (fun z => h (by rw [List.length_cons, List.length_cons, z])), Bool.and_false]
theorem eqTs_self : ∀ {xs : List (List V)}, xs.all (·.all flatV) = true → eqTs xs xs = true
 | [], _ => rfl
 | x :: xs, h => by
  rw [List.all_cons, Bool.and_eq_true] at h
  show (eqVs x x && eqTs xs xs) = true
  rw [eqVs_self h.1, eqTs_self h.2]; rfl
noncomputable def eTs (xs ys : List (List V)) (j : Nat) : Bool := eqVs (xs.getD j []) (ys.getD j [])
theorem all_eTs : ∀ {xs ys : List (List V)}, xs.length = ys.length → (List.range xs.length).all (eTs xs ys) = eqTs xs ys
 | [], [], _ => rfl
 | x :: xs, y :: ys, h => by
  have ih := all_eTs (xs := xs) (ys := ys) (by simpa using h)
  show (List.range (xs.length + 1)).all _ = (eqVs x y && eqTs xs ys)
  rw [List.range_succ_eq_map, List.all_cons, List.all_map, ← ih]
  rfl
section
variable {X : Cx}
theorem rel_ref {a : Addr} {u : Value} (r : RelV (.ref a) u) : u = .ref a := by cases r; rfl
theorem tups_eq {A : Around} {pins : List (Addr × Obj)} {σ : L2.St} {H : Hp} {s : Shared} (I : Inv X pins σ H s) (hu : A.units < cLine) {vs us : List V} {ts rs : List (List V)} {its its2 : List Value} (r1 : Vals vs its) (r2 : Vals us its2) (t1 : Tups H vs ts) (t2 : Tups H us rs)
  (f1 : ts.all (·.all flatV) = true) (f2 : rs.all (·.all flatV) = true) : ∀ j (h1 : j < its.toArray.size) (h2 : j < its2.toArray.size), SeqAt.EqAt A s its.toArray[j] its2.toArray[j] (eTs ts rs j) := by
 intro j h1 h2
 have l1 := r1.length
 have l2 := r2.length
 have m1 := t1.length
 have m2 := t2.length
 have g1 : j < ts.length := by rw [List.size_toArray] at h1; omega
 have g2 : j < rs.length := by rw [List.size_toArray] at h2; omega
 obtain ⟨a, ea, qa⟩ := t1.get (i := j) (r := ts[j]) (by simp [g1])
 obtain ⟨b, eb, qb⟩ := t2.get (i := j) (r := rs[j]) (by simp [g2])
 obtain ⟨u, hu1, ru⟩ := r1.get ea
 obtain ⟨w, hw1, rw'⟩ := r2.get eb
 have e1 : its.toArray[j] = .ref a := by
  have : its[j]? = some its[j] := by simp
  rw [this] at hu1
  rw [← rel_ref ru]
  simpa using Option.some.inj hu1
 have e2 : its2.toArray[j] = .ref b := by
  have : its2[j]? = some its2[j] := by simp
  rw [this] at hw1
  rw [← rel_ref rw']
  simpa using Option.some.inj hw1
 have k1 := List.all_eq_true.mp f1 _ (List.getElem_mem g1)
 have k2 := List.all_eq_true.mp f2 _ (List.getElem_mem g2)
 have e3 : eTs ts rs j = eqVs ts[j] rs[j] := by simp [eTs, g1, g2]
 rw [e1, e2, e3]
 by_cases hab : a = b
 ·subst hab
  rw [qa] at qb
  have : ts[j] = rs[j] := by injection qb with qb; injection qb
  rw [← this, eqVs_self k1]
  exact SeqAt.EqAt.same _
 ·refine SeqAt.EqAt.of_refs hab ?_
  obtain ⟨i1, c1, p1, _⟩ := I.tuple (SqT.of qa)
  obtain ⟨i2, c2, p2, _⟩ := I.tuple (SqT.of qb)
  have z := SeqAt.RcAt.tuples (A := A) (show s.heap.IsTuple a i1.toArray from p1) (show s.heap.IsTuple b i2.toArray from p2) hu (items_eq c1 c2 k1 k2)
  rw [List.size_toArray, List.size_toArray, ← c1.length, ← c2.length, all_eq] at z
  exact z
noncomputable def rEqLT (K : PySem.W.Frag) (f : Bool → Bool) : R2 := fun x y H Q => ∃ a b vs us ts rs, x = .ref a ∧ y = .ref b ∧ SqL K H a vs ∧ SqL K H b us ∧ Tups H vs ts ∧ Tups H us rs ∧ ts.all (·.all flatV) = true ∧ rs.all (·.all flatV) = true ∧ Q (.bl (f (eqTs ts rs))) H
theorem op_eqLT (hu : X.A.units + 64 < cLine) : OpR X (compareOp .Eq) (rEqLT X.K fun z => z) := by
 intro pins s σ H x y v u Q I rx ry h
 obtain ⟨a, b, vs, us, ts, rs, rfl, rfl, ha, hb, t1, t2, f1, f2, q⟩ := h
 cases rx
 cases ry
 obtain ⟨its, r1, p1, _⟩ := I.list ha
 obtain ⟨its2, r2, p2, _⟩ := I.list hb
 have l1 := r1.length
 have l2 := r2.length
 have m1 := t1.length
 have m2 := t2.length
 by_cases hz : ts.length = rs.length
 ·refine SeqAt.eq_listAt p1.isList p2.isList (by rw [List.size_toArray, List.size_toArray]; omega) (by omega) (tups_eq I (by have : X.A.in1.units = X.A.units + 1 := rfl; omega) r1 r2 t1 t2 f1 f2) ?_
  rw [List.size_toArray, ← l1, m1, all_eTs hz]
  exact ⟨.bl (eqTs ts rs), H, I, rfl, q⟩
 ·refine SeqAt.eq_list_lengthsAt p1.isList p2.isList (bne_iff_ne.mpr (by rw [List.size_toArray, List.size_toArray]; omega)) (by omega) ?_
  rw [eqTs_len hz] at q
  exact ⟨.bl false, H, I, rfl, q⟩
theorem op_neLT (hu : X.A.units + 64 < cLine) : OpR X (compareOp .NotEq) (rEqLT X.K fun z => !z) := by
 intro pins s σ H x y v u Q I rx ry h
 obtain ⟨a, b, vs, us, ts, rs, rfl, rfl, ha, hb, t1, t2, f1, f2, q⟩ := h
 cases rx
 cases ry
 obtain ⟨its, r1, p1, _⟩ := I.list ha
 obtain ⟨its2, r2, p2, _⟩ := I.list hb
 have l1 := r1.length
 have l2 := r2.length
 have m1 := t1.length
 have m2 := t2.length
 by_cases hz : ts.length = rs.length
 ·refine SeqAt.RcNeAt.lists p1.isList p2.isList (by rw [List.size_toArray, List.size_toArray]; omega) (by omega) (tups_eq I (by have : X.A.in1.units = X.A.units + 1 := rfl; omega) r1 r2 t1 t2 f1 f2) _ _ _ _ ?_
  rw [List.size_toArray, ← l1, m1, all_eTs hz]
  exact ⟨.bl (!eqTs ts rs), H, I, rfl, q⟩
 ·refine SeqAt.RcNeAt.lists_lengths p1.isList p2.isList (bne_iff_ne.mpr (by rw [List.size_toArray, List.size_toArray]; omega)) (by omega) _ _ _ _ ?_
  rw [eqTs_len hz] at q
  exact ⟨.bl true, H, I, rfl, q⟩
theorem ix_tupC {K : PySem.W.Frag} (h : X.K = K) : IxR X (rIxT K) := by subst h; exact zq
theorem ix_listC {K : PySem.W.Frag} (h : X.K = K) : IxR X (rIxL K) := by subst h; exact zr
end
end Add
namespace Lay
section
variable {W : Type} [DecidableEq W]
noncomputable abbrev Row (W : Type) := Int × Int × W
noncomputable def wordF (a : W) (rs : List (Row W)) (d : Int) : W := rs.foldl (fun a r => if r.1 ≤ d ∧ d ≤ r.2.1 then r.2.2 else a) a
noncomputable def cnt (es : List Int) (d : Int) : Nat := (es.filter fun e => decide (e < d)).length
noncomputable abbrev ends (rs : List (Row W)) : List Int := rs.map fun r => r.2.1
structure Dis (rs : List (Row W)) : Prop where
 ok : ∀ r ∈ rs, r.1 ≤ r.2.1
 pw : rs.Pairwise fun r s => r.2.1 < s.1
noncomputable def left (rs : List (Row W)) (f : Int) : List (Row W) := rs.filterMap fun r => if r.1 < f then some (r.1, min r.2.1 (f - 1), r.2.2) else none
noncomputable def right (rs : List (Row W)) (l : Int) : List (Row W) := rs.filterMap fun r => if l < r.2.1 then some (max r.1 (l + 1), r.2.1, r.2.2) else none
noncomputable def over (rs : List (Row W)) (f l : Int) (w : W) : List (Row W) := left rs f ++ (f, l, w) :: right rs l
theorem cnt_eq : ∀ {es : List Int} {d : Int} {k : Nat}, k ≤ es.length → (∀ i e, es[i]? = some e → i < k → e < d) → (∀ i e, es[i]? = some e → k ≤ i → ¬ e < d) → cnt es d = k
 | [], d, k, hk, _, _ => by
  have : k = 0 := by simpa using hk
  subst this; rfl
 | e :: es, d, 0, _, h1, h2 => by
  have ih := cnt_eq (es := es) (d := d) (k := 0) (Nat.zero_le _) (fun _ _ _ z => absurd z (Nat.not_lt_zero _)) fun i x hx _ => h2 (i + 1) x hx (Nat.zero_le _)
  have hn := h2 0 e rfl (Nat.le_refl _)
  unfold cnt at ih ⊢
  rw [List.filter_cons, if_neg (by simpa using hn)]
  exact ih
 | e :: es, d, k + 1, hk, h1, h2 => by
  have ih := cnt_eq (es := es) (d := d) (k := k) (by simpa using hk) (fun i x hx z => h1 (i + 1) x hx (by omega)) fun i x hx z => h2 (i + 1) x hx (by omega)
  have hn := h1 0 e rfl (by omega)
  unfold cnt at ih ⊢
  rw [List.filter_cons, if_pos (by simpa using hn), List.length_cons, ih]
theorem cnt_cons (e : Int) (es : List Int) (d : Int) : cnt (e :: es) d = if e < d then cnt es d + 1 else cnt es d := by
 unfold cnt
 rw [List.filter_cons]
 by_cases h : e < d <;> simp [h]
theorem cnt_le (es : List Int) (d : Int) : cnt es d ≤ es.length := List.length_filter_le _ _
theorem cnt_zero {es : List Int} {d : Int} (h : ∀ e ∈ es, ¬ e < d) : cnt es d = 0 := by
 unfold cnt
 rw [List.filter_eq_nil_iff.mpr (fun e he => by simpa using h e he)]
 rfl
theorem Dis.tail {r : Row W} {rs : List (Row W)} (h : Dis (r :: rs)) : Dis rs := ⟨fun s hs => h.ok s (List.mem_cons_of_mem _ hs), (List.pairwise_cons.mp h.pw).2⟩
theorem Dis.later {r : Row W} {rs : List (Row W)} (h : Dis (r :: rs)) {s : Row W} (hs : s ∈ rs) : r.2.1 < s.1 ∧ s.1 ≤ s.2.1 := ⟨(List.pairwise_cons.mp h.pw).1 s hs, h.ok s (List.mem_cons_of_mem _ hs)⟩
theorem left_nil {rs : List (Row W)} {f : Int} (h : ∀ s ∈ rs, ¬ s.1 < f) : left rs f = [] := by
 unfold left
 rw [List.filterMap_eq_nil_iff]
 intro s hs
 rw [if_neg (h s hs)]
theorem left_code : ∀ {rs : List (Row W)} (f : Int), Dis rs → left rs f = rs.take (cnt (ends rs) f) ++ (match rs[cnt (ends rs) f]? with | some r => if r.1 < f then [(r.1, f - 1, r.2.2)] else [] | none => [])
 | [], f, _ => rfl
 | r :: rs, f, h => by
  have h0 := h.ok r List.mem_cons_self
  by_cases c : r.2.1 < f
  ·have e : cnt (ends (r :: rs)) f = cnt (ends rs) f + 1 := by rw [show ends (r :: rs) = r.2.1 :: ends rs from rfl, cnt_cons, if_pos c]
   have ih := left_code f h.tail
   rw [e, List.take_succ_cons, List.getElem?_cons_succ, List.cons_append, ← ih]
   show List.filterMap _ (r :: rs) = _
   have hm : min r.2.1 (f - 1) = r.2.1 := Int.min_eq_left (Int.le_sub_one_of_lt c)
   rw [List.filterMap_cons_some (b := r) (by rw [if_pos (Int.lt_of_le_of_lt h0 c), hm])]
   rfl
  ·have e : cnt (ends (r :: rs)) f = 0 := cnt_zero fun x hx => by
    obtain ⟨s, hs, rfl⟩ := List.mem_map.mp hx
    rcases List.mem_cons.mp hs with rfl | hs
    ·exact c
    ·exact fun z => c (Int.lt_trans (Int.lt_of_lt_of_le (h.later hs).1 (h.later hs).2) z)
   have hl : left rs f = [] := left_nil fun s hs z => c (Int.lt_trans (h.later hs).1 z)
   rw [e, List.take_zero, List.nil_append, List.getElem?_cons_zero]
   show List.filterMap _ (r :: rs) = _
   by_cases d : r.1 < f
   ·have hm : min r.2.1 (f - 1) = f - 1 := Int.min_eq_right (Int.le_trans (Int.le_of_lt (Int.sub_lt_self f (by decide))) (Int.not_lt.mp c))
    rw [List.filterMap_cons_some (b := (r.1, f - 1, r.2.2)) (by rw [if_pos d, hm])]
    show _ :: left rs f = _
    rw [hl]
    exact (if_pos d).symm
   ·rw [List.filterMap_cons_none (by rw [if_neg d])]
    show left rs f = _
    rw [hl]
    exact (if_neg d).symm
theorem right_all : ∀ {rs : List (Row W)} {l : Int}, (∀ s ∈ rs, l < s.1 ∧ s.1 ≤ s.2.1) → right rs l = rs
 | [], _, _ => rfl
 | r :: rs, l, h => by
  have h0 := h r List.mem_cons_self
  have ih := right_all (l := l) fun s hs => h s (List.mem_cons_of_mem _ hs)
  show List.filterMap _ (r :: rs) = _
  have hm : max r.1 (l + 1) = r.1 := Int.max_eq_left h0.1
  rw [List.filterMap_cons_some (b := r) (by rw [if_pos (Int.lt_of_lt_of_le h0.1 h0.2), hm])]
  show r :: right rs l = _
  rw [ih]
theorem right_code : ∀ {rs : List (Row W)} (l : Int), Dis rs → right rs l = (match rs[cnt (ends rs) (l + 1)]? with | some r => if r.1 ≤ l then (l + 1, r.2.1, r.2.2) :: rs.drop (cnt (ends rs) (l + 1) + 1) else rs.drop (cnt (ends rs) (l + 1)) | none => [])
 | [], l, _ => rfl
 | r :: rs, l, h => by
  have h0 := h.ok r List.mem_cons_self
  by_cases c : r.2.1 < l + 1
  ·have e : cnt (ends (r :: rs)) (l + 1) = cnt (ends rs) (l + 1) + 1 := by rw [show ends (r :: rs) = r.2.1 :: ends rs from rfl, cnt_cons, if_pos c]
   have ih := right_code l h.tail
   rw [e, List.getElem?_cons_succ, List.drop_succ_cons, List.drop_succ_cons, ← ih]
   show List.filterMap _ (r :: rs) = _
   rw [List.filterMap_cons_none (by rw [if_neg (Int.not_lt.mpr (Int.le_of_lt_add_one c))])]
   rfl
  ·have e : cnt (ends (r :: rs)) (l + 1) = 0 := cnt_zero fun x hx => by
    obtain ⟨s, hs, rfl⟩ := List.mem_map.mp hx
    rcases List.mem_cons.mp hs with rfl | hs
    ·exact c
    ·exact fun z => c (Int.lt_trans (Int.lt_of_lt_of_le (h.later hs).1 (h.later hs).2) z)
   have hr : right rs l = rs := right_all fun s hs => ⟨Int.lt_trans (Int.not_lt.mp c) (h.later hs).1, (h.later hs).2⟩
   rw [e, List.getElem?_cons_zero]
   show List.filterMap _ (r :: rs) = if r.1 ≤ l then (l + 1, r.2.1, r.2.2) :: rs else r :: rs
   by_cases d : r.1 ≤ l
   ·have hm : max r.1 (l + 1) = l + 1 := Int.max_eq_right (Int.le_add_one d)
    rw [List.filterMap_cons_some (b := (l + 1, r.2.1, r.2.2)) (by rw [if_pos (show l < r.2.1 from Int.not_lt.mp c), hm]), if_pos d]
    show _ :: right rs l = _
    rw [hr]
   ·have hm : max r.1 (l + 1) = r.1 := Int.max_eq_left (Int.not_le.mp d)
    rw [List.filterMap_cons_some (b := r) (by rw [if_pos (show l < r.2.1 from Int.not_lt.mp c), hm]), if_neg d]
    show _ :: right rs l = _
    rw [hr]
theorem word_app (a : W) (rs ss : List (Row W)) (d : Int) : wordF a (rs ++ ss) d = wordF (wordF a rs d) ss d := by
 unfold wordF
 rw [List.foldl_append]
theorem word_cons (a : W) (r : Row W) (rs : List (Row W)) (d : Int) : wordF a (r :: rs) d = wordF (if r.1 ≤ d ∧ d ≤ r.2.1 then r.2.2 else a) rs d := rfl
theorem word_left : ∀ (a : W) (rs : List (Row W)) (f d : Int), wordF a (left rs f) d = if d < f then wordF a rs d else a
 | a, [], f, d => by
  show a = if d < f then a else a
  split <;> rfl
 | a, r :: rs, f, d => by
  by_cases c : r.1 < f
  ·have e : left (r :: rs) f = (r.1, min r.2.1 (f - 1), r.2.2) :: left rs f := List.filterMap_cons_some (by rw [if_pos c])
   rw [e, word_cons, word_left]
   by_cases q : d < f
   ·rw [if_pos q, if_pos q, word_cons]
    have hz : (r.1 ≤ d ∧ d ≤ min r.2.1 (f - 1)) ↔ (r.1 ≤ d ∧ d ≤ r.2.1) := and_congr_right fun _ => ⟨fun z => Int.le_trans z (Int.min_le_left _ _), fun z => Int.le_min.mpr ⟨z, Int.le_sub_one_of_lt q⟩⟩
    simp only [hz]
   ·rw [if_neg q, if_neg q, if_neg (show ¬ (r.1 ≤ d ∧ d ≤ min r.2.1 (f - 1)) from fun z => q (Int.lt_of_le_sub_one (Int.le_trans z.2 (Int.min_le_right _ _))))]
  ·have e : left (r :: rs) f = left rs f := List.filterMap_cons_none (by rw [if_neg c])
   rw [e, word_left]
   by_cases q : d < f
   ·rw [if_pos q, if_pos q, word_cons, if_neg (fun z => c (Int.lt_of_le_of_lt z.1 q))]
   ·rw [if_neg q, if_neg q]
theorem word_right : ∀ (a : W) (rs : List (Row W)) (l d : Int), wordF a (right rs l) d = if l < d then wordF a rs d else a
 | a, [], l, d => by
  show a = if l < d then a else a
  split <;> rfl
 | a, r :: rs, l, d => by
  by_cases c : l < r.2.1
  ·have e : right (r :: rs) l = (max r.1 (l + 1), r.2.1, r.2.2) :: right rs l := List.filterMap_cons_some (by rw [if_pos c])
   rw [e, word_cons, word_right]
   by_cases q : l < d
   ·rw [if_pos q, if_pos q, word_cons]
    have hz : (max r.1 (l + 1) ≤ d ∧ d ≤ r.2.1) ↔ (r.1 ≤ d ∧ d ≤ r.2.1) := and_congr_left fun _ => ⟨fun z => Int.le_trans (Int.le_max_left _ _) z, fun z => Int.max_le.mpr ⟨z, q⟩⟩
    simp only [hz]
   ·rw [if_neg q, if_neg q, if_neg (show ¬ (max r.1 (l + 1) ≤ d ∧ d ≤ r.2.1) from fun z => q (Int.le_trans (Int.le_max_right _ _) z.1))]
  ·have e : right (r :: rs) l = right rs l := List.filterMap_cons_none (by rw [if_neg c])
   rw [e, word_right]
   by_cases q : l < d
   ·rw [if_pos q, if_pos q, word_cons, if_neg (fun z => c (Int.lt_of_lt_of_le q z.2))]
   ·rw [if_neg q, if_neg q]
theorem word_over (a : W) (rs : List (Row W)) {f l : Int} (w : W) (h : f ≤ l) (d : Int) : wordF a (over rs f l w) d = if f ≤ d ∧ d ≤ l then w else wordF a rs d := by
 unfold over
 rw [word_app, word_cons, word_left, word_right]
 by_cases c1 : d < f
 ·rw [if_pos c1, if_neg (Int.not_lt.mpr (Int.le_trans (Int.le_of_lt c1) h)), if_neg (show ¬ (f ≤ d ∧ d ≤ l) from fun z => Int.not_lt.mpr z.1 c1)]
 ·by_cases c2 : l < d
  ·rw [if_neg c1, if_pos c2, if_neg (show ¬ (f ≤ d ∧ d ≤ l) from fun z => Int.not_lt.mpr z.2 c2)]
   exact (if_neg (show ¬ (f ≤ d ∧ d ≤ l) from fun z => Int.not_lt.mpr z.2 c2)).symm
  ·rw [if_neg c1, if_neg c2, if_pos (show f ≤ d ∧ d ≤ l from ⟨Int.not_lt.mp c1, Int.not_lt.mp c2⟩)]
   exact (if_pos (show f ≤ d ∧ d ≤ l from ⟨Int.not_lt.mp c1, Int.not_lt.mp c2⟩)).symm
theorem over_dis {rs : List (Row W)} {f l : Int} (w : W) (h : Dis rs) (hf : f ≤ l) : Dis (over rs f l w) := by
 have hl : ∀ r ∈ left rs f, r.1 ≤ r.2.1 ∧ r.2.1 < f := fun r hr => by
  obtain ⟨s, hs, e⟩ := List.mem_filterMap.mp hr
  have := h.ok s hs
  split at e
  ·injection e with e; subst e; show s.1 ≤ min s.2.1 (f - 1) ∧ min s.2.1 (f - 1) < f; omega
  ·cases e
 have hr : ∀ r ∈ right rs l, r.1 ≤ r.2.1 ∧ l < r.1 := fun r hr => by
  obtain ⟨s, hs, e⟩ := List.mem_filterMap.mp hr
  have := h.ok s hs
  split at e
  ·injection e with e; subst e; show max s.1 (l + 1) ≤ s.2.1 ∧ l < max s.1 (l + 1); omega
  ·cases e
 refine ⟨fun r hm => ?_, ?_⟩
 ·rcases List.mem_append.mp hm with hm | hm
  ·exact (hl r hm).1
  ·rcases List.mem_cons.mp hm with rfl | hm
   ·exact hf
   ·exact (hr r hm).1
 ·refine List.pairwise_append.mpr ⟨?_, List.pairwise_cons.mpr ⟨fun r hm => (hr r hm).2, ?_⟩, fun a ha b hb => ?_⟩
  ·refine List.pairwise_filterMap.mpr (h.pw.imp fun {r s} hrs x hx y hy => ?_)
   split at hx
   ·split at hy
    ·injection hx with hx; injection hy with hy; subst hx; subst hy; exact Int.lt_of_le_of_lt (Int.min_le_left _ _) hrs
    ·cases hy
   ·cases hx
  ·refine List.pairwise_filterMap.mpr (h.pw.imp fun {r s} hrs x hx y hy => ?_)
   split at hx
   ·split at hy
    ·injection hx with hx; injection hy with hy; subst hx; subst hy; exact Int.lt_of_lt_of_le hrs (Int.le_max_left _ _)
    ·cases hy
   ·cases hx
  ·have h1 := hl a ha
   rcases List.mem_cons.mp hb with rfl | hb
   ·exact h1.2
   ·exact Int.lt_trans (Int.lt_of_lt_of_le h1.2 hf) (hr b hb).2
noncomputable def jn1 (told : List (Row W)) (r : Row W) : List (Row W) := match told.getLast? with
 | some t => if t.2.2 = r.2.2 ∧ t.2.1 + 1 = r.1 then told.dropLast ++ [(t.1, r.2.1, r.2.2)] else told ++ [r]
 | none => told ++ [r]
noncomputable def Nx (r s : Row W) : Prop := r.2.1 < s.1 ∧ (s.1 = r.2.1 + 1 → r.2.2 ≠ s.2.2)
structure Ap (rs : List (Row W)) : Prop where
 ok : ∀ r ∈ rs, r.1 ≤ r.2.1
 nx : ∀ i r s, rs[i]? = some r → rs[i + 1]? = some s → Nx r s
theorem ap_snoc {rs : List (Row W)} {t : Row W} (h : Ap rs) (ht : t.1 ≤ t.2.1) (hn : ∀ z, rs.getLast? = some z → Nx z t) : Ap (rs ++ [t]) := by
 refine ⟨fun r hr => ?_, fun i r s h1 h2 => ?_⟩
 ·rcases List.mem_append.mp hr with hr | hr
  ·exact h.ok r hr
  ·rw [List.mem_singleton.mp hr]; exact ht
 ·have hi : i + 1 < rs.length + 1 := by
   have := (List.getElem?_eq_some_iff.mp h2).1
   simpa using this
  rw [List.getElem?_append_left (Nat.lt_of_succ_lt_succ hi)] at h1
  by_cases c : i + 1 < rs.length
  ·rw [List.getElem?_append_left c] at h2
   exact h.nx i r s h1 h2
  ·have e : i + 1 = rs.length := Nat.le_antisymm (Nat.le_of_lt_succ hi) (Nat.not_lt.mp c)
   rw [List.getElem?_append_right (Nat.not_lt.mp c), e, Nat.sub_self] at h2
   cases h2
   refine hn r ?_
   rw [List.getLast?_eq_getElem?, show rs.length - 1 = i by rw [← e]; rfl]
   exact h1
theorem ap_init {rs : List (Row W)} {t : Row W} (h : Ap (rs ++ [t])) : Ap rs ∧ t.1 ≤ t.2.1 ∧ ∀ z, rs.getLast? = some z → Nx z t := by
 refine ⟨⟨fun r hr => h.ok r (List.mem_append_left _ hr), fun i r s h1 h2 => ?_⟩, h.ok t (by simp), fun z hz => ?_⟩
 ·have g1 := (List.getElem?_eq_some_iff.mp h1).1
  have g2 := (List.getElem?_eq_some_iff.mp h2).1
  exact h.nx i r s (by rw [List.getElem?_append_left g1]; exact h1) (by rw [List.getElem?_append_left g2]; exact h2)
 ·rw [List.getLast?_eq_getElem?] at hz
  have g := (List.getElem?_eq_some_iff.mp hz).1
  refine h.nx (rs.length - 1) z t (by rw [List.getElem?_append_left g]; exact hz) ?_
  have gg := Nat.sub_add_cancel (Nat.lt_of_le_of_lt (Nat.zero_le _) g)
  rw [List.getElem?_append_right (Nat.le_of_eq gg.symm), gg, Nat.sub_self]
  rfl
theorem last_snoc {α : Type} (xs : List α) (x : α) : (xs ++ [x]).getLast? = some x := by simp
theorem jn1_snoc (rs : List (Row W)) (t r : Row W) : jn1 (rs ++ [t]) r = if t.2.2 = r.2.2 ∧ t.2.1 + 1 = r.1 then rs ++ [(t.1, r.2.1, r.2.2)] else rs ++ [t] ++ [r] := by
 unfold jn1
 rw [last_snoc]
 simp
theorem jn1_ok {told : List (Row W)} {r : Row W} (h : Ap told) (hr : r.1 ≤ r.2.1) (hl : ∀ z, told.getLast? = some z → z.2.1 < r.1) :
  Ap (jn1 told r) ∧ (∀ z, (jn1 told r).getLast? = some z → z.2.1 = r.2.1) ∧ ∀ a d, wordF a (jn1 told r) d = wordF a (told ++ [r]) d := by
 rcases List.eq_nil_or_concat told with rfl | ⟨rs, t, rfl⟩
 ·refine ⟨ap_snoc h hr (fun z hz => by cases hz), fun z hz => ?_, fun _ _ => rfl⟩
  have : z = r := by simpa [jn1] using hz.symm
  rw [this]
 ·rw [List.concat_eq_append] at h hl ⊢
  rw [jn1_snoc]
  obtain ⟨h1, h2, h3⟩ := ap_init h
  have h4 := hl t (last_snoc rs t)
  by_cases c : t.2.2 = r.2.2 ∧ t.2.1 + 1 = r.1
  ·rw [if_pos c]
   refine ⟨ap_snoc h1 (show t.1 ≤ r.2.1 from Int.le_trans h2 (Int.le_trans (Int.le_of_lt h4) hr)) (fun z hz => ?_), fun z hz => ?_, fun a d => ?_⟩
   ·have := h3 z hz
    exact ⟨this.1, fun e => by rw [← c.1]; exact this.2 e⟩
   ·rw [last_snoc] at hz; cases hz; rfl
   ·rw [word_app, word_app, word_app]
    show (if t.1 ≤ d ∧ d ≤ r.2.1 then r.2.2 else _) = if r.1 ≤ d ∧ d ≤ r.2.1 then r.2.2 else if t.1 ≤ d ∧ d ≤ t.2.1 then t.2.2 else _
    rw [c.1]
    by_cases q1 : r.1 ≤ d ∧ d ≤ r.2.1
    ·rw [if_pos q1, if_pos ⟨Int.le_trans h2 (Int.le_trans (Int.le_of_lt h4) q1.1), q1.2⟩]
    ·rw [if_neg q1]
     by_cases q2 : t.1 ≤ d ∧ d ≤ t.2.1
     ·rw [if_pos q2, if_pos ⟨q2.1, Int.le_trans q2.2 (Int.le_trans (Int.le_of_lt h4) hr)⟩]
     ·rw [if_neg q2, if_neg fun z => (Int.lt_or_le d r.1).elim (fun y => q2 ⟨z.1, Int.le_of_lt_add_one (by rw [c.2]; exact y)⟩) fun y => q1 ⟨y, z.2⟩]
  ·rw [if_neg c]
   refine ⟨ap_snoc h hr (fun z hz => ?_), fun z hz => ?_, fun _ _ => rfl⟩
   ·rw [last_snoc] at hz; cases hz
    exact ⟨h4, fun e g => c ⟨g, e.symm⟩⟩
   ·rw [last_snoc] at hz; cases hz; rfl
noncomputable def jn (rs : List (Row W)) : List (Row W) := rs.foldl jn1 []
theorem jn_ok {rs : List (Row W)} (h : Dis rs) : Ap (jn rs) ∧ ∀ a d, wordF a (jn rs) d = wordF a rs d := by
 have step : ∀ (ss done : List (Row W)) (told : List (Row W)), Dis (done ++ ss) → Ap told → (∀ z, told.getLast? = some z → ∃ y ∈ done, z.2.1 = y.2.1) → (∀ a d, wordF a told d = wordF a done d) →
   Ap (ss.foldl jn1 told) ∧ ∀ a d, wordF a (ss.foldl jn1 told) d = wordF a (done ++ ss) d := by
  intro ss
  induction ss with
  | nil => intro done told _ h1 _ h3; exact ⟨h1, fun a d => by rw [List.append_nil]; exact h3 a d⟩
  | cons r ss ih =>
   intro done told h0 h1 h2 h3
   have hr := h0.ok r (by simp)
   have hlt : ∀ z, told.getLast? = some z → z.2.1 < r.1 := fun z hz => by
    obtain ⟨y, hy, e⟩ := h2 z hz
    rw [e]
    exact (List.pairwise_append.mp h0.pw).2.2 y hy r List.mem_cons_self
   obtain ⟨g1, g2, g3⟩ := jn1_ok h1 hr hlt
   have e : done ++ r :: ss = (done ++ [r]) ++ ss := by simp
   rw [e]
   rw [e] at h0
   refine ih (done ++ [r]) (jn1 told r) h0 g1 (fun z hz => ⟨r, by simp, g2 z hz⟩) fun a d => ?_
   rw [g3, word_app, word_app, h3]
 exact step rs [] [] h ⟨(fun _ h => absurd h List.not_mem_nil), fun i r s h => by cases h⟩ (fun z hz => by cases hz) fun _ _ => rfl
noncomputable def lay (rs : List (Row W)) : List (Row W) := rs.foldl (fun laid r => over laid r.1 r.2.1 r.2.2) []
theorem lay_snoc (rs : List (Row W)) (r : Row W) : lay (rs ++ [r]) = over (lay rs) r.1 r.2.1 r.2.2 := by unfold lay; rw [List.foldl_append]; rfl
theorem lay_ok {rs : List (Row W)} (h : ∀ r ∈ rs, r.1 ≤ r.2.1) : Dis (lay rs) ∧ ∀ a d, wordF a (lay rs) d = wordF a rs d := by
 have step : ∀ (ss done laid : List (Row W)), (∀ r ∈ ss, r.1 ≤ r.2.1) → Dis laid → (∀ a d, wordF a laid d = wordF a done d) →
   Dis (ss.foldl (fun laid r => over laid r.1 r.2.1 r.2.2) laid) ∧ ∀ a d, wordF a (ss.foldl (fun laid r => over laid r.1 r.2.1 r.2.2) laid) d = wordF a (done ++ ss) d := by
  intro ss
  induction ss with
  | nil => intro done laid _ h1 h2; exact ⟨h1, fun a d => by rw [List.append_nil]; exact h2 a d⟩
  | cons r ss ih =>
   intro done laid h0 h1 h2
   have hr := h0 r List.mem_cons_self
   have e : done ++ r :: ss = (done ++ [r]) ++ ss := by simp
   rw [e]
   refine ih (done ++ [r]) _ (fun s hs => h0 s (List.mem_cons_of_mem _ hs)) (over_dis r.2.2 h1 hr) fun a d => ?_
   rw [word_over a laid r.2.2 hr, word_app, h2]
   rfl
 exact step rs [] [] h ⟨(fun _ h => absurd h List.not_mem_nil), List.Pairwise.nil⟩ fun _ _ => rfl
noncomputable def ov (rs : List (Row W)) : List (Row W) := jn (lay rs)
theorem ov_ok {rs : List (Row W)} (h : ∀ r ∈ rs, r.1 ≤ r.2.1) : Ap (ov rs) ∧ ∀ a d, wordF a (ov rs) d = wordF a rs d := by
 obtain ⟨h1, h2⟩ := lay_ok h
 obtain ⟨h3, h4⟩ := jn_ok h1
 exact ⟨h3, fun a d => (h4 a d).trans (h2 a d)⟩
theorem ap_dis {rs : List (Row W)} (h : Ap rs) : Dis rs := by
 refine ⟨h.ok, ?_⟩
 rw [List.pairwise_iff_getElem]
 intro i j hi hj hij
 have step : ∀ n, ∀ (hn : i + 1 + n < rs.length), (rs[i]'hi).2.1 < (rs[i + 1 + n]'hn).1 := by
  intro n
  induction n with
  | zero => intro hn; exact (h.nx i (rs[i]'hi) (rs[i + 1]'hn) (List.getElem?_eq_getElem _) (List.getElem?_eq_getElem _)).1
  | succ n ih =>
   intro hn
   have g := ih (Nat.lt_of_succ_lt hn)
   have k := (h.nx (i + 1 + n) (rs[i + 1 + n]'(Nat.lt_of_succ_lt hn)) (rs[i + 1 + n + 1]'hn) (List.getElem?_eq_getElem _) (List.getElem?_eq_getElem _)).1
   have m := h.ok rs[i + 1 + n] (List.getElem_mem _)
   exact Int.lt_trans (Int.lt_of_lt_of_le g m) k
 have := step (j - i - 1) (by omega)
 simpa [show i + 1 + (j - i - 1) = j by omega] using this
theorem ends_up {rs : List (Row W)} (h : Dis rs) : (ends rs).Pairwise (· < ·) := by
 refine List.pairwise_map.mpr ?_
 refine (List.Pairwise.and_mem.mp h.pw).imp fun {r s} q => ?_
 have := h.ok s q.2.1
 have := q.2.2
 omega
end
end Lay
namespace Srt
open PySem PySem.W PyProof.Rows
section
variable {n : Nat} {r : Nat → Nat → Bool}
noncomputable abbrev at' (p : Array Nat) (i : Nat) : Nat := p.getD i 0
structure Gd (n : Nat) (p : Array Nat) : Prop where
 perm : p.Perm (List.range n).toArray
end
end Srt
namespace Srt
open PySem PySem.W PySem.Calls PyProof.Rows
section
variable {prog : Program} {w : World} {A : Around} {E : Value → Shared → Prop} {s : Shared}
end
end Srt
namespace Add
open PySem PySem.Spec PyProof.Rows L2 Srt PySem.W
noncomputable def encP (r : Int × Int) : List V := [.int r.1, .int r.2]
section
variable {X : Cx} {pins : List (Addr × Obj)} {σ : L2.St} {H : Hp} {s : Shared}
end
end Add
namespace Mrg
noncomputable abbrev S2 := Int × Int
noncomputable def inB (rs : List S2) (d : Int) : Bool := rs.any fun r => decide (r.1 ≤ d) && decide (d ≤ r.2)
noncomputable def mg1 (told : List S2) (r : S2) : List S2 := match told.getLast? with
 | some t => if r.1 ≤ t.2 + 1 then told.dropLast ++ [(t.1, if r.2 > t.2 then r.2 else t.2)] else told ++ [r]
 | none => told ++ [r]
noncomputable def mg (rs : List S2) : List S2 := rs.foldl mg1 []
end Mrg
namespace Add
open PySem PySem.Spec PyProof.Rows L2
theorem turned2 {X : Cx} {pins : List (Addr × Obj)} {σ : L2.St} {H : Hp} {s : Shared} {h' : Heap} {t' : Nat} {e it : Addr} (I : Inv X pins σ H s) (k : ∀ b o, b ≠ e → b ≠ it → s.heap.get? b = some o → h'.get? b = some o) (f1 : FpOk X pins H e) (f2 : FpOk X pins H it) :
  Inv X pins σ H { s with heap := h', toks := t' } := by
 have n1 : ∀ b u, H b = some u → b ≠ e := fun b u q z => by rw [z, f1.1] at q; cases q
 have n2 : ∀ b u, H b = some u → b ≠ it := fun b u q z => by rw [z, f2.1] at q; cases q
 have out : ∀ b, b ∉ [e, it] → b ≠ e ∧ b ≠ it := fun b hb => ⟨fun z => hb (by simp [z]), fun z => hb (by simp [z])⟩
 refine I.step (g' := s.gens) (d' := s.drawn) (ch := [e, it]) (fun b hb => ?_) (fun b o _ _ hc q _ => k b o (out b hc).1 (out b hc).2 q) (fun b o _ _ hc q _ => ⟨o.slots, k b o (out b hc).1 (out b hc).2 q⟩) (fun _ _ _ _ n => n)
  (fun b o hc q => ⟨o, k b o (out b hc).1 (out b hc).2 q⟩) (fun _ _ q => q) (fun _ _ _ q => q) (fun b ps q => ⟨#[], by rw [q]; simp⟩) (fun m hm => ?_) (fun b u q => ?_) I.bare
 ·rcases List.mem_cons.mp hb with rfl | hb
  ·exact ⟨f1.2.2.2.1, f1.2.1, f1.2.2.2.2.1, f1.2.2.2.2.2⟩
  ·cases List.mem_singleton.mp hb
   exact ⟨f2.2.2.2.1, f2.2.1, f2.2.2.2.2.1, f2.2.2.2.2.2⟩
 ·obtain ⟨o, es, ep, ho, r⟩ := hm
  exact ⟨o, es, ep, k _ o (Ne.symm f1.2.1) (Ne.symm f2.2.1) ho, r⟩
 ·refine (I.hok b u q).stay (fun c v hc z => k c v ?_ ?_ z) (fun _ z => z) fun _ _ z => z
  ·rcases hc with rfl | hc
   ·exact n1 _ u q
   ·exact n1 c _ hc
  ·rcases hc with rfl | hc
   ·exact n2 _ u q
   ·exact n2 c _ hc
noncomputable def Ite (K : PySem.W.Frag) (a : Addr) : It :=
 ⟨fun i H => ∃ xs x, SqL K H a xs ∧ xs[i]? = some x, fun i H x H' => ∀ xs, SqL K H a xs → ∃ y t, xs[i]? = some y ∧ H t = none ∧ x = .ref t ∧ H' = upd H t (.tup [.int i, y]), fun i H => ∃ xs, SqL K H a xs ∧ xs.length ≤ i⟩
theorem fp_upd {X : Cx} {pins : List (Addr × Obj)} {H : Hp} {b t : Addr} {o : HO} (f : FpOk X pins H b) (ne : b ≠ t) : FpOk X pins (L2.upd H t o) b := ⟨by rw [qr ne]; exact f.1, f.2⟩
theorem turn_enum {P : Program} {w : World} {K : PySem.W.Frag} {es : List Expr} {kk pos} (a e it : Addr) (hne : e ≠ it) : Turn P w K (.Tuple es kk pos) (Ite K a) [e, it] e (fun i h => ∃ old, IsEnum h e it i old ∧ h.IsListIter it a i) where
 mem := by simp
 obj := fun i h st b hb => by
  obtain ⟨old, h1, o, h2, c, d⟩ := st
  rcases List.mem_cons.mp hb with rfl | hb
  ·exact ⟨_, h1, fun v z => by cases z⟩
  ·cases List.mem_singleton.mp hb
   exact ⟨o, h2, fun v z => by rw [d] at z; cases z⟩
 keep := fun i h h' st k => by
  obtain ⟨old, h1, h2⟩ := st
  exact ⟨old, k e (by simp) _ h1, h2.at fun o q => k it (by simp) o q⟩
 item := by
  intro X hP hw hK hc i pins s σ H E I hf st hg
  subst hP hw hK
  obtain ⟨old, he, hit⟩ := st
  obtain ⟨xs, x, hq, hx⟩ := hg
  obtain ⟨its, rv, p, hz⟩ := I.list hq
  obtain ⟨u, hu, ru⟩ := rv.get hx
  have f1 := hf e (by simp)
  have f2 := hf it (by simp)
  refine wpAny_pyNext_enum_item he hit p.isList (x := u) (by simpa using hu) hne fun h1 ho hit1 ht hsz keep => ⟨_, rfl, ?_⟩
  refine wpAny_letOwnedTupleGo_enum ho fun h2 he2 sb => ?_
  replace sb : Heap.SameBut e h1 h2 := sb
  have hel : e < s.heap.objs.size := Heap.lt_size he
  obtain ⟨oi, hoi, _⟩ := id hit
  have hil : it < s.heap.objs.size := Heap.lt_size hoi
  have ht2 : h2.get? s.heap.objs.size = some { cls := .type "tuple", data := .seq #[.int i s.toks, u] } := (sb.2 _ (Nat.ne_of_gt hel)).trans ht
  have hfr : H s.heap.objs.size = none := I.hok.fresh (Nat.le_refl _)
  have I1 := I.laid (a := s.heap.objs.size) (o := .tup [.int i, x]) (h' := s.heap.push { cls := .type "tuple", data := .seq #[.int i s.toks, u] }) (t' := s.toks) (fun b o q => Heap.get?_push_of_some _ q) (Nat.le_refl _) ⟨show 2 ≤ sizeLine by rw [sizeLine_eq]; decide, [.int i s.toks, u], .cons ⟨_, rfl⟩ (.cons ru .nil), ⟨_, Heap.get?_push_size _ rfl, rfl, _, rfl⟩⟩
  have I2 := turned2 (h' := h2) (t' := s.toks + 1) I1 (fun b o n1 n2 q => by
   by_cases z : b = s.heap.objs.size
   ·subst z
    rw [Heap.get?_push_size _ rfl] at q
    cases q
    exact ht2
   ·rw [Heap.get?_push_ne _ _ _ z] at q
    exact (sb.2 b n1).trans (keep b o n1 n2 q)) (fp_upd f1 (Nat.ne_of_lt hel)) (fp_upd f2 (Nat.ne_of_lt hil))
  refine ⟨.ref s.heap.objs.size, _, I2, rfl, fun ys hy => ?_, ⟨u, he2, hit1.at fun o q => (sb.2 it (Ne.symm hne)).trans q⟩, fun b hb => ?_⟩
  ·rw [I.list_inj hy hq]
   exact ⟨x, _, hx, hfr, rfl, rfl⟩
  ·rcases List.mem_cons.mp hb with rfl | hb
   ·rw [qr (Nat.ne_of_lt hel)]; exact f1.1
   ·cases List.mem_singleton.mp hb
    rw [qr (Nat.ne_of_lt hil)]; exact f2.1
 done := by
  intro X hP hw hK hc i pins s σ H E I hf st hg
  subst hP hw hK
  obtain ⟨old, he, hit⟩ := st
  obtain ⟨xs, hq, hx⟩ := hg
  obtain ⟨its, rv, p, hz⟩ := I.list hq
  have hl := rv.length
  have f1 := hf e (by simp)
  have f2 := hf it (by simp)
  exact wpAny_pyNext_enum_end (I.ok.hd hc) he hit p.isList (by simp; omega) fun h' eb => ⟨rfl, turned2 (t' := s.toks) I (fun b o n1 n2 q => eb b o n2 q) f1 f2⟩
 self := fun A i s Q E st h => by
  obtain ⟨old, he, hit⟩ := st
  exact wpAny_pyIter_enum he h
noncomputable def iEnum (K : PySem.W.Frag) (ta : TA) : TI := fun σ H R => ta σ H fun vs H1 => ∃ a xs, vs = [.ref a] ∧ H1 a = some (.lst xs) ∧ R (Ite K a) H1
theorem boot_enum : bootBuiltins "enumerate" = some (.type "enumerate") := by decide +kernel
theorem pi_enum {X : Cx} {es : List Expr} {kk : _} {pos' : Pos} {a : Expr} {ta : TA} {p pos : Pos} (hg : Gl X "enumerate") (hm : X.mg "enumerate" = none) (ha : PA X [a] ta) (hs : starEach [a] X.env = [(false, eval a X.env)] := by rfl) : PI X (.Tuple es kk pos') (.Call (.Name "enumerate" p) [a] [] pos) (iEnum X.K ta) := by
 intro pins s σ H R I h
 refine Call_ (ld_blt I hg hm boot_enum (PyProof.Rows.callWith_type1 (thn (ha pos pins s σ H _ I h) fun us s1 ⟨vs, H1, I1, r1, q1⟩ => ?_) hs rfl))
 obtain ⟨l, xs, e, hl, q⟩ := q1
 subst e
 obtain ⟨u, rfl, hu⟩ := vals1 r1
 cases rel_ref hu
 obtain ⟨z, its, n, rv, hz, e⟩ := I1.lstM hl
 refine call_enumerate_1 e fun h' he hit hsz keep => wpAny_pyIter_enum he ?_
 have I2 : Inv X pins σ H1 { s1 with heap := h' } := I1.kept (t' := s1.toks) keep
 refine ⟨s1.heap.objs.size + 1, [s1.heap.objs.size + 1, s1.heap.objs.size], _, _, H1, rfl, I2, turn_enum l _ _ (Nat.ne_of_gt (Nat.lt_succ_self _)), ⟨.none, he, hit⟩, fun b hb => ?_, q⟩
 rcases List.mem_cons.mp hb with rfl | hb
 ·exact I1.fpOk (Nat.le_succ _) (I1.hok.fresh (Nat.le_succ _))
 ·cases List.mem_singleton.mp hb
  exact I1.fpOk (Nat.le_refl _) (I1.hok.fresh (Nat.le_refl _))
theorem for_enum {K : PySem.W.Frag} {a : Addr} {xs : List V} {g : TG} {tb : TS} {D : Ends} {σ : L2.St} {H : Hp} (Pv : Nat → L2.St → Hp → Prop) (h0 : Pv 0 σ H) (hl : ∀ i σ H, i ≤ xs.length → Pv i σ H → SqL K H a xs)
  (hs : ∀ i x t σ H, xs[i]? = some x → Pv i σ H → H t = none → g (.ref t) σ (upd H t (.tup [.int i, x])) fun σ2 H2 => tb { D with nx := Pv (i + 1), ct := Pv (i + 1), bk := D.nx } σ2 H2) (hd : ∀ σ H, Pv xs.length σ H → D.nx σ H) :
  ∃ W : Nat → Nat → L2.St → Hp → Prop, (∃ m, W 0 m σ H) ∧ ∀ i m σ H, W i m σ H →
   ((Ite K a).stop i H ∧ D.nx σ H) ∨ ((Ite K a).go i H ∧ ∃ N : L2.St → Hp → Prop, (∀ σ' H', N σ' H' → ∃ m', m' < m ∧ W (i + 1) m' σ' H') ∧ ∀ x H', (Ite K a).yld i H x H' → g x σ H' fun σ2 H2 => tb { D with nx := N, ct := N, bk := D.nx } σ2 H2) := by
 refine ⟨fun i m σ H => m = xs.length - i ∧ i ≤ xs.length ∧ Pv i σ H, ⟨xs.length, by simp, Nat.zero_le _, h0⟩, ?_⟩
 rintro i m σ H ⟨rfl, hi, p⟩
 have hq := hl i σ H hi p
 by_cases hlt : i < xs.length
 ·have ex : xs[i]? = some xs[i] := by simp [hlt]
  refine .inr ⟨⟨xs, xs[i], hq, ex⟩, Pv (i + 1), fun σ' H' n => ⟨xs.length - (i + 1), by omega, rfl, hlt, n⟩, fun x H' hy => ?_⟩
  obtain ⟨y, t, e1, ht, rfl, rfl⟩ := hy xs hq
  exact hs i y t σ H e1 p ht
 ·have e : i = xs.length := by omega
  subst e
  exact .inl ⟨⟨xs, hq, Nat.le_refl _⟩, hd σ H p⟩
end Add
namespace Add
open PySem PySem.Spec PyProof.Rows L2
section
variable {X : Cx}
theorem any_getD (bs : List Bool) : ((List.range bs.length).any fun j => (bs[j]?).getD true) = bs.any fun b => b := by
 rw [Bool.eq_iff_iff, List.any_eq_true, List.any_eq_true]
 constructor
 ·rintro ⟨j, hj, e⟩
  have hj' : j < bs.length := by simpa using hj
  rw [List.getElem?_eq_getElem hj'] at e
  exact ⟨bs[j], List.getElem_mem hj', e⟩
 ·rintro ⟨b, hb, e⟩
  obtain ⟨j, hj, rfl⟩ := List.getElem_of_mem hb
  exact ⟨j, by simpa using hj, by rw [List.getElem?_eq_getElem hj]; exact e⟩
theorem call_anyB (hc : X.calm = true) : CallR X (.builtin "any") (fun xs H Q => ∃ (p : Addr) (bs : List Bool), xs = [V.ref p] ∧ SqL X.K H p (bs.map V.bl) ∧ Q (.bl (bs.any fun b => b)) H) := by
 intro pins s σ H xs us Q I r h
 obtain ⟨p, bs, rfl, hS, q⟩ := h
 obtain ⟨u, rfl, ru⟩ := Vals.one r
 cases ru
 obtain ⟨its, rv, pl, hz⟩ := I.list hS
 have hl := rv.length
 rw [List.length_map] at hl
 have hne : p ≠ s.heap.objs.size := by
  obtain ⟨o, ho, _⟩ := pl.isList
  exact Nat.ne_of_lt (Heap.lt_size ho)
 refine call_any_walk (wpAny_pyIter_list pl.isList ⟨s.heap.objs.size, _, _, its.toArray.size, _, _, fun j => (bs[j]?).getD true, rfl, Walks.list (show X.A.in1.handled = none from I.ok.hd hc) _ p hne its.toArray,
  ⟨⟨_, Heap.get?_push_size _ rfl, rfl, rfl⟩, pl.isList.at fun o e => Heap.get?_push_of_some _ e⟩, ?_, fun h' tk hk => ?_⟩)
 ·intro i v s' Q' E' hv hq
  have hv' : its[i]? = some v := by simpa using hv
  cases e : bs[i]? with
  | none =>
   exfalso
   have h1 : its.length ≤ i := by rw [← hl]; exact List.getElem?_eq_none_iff.mp e
   rw [List.getElem?_eq_none_iff.mpr h1] at hv'
   cases hv'
  | some b =>
   obtain ⟨u, hu, ru⟩ := rv.get (i := i) (x := .bl b) (by rw [List.getElem?_map, e]; rfl)
   rw [hv'] at hu
   cases hu
   cases (show v = Value.bool b from ru)
   dsimp only at hq
   rw [e] at hq
   exact wpAny_truthy_bool hq
 ·refine ⟨.bl _, H, I.kept (t' := tk) fun b o e => hk b o (fun z => ?_) (Heap.get?_push_of_some _ e), rfl, ?_⟩
  ·have z' : b = s.heap.objs.size := by simpa using z
   exact absurd (Heap.lt_size e) (by rw [z']; exact Nat.lt_irrefl _)
  ·have e : its.toArray.size = bs.length := by rw [List.size_toArray, hl]
   rw [e, any_getD]
   exact q
theorem gk_tup {K : PySem.W.Frag} {n : Nat} {t : TGs} (ht : ∀ xs σ' H' R R', (∀ σ3 H3, R σ3 H3 → R' σ3 H3) → t xs σ' H' R → t xs σ' H' R') (x : V) (σ' : L2.St) (H' : Hp) (R R' : L2.St → Hp → Prop) (h : ∀ σ3 H3, R σ3 H3 → R' σ3 H3) (z : gTup K n t x σ' H' R) : gTup K n t x σ' H' R' := by
 obtain ⟨a, xs, e, hq, hl, z⟩ := z
 exact ⟨a, xs, e, hq, hl, ht _ _ _ _ _ h z⟩
end
end Add
namespace Add
open PySem PySem.Spec PyProof.Rows L2
structure FunD (K : PySem.W.Frag) (x qual : Str) (st : Stmt) (f : Addr) (fd : FuncData) : Prop where
 ex : ∃ (oc dV kV doc pm cdv ct : Value) (od an : Option Addr) (osl : Array (Option Value)),
  fd = PySem.W.fnOf x qual (defArgs st) (defBody st) (defScope st) dV kV doc pm an cdv ct ∧ K.lookup f = some ⟨oc, od, .func fd, osl⟩ ∧ PySem.W.codeIn K cdv qual = true
 kp : PySem.W.keepIn K (.ref f) = true
section
variable {P : Program} {w : World} {K : PySem.W.Frag} {mg : Str → Option Value} {base : Heap}
theorem FunD.ok {x qual : Str} {st : Stmt} {f : Addr} {fd : FuncData} {N ps : List Str} {k : Nat} {sp : Sp} (F : FunD K x qual st f fd) (S : FnScope N ps (defScope st)) (len : ∀ vs H Q E, sp vs H Q E → vs.length = ps.length)
  (hbody : ∀ (cdv : Value) (A : Around) (outer : List Env) (s : Shared) (H : Hp) (vs : List V) (Q : VK) (E : XK), Room k (A.deeper (envOfC qual (defScope st) s.heap.objs.size f cdv)) → sp vs H Q E →
   ∃ t, PSs (cxOf CX0 P w K mg base N qual (defScope st) f cdv A outer s H E).nox (defBody st) t ∧ t { nx := fun _ H' => Q .non H', rt := Q } (start N vs) H) : FnOk P w K mg base CX0 (k + 1) f fd ps sp := by
 obtain ⟨oc, dV, kV, doc, pm, cdv, ct, od, an, osl, rfl, lk, hcd⟩ := F.ex
 refine fn_of lk hcd S len fun A outer s H vs Q E hr hsp => ?_
 obtain ⟨t, h, q⟩ := hbody cdv A outer s H vs Q E hr hsp
 exact ⟨t, h.nox, q⟩
theorem fund_mk {x qual : Str} {st : Stmt} {f : Addr} {oc : Value} {od an : Option Addr} {osl : Array (Option Value)} {dV kV doc pm cdv ct : Value} (l : K.lookup f = some ⟨oc, od, .func (PySem.W.fnOf x qual (defArgs st) (defBody st) (defScope st) dV kV doc pm an cdv ct), osl⟩)
  (c : PySem.W.codeIn K cdv qual = true) (k : PySem.W.keepIn K (.ref f) = true) : FunD K x qual st f (PySem.W.fnOf x qual (defArgs st) (defBody st) (defScope st) dV kV doc pm an cdv ct) := ⟨⟨oc, dV, kV, doc, pm, cdv, ct, od, an, osl, rfl, l, c⟩, k⟩
theorem bindsD {fd : FuncData} {ps : List Str} {ds : List Value} (h : ∀ us : List Value, (us ++ ds).length = ps.length → ∀ S, PySem.W.peek K S (bindArgs fd ⟨us, []⟩) = some (ps.zip (us ++ ds))) : Binds K fd ps ds := fun s us X hl => PySem.W.kp_binds X (h us hl)
end
structure MethD (K : PySem.W.Frag) (x qual : Str) (st : Stmt) (ps : List Str) (f : Addr) (fd : FuncData) : Prop where
 fn : FunD K x qual st f fd
 bd : Binds K fd ps []
 ty : PySem.W.typeIn K (.ref f) = some (.type "function")
end Add
namespace Add
open PySem PySem.Spec PyProof.Rows L2
section
variable {X : Cx} {a b c d : Expr} {ta tb tc td : TE} {pos : Pos}
noncomputable def tChain3 (r r' r2 : R2) (ta tb tc td : TE) : TE := fun σ H Q => ta σ H fun x H1 => tb σ H1 fun y H2 => r x y H2 fun z H3 => ∃ k, z = .bl k ∧
 (if k = true then tc σ H3 fun w' H4 => r' y w' H4 fun z' H5 => ∃ k', z' = .bl k' ∧ (if k' = true then td σ H5 fun u H6 => r2 w' u H6 Q else Q (.bl false) H5) else Q (.bl false) H3)
theorem pe_chain3 {op op' op2 : CmpOp} {r r' r2 : R2} (ho : OpR X (compareOp op) r) (ho' : OpR X (compareOp op') r') (ho2 : OpR X (compareOp op2) r2) (ha : PE X a ta) (hb : PE X b tb) (hc : PE X c tc) (hd : PE X d td)
  (hm : lastMarks [op, op', op2] [b, c, d] = false := by with_unfolding_all rfl) : PE X (.Compare a [op, op', op2] [b, c, d] pos) (tChain3 r r' r2 ta tb tc td) := by
 intro pins s σ H Q I h
 refine Compare_chain (thn (ha pins s σ H _ I h) fun v s1 ⟨x, H1, I1, r1, q1⟩ => chain_link (thn (hb pins s1 σ H1 _ I1 q1) fun u s2 ⟨y, H2, I2, ry, q2⟩ =>
  thn (ho pins s2 σ H2 x y v u _ I2 r1 ry q2) fun e s3 ⟨z, H3, I3, r3, k, ek, q3⟩ => ?_)) hm
 subst ek
 cases r3
 refine wpAny_truthy_bool ?_
 cases k with
 | false => exact ite_ff ⟨.bl false, H3, I3, rfl, q3⟩
 | true =>
  refine ite_tt (chain_link (thn (hc pins s3 σ H3 _ I3 q3) fun w' s4 ⟨z', H4, I4, r4, q4⟩ => thn (ho' pins s4 σ H4 y z' u w' _ I4 ry r4 q4) fun e' s5 ⟨z2, H5, I5, r5, k', ek', q5⟩ => ?_))
  subst ek'
  cases r5
  refine wpAny_truthy_bool ?_
  cases k' with
  | false => exact ite_ff ⟨.bl false, H5, I5, rfl, q5⟩
  | true => exact ite_tt (chain_last (thn (hd pins s5 σ H5 _ I5 q5) fun u' s6 ⟨z3, H6, I6, r6, q6⟩ => ho2 pins s6 σ H6 z' z3 w' u' Q I6 r4 r6 q6))
end
theorem pg_tupC {X : Cx} {K : PySem.W.Frag} (hK : X.K = K) {es : List Expr} {kk : _} {pos : Pos} {t : TGs} {n : Nat} (hc : X.calm = true) (h : PGs X es t)
  (hn : (assignEach es X.env).length = n := by rfl) (hst : (assignEach es X.env).findIdx? (·.1) = none := by rfl) : PG X (.Tuple es kk pos) (gTup K n t) := by
 subst hK; exact pg_tup hc h hn hst
theorem tups_map {α : Type} {H : Hp} {enc : α → List V} {f g : V → V} {h : α → V} : ∀ {rs : List α} {us : List V}, Tups H us (rs.map enc) → (∀ a r, H a = some (.tup (enc r)) → f (.ref a) = h r) → us.map f = rs.map h
 | [], us, t, _ => by cases t; rfl
 | r :: rs, us, t, k => by
  cases t with
  | cons q t => rw [List.map_cons, List.map_cons, k _ _ q, tups_map (g := g) t k]
theorem inV_ints (x : Int) (xs : List Int) : inV (.int x) (xs.map V.int) = xs.contains x := by
 unfold inV
 rw [List.any_map, List.contains_eq_any_beq]
 congr 1
 funext y
 show (y == x) = (x == y)
 rw [Bool.eq_iff_iff, beq_iff_eq, beq_iff_eq]
 exact eq_comm
theorem flat_ints (xs : List Int) : (xs.map V.int).all flatV = true := by rw [List.all_map]; exact List.all_eq_true.mpr fun _ _ => rfl
end Add
namespace Tab
open Mrg Lay
noncomputable def fy (wk : List Int) (yr : List S2) (i : Int) : Bool := wk.contains (i % 7 + 1) || inB yr i
noncomputable def fdL (wk : List Int) (yr : List S2) : List Bool := (List.range 371).map fun i => fy wk yr (i : Nat)
theorem fdL_len (wk : List Int) (yr : List S2) : (fdL wk yr).length = 371 := by unfold fdL; rw [List.length_map, List.length_range]
noncomputable def opn (bs : List Bool) (k : Nat) : Int := (((bs.take k).filter fun b => !b).length : Nat)
noncomputable def cuL (bs : List Bool) : List Int := (List.range (bs.length + 1)).map fun k => opn bs k
theorem cuL_at (bs : List Bool) {k : Nat} (h : k ≤ bs.length) : (cuL bs)[k]? = some (opn bs k) := by
 unfold cuL
 rw [List.getElem?_map, List.getElem?_range (by omega)]
 rfl
theorem opn_succ {bs : List Bool} {k : Nat} {b : Bool} (h : bs[k]? = some b) : opn bs (k + 1) = if b = true then opn bs k else opn bs k + 1 := by
 unfold opn
 rw [List.take_add_one, h, List.filter_append]
 cases b <;> simp
theorem opn_le (bs : List Bool) (k : Nat) : 0 ≤ opn bs k ∧ opn bs k ≤ bs.length := by
 unfold opn
 have h1 := List.length_filter_le (fun b => !b) (bs.take k)
 have h2 : (bs.take k).length ≤ bs.length := by rw [List.length_take]; omega
 omega
noncomputable def odL (bs : List Bool) : List Int := ((List.range bs.length).filter fun i => !(bs.getD i true)).map fun (i : Nat) => (i : Int)
structure OkW (wk : List Int) : Prop where
 len : wk.length ≤ 6
 nd : wk.Nodup
 rng : ∀ x ∈ wk, 1 ≤ x ∧ x ≤ 7
structure OkY (yr : List S2) : Prop where
 len : yr.length ≤ 4
 rng : ∀ r ∈ yr, 0 ≤ r.1 ∧ r.1 ≤ r.2 ∧ r.2 < r.1 + 30 ∧ r.2 < 364
end Tab
namespace Add
open PySem PySem.Spec PyProof.Rows L2
section
variable {X : Cx} {tg : Expr}
end
end Add
namespace Rev
open PySem PyProof.Rows
set_option maxRecDepth 100000
section
variable {prog : Program} {w : World} {A : Around} {s : Shared} {R : Result → Shared → Prop} {E : Value → Shared → Prop}
variable {I : Addr} {fp wr : List Addr} {G : Array GenState → Array GenState → Prop} {n : Nat} {P : Nat → Value → Prop} {St : Nat → Shared → Prop}
end
end Rev
namespace Add
open PySem PySem.Spec PyProof.Rows L2
section
variable {X : Cx}
end
end Add
namespace Lay
theorem word_out {W : Type} [DecidableEq W] (d : Int) : ∀ (qs : List (Row W)) (a : W), (∀ s ∈ qs, ¬ (s.1 ≤ d ∧ d ≤ s.2.1)) → wordF a qs d = a
 | [], _, _ => rfl
 | r :: qs, a, h => by
  rw [word_cons, if_neg (h r List.mem_cons_self)]
  exact word_out d qs a fun s hs => h s (List.mem_cons_of_mem _ hs)
theorem word_code {W : Type} [DecidableEq W] (a : W) (d : Int) : ∀ {qs : List (Row W)}, Dis qs → wordF a qs d = (match qs[cnt (ends qs) d]? with | some r => if r.1 ≤ d then r.2.2 else a | none => a)
 | [], _ => rfl
 | r :: qs, h => by
  have pw := List.pairwise_cons.mp h.pw
  have h' : Dis qs := ⟨fun s hs => h.ok s (List.mem_cons_of_mem _ hs), pw.2⟩
  have e : ends (r :: qs) = r.2.1 :: ends qs := rfl
  rw [word_cons, e, cnt_cons]
  by_cases c : r.2.1 < d
  ·rw [if_neg (fun z => Int.not_lt.mpr z.2 c), if_pos c, List.getElem?_cons_succ]
   exact word_code a d h'
  ·rw [if_neg c, cnt_zero (fun e he z => by
    obtain ⟨s, hs, rfl⟩ := List.mem_map.mp he
    exact c (Int.lt_trans (Int.lt_of_lt_of_le (pw.1 s hs) (h'.ok s hs)) z))]
   rw [word_out d qs _ fun s hs z => c (Int.lt_of_lt_of_le (pw.1 s hs) z.1)]
   show _ = if r.1 ≤ d then r.2.2 else a
   by_cases c2 : r.1 ≤ d
   ·rw [if_pos ⟨c2, Int.not_lt.mp c⟩, if_pos c2]
   ·rw [if_neg fun z => c2 z.1, if_neg c2]
theorem word_in {W : Type} [DecidableEq W] (S : W → Prop) (d : Int) : ∀ (qs : List (Row W)) (a : W), S a → (∀ s ∈ qs, S s.2.2) → S (wordF a qs d)
 | [], _, h, _ => h
 | r :: qs, a, h, hs => by
  rw [word_cons]
  refine word_in S d qs _ ?_ fun s z => hs s (List.mem_cons_of_mem _ z)
  split
  ·exact hs r List.mem_cons_self
  ·exact h
end Lay
namespace Add
open PySem PySem.Spec PyProof.Rows L2
end Add
namespace Add
open PySem PySem.Spec PyProof.Rows L2
section
variable {X : Cx} {CX : CXT} {k : Nat} {f C : Addr} {fd : FuncData} {ps ks : List Str} {sp : Sp} {E : XK} {x : Str} {p pos : Pos} {e : Expr} {es : List Expr} {kws : List Keyword} {t tk : TA} {g : List Value → List Value → List Value} {gV : List V → List V → List V}
end
noncomputable def g21 {α : Type} (n : α) : List α → List α → List α
 | [a, b], [c] => [a, b, n, c]
 | _, _ => []
section
variable {X : Cx}
end
end Add
namespace Add
open PySem PySem.Spec PyProof.Rows L2
section
variable {X : Cx}
end
end Add
namespace Add
open PySem PySem.Spec PyProof.Rows L2
noncomputable def tMethF {ι : Type} (C : ι → Addr) (m : Str) (sp : ι → Sp) (dvs : List V) (E : XK) (ta : TE) (t : TA) : TE := fun σ H Q => ta σ H fun x H1 => ∃ (i : ι) (a dx : Addr) (fs : List (Str × V)), x = .ref a ∧ H1 a = some (.ins (C i) dx fs) ∧ fs.lookup m = none ∧
 t σ H1 fun vs H2 => sp i (x :: (vs ++ dvs)) H2 Q E
section
variable {X : Cx} {CX : CXT} {ι : Type} {k : ι → Nat} {f C : ι → Addr} {fd : ι → FuncData} {ps : ι → List Str} {sp : ι → Sp} {dvs : List V} {ds : List Value} {E : XK} {m : Str} {pos apos : Pos} {e o : Expr} {es : List Expr} {ta : TE} {t : TA}
theorem pe_methF {pl : Sem Bool} (he : PE X o ta) (c : ∀ i, Cls X.K (C i)) (hm : ∀ i, Meth X.K (C i) m (f i)) (F : ∀ i, FnOk X.prog X.w X.K X.mg X.base CX (k i) (f i) (fd i) (ps i) (sp i)) (hr : ∀ i, Room (k i) X.A) (hb : ∀ i, Binds X.K (fd i) (ps i) ds) (hd : Vals dvs ds) (hx : Passes CX X E) (ha : PA X (e :: es) t)
  (hst : starEach (e :: es) X.env = (false, eval e X.env) :: starEach es X.env := by rfl) (hpl : (backTo pos (starEach es X.env)).any (·.1) = false := by rfl)
  (ht : eval (.Call (.Attribute o m apos) (e :: es) [] pos) X.env = (do
   let ov ← eval o X.env
   standAt apos.atName
   let (f, first) ← holding [ov] (getMethod ov m pl)
   callWith pos f first (backTo pos (starEach (e :: es) X.env)) (backToKw pos (keywordEach [] X.env))) := by rfl) :
  PE X (.Call (.Attribute o m apos) (e :: es) [] pos) (tMethF C m sp dvs E ta t) := by
 intro pins s σ H Q I h
 refine PySem.W.methodCall_KW (pl := pl) (thn (he pins s σ H _ I h) fun u s1 ⟨x, H1, I1, rx, i, a, dx, fs, ex, ea, l, q⟩ => ?_) ht
 subst ex
 obtain rfl : u = Value.ref a := rx
 refine getmeth_ok I1 ea (c i) (hm i) l ?_
 refine PySem.W.callWith_K (first := [.ref a]) (h₀ := X.base) I.ok.mod.kin (hm i).kp (thn (ha pos pins s1 σ H1 _ I1 q) fun us s2 ⟨vs, H2, I2, r, q2⟩ => ⟨I2.kIn, ?_⟩) hst hpl
 exact run_fn (us := .ref a :: us) (vs := .ref a :: vs) (F i) (hr i) (hb i) hd hx I2 (.cons rfl r) q2
end
inductive Three where
 | a | b | c
noncomputable def sel3 {α : Type} (x y z : α) : Three → α
 | .a => x
 | .b => y
 | .c => z
theorem all3 {p : Three → Prop} (x : p .a) (y : p .b) (z : p .c) : ∀ i, p i
 | .a => x
 | .b => y
 | .c => z
section
variable {X : Cx}
end
section
variable {K : PySem.W.Frag} {C : Addr}
noncomputable def insB (K : PySem.W.Frag) (C : Addr) : Bool := (PySem.W.findIn K (.ref C) "__class__" == some (some (.builtin "object.__class__"))) && (PySem.W.specialIn K (.builtin "object.__class__") "__get__" == some (some (.builtin "getset_descriptor.__get__"))) && (PySem.W.takesIn K (.builtin "object.__class__") == some true) && (PySem.W.mroIn K C (.type "object") == some true)
end
section
variable {X : Cx} {tg : Expr}
end
end Add
namespace Add
open PySem PySem.Spec PyProof.Rows L2
theorem tys_vals : ∀ {cs : List String} {its : List Value}, Vals (cs.map V.ty) its → its = cs.map Value.type
 | [], _, .nil => rfl
 | c :: cs, _, .cons a r => by
  have := tys_vals r
  rw [List.map_cons, ← this]
  exact congrArg (· :: _) a
section
variable {X : Cx}
inductive PlTy (H : Hp) : V → String → Prop where
 | non : PlTy H .non "NoneType"
 | bl (x : Bool) : PlTy H (.bl x) "bool"
 | int (i : Int) : PlTy H (.int i) "int"
 | str (x : Str) : PlTy H (.str x) "str"
 | lst {a : Addr} {xs : List V} (e : H a = some (.lst xs)) : PlTy H (.ref a) "list"
 | tup {a : Addr} {xs : List V} (e : H a = some (.tup xs)) : PlTy H (.ref a) "tuple"
theorem call_isiT : CallR X (.builtin "isinstance") (fun xs H Q => ∃ (x : V) (n : String) (tp : Addr) (cs : List String) (b : Bool), xs = [x, .ref tp] ∧ PlTy H x n ∧ H tp = some (.tup (cs.map V.ty)) ∧ PySem.W.kitAny X.K (.type n) (cs.map Value.type) = some b ∧ Q (.bl b) H) := by
 intro pins s σ H xs us Q I r h
 obtain ⟨x, n, tp, cs, b, rfl, ty, et, kk, q⟩ := h
 obtain ⟨u, u', rfl, r1, r2⟩ := Vals.two r
 cases r2
 obtain ⟨_, its, ri, p⟩ := (show ObjOk X.prog X.w H s.heap tp (.tup (cs.map V.ty)) from I.hok tp _ et)
 cases tys_vals ri
 obtain ⟨⟨oc, od', dt, sl'⟩, ho, hc, m, hd⟩ := p
 cases hc
 cases hd
 have fin : ∀ tk, EP X pins σ Q (.bool b) { s with toks := tk } := fun tk => ⟨.bl b, H, I.tok tk, rfl, q⟩
 cases ty with
 | non => cases (show u = Value.none from r1); exact PySem.W.kia_tup PySem.W.kitx_none I.kIn True.intro ho kk (fun z => nomatch z) fin
 | bl y => cases (show u = Value.bool y from r1); exact PySem.W.kia_tup PySem.W.kitx_bool I.kIn True.intro ho kk (fun z => nomatch z) fin
 | int i => obtain ⟨t, q⟩ := (show ∃ t, u = Value.int i t from r1); cases q; exact PySem.W.kia_tup PySem.W.kitx_int I.kIn True.intro ho kk (fun z => nomatch z) fin
 | str y => obtain ⟨t, q⟩ := (show ∃ t, u = Value.str y t from r1); cases q; exact PySem.W.kia_tup PySem.W.kitx_str I.kIn True.intro ho kk (fun z => nomatch z) fin
 | @lst a xs ea =>
  cases (show u = Value.ref a from r1)
  obtain ⟨_, _, n, _, h1⟩ := (show ObjOk X.prog X.w H s.heap a (.lst xs) from I.hok a _ ea)
  exact PySem.W.kia_tup PySem.W.kitx_list I.kIn ⟨_, h1, rfl⟩ ho kk (fun z => nomatch z) fin
 | @tup a xs ea =>
  cases (show u = Value.ref a from r1)
  obtain ⟨_, _, _, p⟩ := (show ObjOk X.prog X.w H s.heap a (.tup xs) from I.hok a _ ea)
  obtain ⟨o, h1, h2, _⟩ := p
  exact PySem.W.kia_tup PySem.W.kitx_tuple I.kIn ⟨o, h1, h2⟩ ho kk (fun z => nomatch z) fin
theorem strs_are : ∀ {ss : List Str} {its : List Value}, Vals (ss.map V.str) its → StrsAre its ss
 | [], _, .nil => .nil
 | y :: ss, _, .cons a r => by
  obtain ⟨t, rfl⟩ := a
  exact .cons y t (strs_are r)
theorem are_strs : ∀ {ss : List Str} {its : List Value}, StrsAre its ss → Vals (ss.map V.str) its
 | [], _, .nil => .nil
 | _ :: _, _, .cons y t h => .cons ⟨t, rfl⟩ (are_strs h)
theorem call_sortedS : CallR X (.builtin "sorted") (fun xs H Q => ∃ (p : Addr) (ss : List Str), xs = [.ref p] ∧ SqL X.K H p (ss.map V.str) ∧ ss.length < 64 ∧ ∀ (q : Addr) (ss' : List Str), H q = none → ss'.Perm ss → Q (.ref q) (upd H q (.lst (ss'.map V.str)))) := by
 intro pins s σ H xs vs Q I r h
 obtain ⟨p, ss, rfl, hq, h64, q⟩ := h
 obtain ⟨u, rfl, hu⟩ := vals1 r
 cases rel_ref hu
 obtain ⟨its, rv, pl, hz⟩ := I.list hq
 have l1 := rv.length
 rw [List.length_map] at l1
 refine sorted_strs pl.isList (strs_are rv) (by omega) fun out ss' ha hp hs => ?_
 obtain ⟨e, he⟩ := sortedAll_at s.heap its out
 refine ⟨.ref (s.heap.objs.size + 1), upd H (s.heap.objs.size + 1) (.lst (ss'.map V.str)), I.laid (t' := s.toks) (fun b u e => sortedAll_old e) (Nat.le_succ _) ?_, rfl, q _ ss' (I.hok.fresh (Nat.le_succ _)) hp⟩
 have hl := hp.length_eq
 refine ⟨by rw [List.length_map, hl]; exact Nat.le_of_lt (small1000 (by omega)), out.toList, e, are_strs ha, ?_⟩
 exact he
noncomputable def rIxB (K : PySem.W.Frag) : R2 := fun x y H Q => rIxL K x y H Q ∨ rIxT K x y H Q
theorem ix_both : IxR X (rIxB X.K) := by
 intro value slice pins s σ H x y v u Q I rx ry h hs
 rcases h with h | h
 ·exact zr value slice pins s σ H x y v u Q I rx ry h hs
 ·exact zq value slice pins s σ H x y v u Q I rx ry h hs
end
end Add
namespace Add
open PySem PySem.Spec PyProof.Rows L2
inductive EqI (H : Hp) : V → V → Bool → Prop where
 | flat {x y : V} (h1 : flatV x = true) (h2 : flatV y = true) : EqI H x y (eqV x y)
 | rows {p q : Addr} {us ws : List V} {ts rs : List (List V)} (h1 : H p = some (.lst us)) (h2 : H q = some (.lst ws)) (t1 : Tups H us ts) (t2 : Tups H ws rs) (f1 : ts.all (·.all flatV) = true) (f2 : rs.all (·.all flatV) = true) : EqI H (.ref p) (.ref q) (eqTs ts rs)
inductive EqIs (H : Hp) : List V → List V → List Bool → Prop where
 | nil : EqIs H [] [] []
 | cons {x y : V} {b : Bool} {xs ys : List V} {bs : List Bool} (h : EqI H x y b) (t : EqIs H xs ys bs) : EqIs H (x :: xs) (y :: ys) (b :: bs)
theorem Tups.det {H : Hp} {us : List V} {ts : List (List V)} (t : Tups H us ts) : ∀ {rs}, Tups H us rs → ts = rs := by
 induction t with
 | nil => intro rs r; cases r; rfl
 | cons h _ ih =>
  intro rs r
  cases r with
  | cons h' t' =>
   rw [h] at h'
   injection h' with h'
   injection h' with h'
   rw [h', ih t']
theorem EqIs.len {H : Hp} {xs ys : List V} {bs : List Bool} (t : EqIs H xs ys bs) : xs.length = bs.length ∧ ys.length = bs.length := by
 induction t with
 | nil => exact ⟨rfl, rfl⟩
 | cons _ _ ih => rw [List.length_cons, List.length_cons, List.length_cons, ih.1, ih.2]; exact ⟨rfl, rfl⟩
theorem EqIs.get {H : Hp} {xs ys : List V} {bs : List Bool} (t : EqIs H xs ys bs) : ∀ {i : Nat} {x y : V}, xs[i]? = some x → ys[i]? = some y → EqI H x y (bs.getD i true) := by
 induction t with
 | nil => intro i x y h; cases i <;> cases h
 | cons h _ ih =>
  intro i x y h1 h2
  cases i with
  | zero => cases h1; cases h2; exact h
  | succ i => exact ih (i := i) h1 h2
theorem all_getB : ∀ bs : List Bool, (List.range bs.length).all (fun j => bs.getD j true) = bs.all id
 | [] => rfl
 | b :: bs => by
  have ih := all_getB bs
  rw [List.length_cons, List.range_succ_eq_map, List.all_cons, List.all_map, List.all_cons, ← ih]
  rfl
section
variable {X : Cx}
theorem eqI_at {A : Around} {pins : List (Addr × Obj)} {σ : L2.St} {H : Hp} {s : Shared} (I : Inv X pins σ H s) (hu : A.units + 1 < cLine) {x y : V} {u w : Value} {b : Bool} (ru : RelV x u) (rw' : RelV y w) (h : EqI H x y b) : SeqAt.EqAt A s u w b := by
 cases h with
 | flat h1 h2 => exact eqAt_V ru rw' h1 h2
 | @rows p q us ws ts rs h1 h2 t1 t2 f1 f2 =>
  cases ru
  cases rw'
  by_cases hpq : p = q
  ·subst hpq
   rw [h1] at h2
   injection h2 with h2
   injection h2 with h2
   subst h2
   rw [t1.det t2, eqTs_self f2]
   exact SeqAt.EqAt.same _
  ·refine SeqAt.EqAt.of_refs hpq ?_
   obtain ⟨its, r1, p1, _⟩ := I.list (SqL.of h1)
   obtain ⟨its2, r2, p2, _⟩ := I.list (SqL.of h2)
   have l1 := r1.length
   have l2 := r2.length
   have m1 := t1.length
   have m2 := t2.length
   by_cases hz : ts.length = rs.length
   ·have z := SeqAt.RcAt.lists (A := A) p1.isList p2.isList (by rw [List.size_toArray, List.size_toArray]; omega) (by omega) (tups_eq I (A := A.in1) (by have : A.in1.units = A.units + 1 := rfl; omega) r1 r2 t1 t2 f1 f2)
    rw [List.size_toArray, ← l1, m1, all_eTs hz] at z
    exact z
   ·rw [eqTs_len hz]
    exact SeqAt.RcAt.lists_lengths p1.isList p2.isList (bne_iff_ne.mpr (by rw [List.size_toArray, List.size_toArray]; omega)) (by omega)
noncomputable def rNeTI (K : PySem.W.Frag) : R2 := fun x y H Q => ∃ a b xs ys bs, x = .ref a ∧ y = .ref b ∧ SqT K H a xs ∧ SqT K H b ys ∧ EqIs H xs ys bs ∧ Q (.bl (!bs.all id)) H
theorem op_neTI (hu : X.A.units + 64 < cLine) : OpR X (compareOp .NotEq) (rNeTI X.K) := by
 intro pins s σ H x y v u Q I rx ry h
 obtain ⟨a, b, xs, ys, bs, rfl, rfl, ha, hb, t, q⟩ := h
 cases rx
 cases ry
 obtain ⟨its, r1, p1, _⟩ := I.tuple ha
 obtain ⟨its2, r2, p2, _⟩ := I.tuple hb
 have l1 := r1.length
 have l2 := r2.length
 obtain ⟨m1, m2⟩ := t.len
 refine SeqAt.RcNeAt.tuples (e := fun j => bs.getD j true) (show s.heap.IsTuple a its.toArray from p1) (show s.heap.IsTuple b its2.toArray from p2) (by omega) ?_ _ _ _ _ ?_
 ·intro j h1 h2
  have g1 : j < xs.length := by rw [l1]; simpa using h1
  have g2 : j < ys.length := by rw [l2]; simpa using h2
  obtain ⟨u, hu', ru⟩ := r1.get (i := j) (x := xs[j]) (by simp [g1])
  obtain ⟨w, hw, rw'⟩ := r2.get (i := j) (x := ys[j]) (by simp [g2])
  have e1 : its.toArray[j] = u := by
   have : its[j]? = some its[j] := by simp
   rw [this] at hu'
   simpa using Option.some.inj hu'
  have e2 : its2.toArray[j] = w := by
   have : its2[j]? = some its2[j] := by simp
   rw [this] at hw
   simpa using Option.some.inj hw
  rw [e1, e2]
  exact eqI_at I (by have : X.A.in1.units = X.A.units + 1 := rfl; omega) ru rw' (t.get (i := j) (by simp [g1]) (by simp [g2]))
 ·have e : ((List.range (min its.toArray.size its2.toArray.size)).all (fun j => bs.getD j true) && (its.toArray.size == its2.toArray.size)) = bs.all id := by
   rw [← all_getB, List.size_toArray, List.size_toArray, ← l1, ← l2, m1, m2, Nat.min_self, beq_self_eq_true, Bool.and_true]
  rw [e]
  exact ⟨.bl (!bs.all id), H, I, rfl, q⟩
noncomputable def rIndexS : V → List V → Hp → VK → Prop := fun x vs H Q => ∃ (l : Addr) (ss : List Str) (k : Str) (j : Nat), x = .ref l ∧ vs = [.str k] ∧ H l = some (.lst (ss.map V.str)) ∧ ss[j]? = some k ∧ (∀ m, m < j → ss[m]? ≠ some k) ∧ Q (.int (j : Int)) H
theorem are_at {its : List Value} {ss : List Str} (r : StrsAre its ss) : ∀ {m : Nat} {z : Str}, ss[m]? = some z → ∃ t, its[m]? = some (.str z t) := by
 induction r with
 | nil => intro m z h; cases h
 | cons y t _ ih =>
  intro m z h
  cases m with
  | zero => cases h; exact ⟨_, rfl⟩
  | succ m => exact ih h
theorem are_len {its : List Value} {ss : List Str} (r : StrsAre its ss) : its.length = ss.length := by
 induction r with
 | nil => rfl
 | cons _ _ _ ih => rw [List.length_cons, List.length_cons, ih]
theorem mt_indexS : MtR X "list.index" rIndexS := by
 intro pins s σ H x vs v us Q I rx rv h
 obtain ⟨l, ss, k, j, rfl, rfl, hH, hj, hno, q⟩ := h
 cases rx
 obtain ⟨u, rfl, ru⟩ := rv.one
 obtain ⟨t, rfl⟩ := ru
 obtain ⟨z, its, n, r, hl, e⟩ := I.lstM hH
 have sa := strs_are r
 have la := are_len sa
 obtain ⟨hjl, _⟩ := List.getElem?_eq_some_iff.mp hj
 rw [List.length_map, sizeLine_eq] at z
 have at' : ∀ {m : Nat} (hm : m < its.toArray.size) {y : Str}, ss[m]? = some y → isStrOf k its.toArray[m] = (y == k) := fun {m} hm {y} h => by
  obtain ⟨t', e'⟩ := are_at sa h
  have : its.toArray[m] = .str y t' := by
   have h2 : its[m]? = some its[m] := by simp
   rw [h2] at e'
   simpa using Option.some.inj e'
  rw [this]; rfl
 refine call_meets F.slot_list_index ⟨_, e, rfl⟩ F.entry_list_index (F.args_list_index_2 _ _)
  (SeqAt.list_indexAt l its.toArray n _ _ (.str k t) (isStrOf k) j (by rw [List.size_toArray]; omega) (by omega) ?_ ?_) ⟨e, fun y hy => (eq_isStrOf k t sa y (by simpa using hy)).at _ _, ?_⟩
 ·rw [at' _ hj]; exact beq_self_eq_true k
 ·intro m hm hlt
  obtain ⟨y, hy⟩ : ∃ y, ss[m]? = some y := ⟨_, List.getElem?_eq_getElem (by omega)⟩
  rw [at' hm hy]
  cases eb : y == k with
  | false => rfl
  | true => rw [eq_of_beq eb] at hy; exact absurd hy (hno m hlt)
 ·exact ⟨.int (j : Int), H, I.tok _, ⟨_, rfl⟩, q⟩
noncomputable def tPar3 (i j k : Nat) (ta : TA) : TS := fun D σ H => ta σ H fun vs H1 => ∃ a b c, vs = [a, b, c] ∧ D.nx (((σ.set k (some c)).set j (some b)).set i (some a)) H1
theorem vals3 {a b c : V} {us : List Value} (r : Vals [a, b, c] us) : ∃ p q t, us = [p, q, t] ∧ RelV a p ∧ RelV b q ∧ RelV c t := by
 cases r with
 | cons h1 r =>
  obtain ⟨q, t, rfl, h2, h3⟩ := Vals.two r
  exact ⟨_, q, t, rfl, h1, h2, h3⟩
theorem ps_par3 {i j k : Nat} {x y z : Str} {a b c : Expr} {ta : TA} {px py pz pt pos : Pos} {kt k2 pt2} (hc : X.calm = true) (hN : X.N.Nodup) (hi : X.N[i]? = some x) (hj : X.N[j]? = some y) (hk : X.N[k]? = some z)
  (hx : X.env.scope.names.lookup x = some .local) (hy : X.env.scope.names.lookup y = some .local) (hz : X.env.scope.names.lookup z = some .local) (ha : PA X [a, b, c] ta)
  (hw : swappedStores [.Tuple [.Name x px, .Name y py, .Name z pz] kt pt] (.Tuple [a, b, c] k2 pt2) X.env = pure (some [x, y, z]))
  (hs : swapsWithSole [.Tuple [.Name x px, .Name y py, .Name z pz] kt pt] (.Tuple [a, b, c] k2 pt2) pos.line X.env = pure false) :
  PS X (.Assign [.Tuple [.Name x px, .Name y py, .Name z pz] kt pt] (.Tuple [a, b, c] k2 pt2) pos) (tPar3 i j k ta) := by
 intro pins s σ H D I h
 rw [exec_Assign_arm, hs]
 refine wpAny_bind (wpAny_standAt (wpAny_bind (wpAny_pure ?_)))
 rw [if_neg (by decide : ¬ false = true)]
 refine wpAny_bind (Tuple_ (thn (ha _ pins s σ H _ I h) fun us s1 ⟨vs, H1, I1, r1, u, v, w, e1, q1⟩ => ?_))
 subst e1
 obtain ⟨p1, p2, p3, rfl, ra, rb, rc⟩ := vals3 r1
 refine wpAny_newObj_type ?_ (show 3 ≤ sizeLine by decide)
 have I2 : Inv X pins σ H1 { s1 with heap := s1.heap.push { cls := .type "tuple", data := .seq [p1, p2, p3].toArray } } := I1.kept (t' := s1.toks) fun _ _ q => Heap.get?_push_of_some _ q
 rw [hw]
 refine wpAny_bind (wpAny_pure (show wpAny (model X.prog X.w) X.A (do rule "assign.swapped-stores"; let items ← unpackItems (.ref s1.heap.objs.size) 3 none; assignInOrder [fun v => bindName X.env z v, fun v => bindName X.env y v, fun v => bindName X.env x v] items.reverse; pure Flow.next) _ _ _ from ?_))
 refine wpAny_bind (wpAny_rule (wpAny_bind (unpackItems_tuple (items := #[p1, p2, p3]) (I.ok.hd hc) (IsTup.new s1.heap _) fun g hg => ?_)))
 have I3 := I2.kept (h' := g) (t' := s1.toks) fun b o q => hg b o (Nat.ne_of_lt (Heap.lt_size q)) q
 refine wpAny_bind (show wpAny _ _ (assignInOrder [fun v => bindName X.env z v, fun v => bindName X.env y v, fun v => bindName X.env x v] [p3, p2, p1]) _ _ _ from ?_)
 refine assignInOrder_cons (wpAny_bindName (store_ok I3 hN hk (.inl hz) rc (fun s2 I4 => ?_) (.inr hz)))
 refine assignInOrder_cons (wpAny_bindName (store_ok I4 hN hj (.inl hy) rb (fun s3 I5 => ?_) (.inr hy)))
 refine assignInOrder_cons (wpAny_bindName (store_ok I5 hN hi (.inl hx) ra (fun s4 I6 => assignInOrder_nil (wpAny_pure ⟨_, H1, I6, q1⟩)) (.inr hx)))
end
end Add
namespace Cal
noncomputable def lb (y : Int) : Int := (3 * y + 14) / 17
noncomputable def fw (y : Int) : Int := 52 * y + (3 * y + 14) / 17
noncomputable def yo (w : Int) : Int := (17 * w + 2) / 887
noncomputable def wk (y : Int) : Int := if 3 * y % 17 < 3 then 53 else 52
theorem fw_next (y : Int) : fw (y + 1) = fw y + wk y := by
 unfold fw wk
 rw [show 3 * (y + 1) + 14 = 3 * y + 17 by omega, show 52 * (y + 1) = 52 * y + 52 by omega]
 generalize 3 * y = z
 split <;> omega
theorem wk_in (y : Int) : 52 ≤ wk y ∧ wk y ≤ 53 := by unfold wk; split <;> omega
theorem lies (w : Int) : fw (yo w) ≤ w ∧ w < fw (yo w + 1) := by unfold fw yo; omega
theorem yo_uniq {w y : Int} (h1 : fw y ≤ w) (h2 : w < fw (y + 1)) : yo w = y := by unfold fw at *; unfold yo; omega
theorem fw_nn {y : Int} (h : 0 ≤ y) : 0 ≤ fw y := by unfold fw; omega
theorem lb_up (n : Int) : (3 * (n + 1) + 14) / 17 = (3 * n + 14) / 17 + (wk n - 52) := by
 have := fw_next n
 unfold fw at this; omega
structure Ok (y w d : Int) : Prop where
 y0 : 0 ≤ y
 w1 : 1 ≤ w
 w2 : w ≤ wk y
 d1 : 1 ≤ d
 d2 : d ≤ 7
noncomputable def dn (y w d : Int) : Int := 7 * (fw y + w - 1) + d - 1
noncomputable def cell (ns : List Int) (k : Int) : Int := ns.getD k.toNat 0
end Cal
namespace K53
open PySem L2 Add
noncomputable def top (i : Nat) : Stmt := PySem.Challenge.pw_termcourt_k53_anew_and_over.main.body.getD i (.Pass ⟨0, 0, 0, 0⟩)
noncomputable abbrev sCountingInit : Stmt := inClass (top 3) 0
noncomputable abbrev sKindOf : Stmt := top 6
noncomputable abbrev sIsWhole : Stmt := top 8
noncomputable abbrev sIsStretchOf : Stmt := top 10
noncomputable abbrev sPlace : Stmt := top 11
noncomputable abbrev sJoined : Stmt := top 14
noncomputable abbrev sLaidOver : Stmt := top 13
noncomputable abbrev sOverlay : Stmt := top 12
noncomputable abbrev sCountingDaysFor : Stmt := inClass (top 3) 1
noncomputable abbrev sWeeksDaysFor : Stmt := inClass (top 4) 0
noncomputable abbrev sCountingReach : Stmt := inClass (top 3) 4
noncomputable abbrev sLongBefore : Stmt := top 28
noncomputable abbrev sPatternBeforeYear : Stmt := inClass (top 40) 3
noncomputable abbrev sPatternYearWith : Stmt := inClass (top 40) 5
noncomputable abbrev sFirstWeek : Stmt := top 29
noncomputable abbrev sPatternNth : Stmt := inClass (top 40) 4
noncomputable abbrev sYearOf : Stmt := top 30
noncomputable abbrev sWeekday : Stmt := top 32
noncomputable abbrev sDateOf : Stmt := top 31
noncomputable abbrev sDayOfYear : Stmt := top 41
noncomputable abbrev sPatternBefore : Stmt := inClass (top 40) 2
noncomputable abbrev sTableShift : Stmt := inClass (top 52) 1
noncomputable abbrev sTableBefore : Stmt := inClass (top 52) 3
noncomputable abbrev sTableNth : Stmt := inClass (top 52) 4
noncomputable abbrev sCourtDaysReach : Stmt := inClass (top 5) 2
noncomputable abbrev sCountingCountedIn : Stmt := inClass (top 3) 3
noncomputable abbrev sCourtDaysCountedIn : Stmt := inClass (top 5) 1
noncomputable abbrev sFullDay : Stmt := top 16
noncomputable abbrev sTableNextOpen : Stmt := inClass (top 52) 5
noncomputable abbrev sFirstDue : Stmt := top 18
noncomputable abbrev sLastDay : Stmt := top 17
noncomputable abbrev sIsFreeWithin : Stmt := top 42
noncomputable abbrev sCountedUp : Stmt := top 43
noncomputable abbrev sIsWeekday : Stmt := top 45
noncomputable abbrev sRefuseWeek : Stmt := top 44
noncomputable abbrev sIsYearly : Stmt := top 47
noncomputable abbrev sRefuseYearly : Stmt := top 46
noncomputable abbrev sListOrEmpty : Stmt := top 53
noncomputable abbrev sIsRow : Stmt := top 55
noncomputable abbrev sRefuseRows : Stmt := top 54
noncomputable abbrev sLawCellAt : Stmt := top 57
noncomputable abbrev sLawWords : Stmt := top 58
noncomputable abbrev sLawAlike : Stmt := top 59
noncomputable abbrev sLawLast : Stmt := top 60
noncomputable abbrev sLawShut : Stmt := top 61
noncomputable abbrev sLawTurned : Stmt := top 62
noncomputable abbrev sRuleInit : Stmt := inClass (top 22) 0
noncomputable abbrev sLawRule : Stmt := top 63
noncomputable abbrev sRunIsOver : Stmt := inClass (top 20) 4
noncomputable abbrev sRunStartsOn : Stmt := inClass (top 20) 2
noncomputable abbrev sRunLastsTo : Stmt := inClass (top 20) 3
noncomputable abbrev sRunStateWord : Stmt := inClass (top 20) 15
noncomputable abbrev sRunAccount : Stmt := inClass (top 20) 14
noncomputable abbrev sLawTold : Stmt := top 64
noncomputable abbrev sLawDue : Stmt := top 65
noncomputable abbrev sLawRole : Stmt := top 66
noncomputable abbrev sRunSetOut : Stmt := inClass (top 20) 1
noncomputable abbrev sRunInit : Stmt := inClass (top 20) 0
noncomputable abbrev sPatternInit : Stmt := inClass (top 40) 0
noncomputable abbrev sTableInit : Stmt := inClass (top 52) 0
noncomputable abbrev sRuleRoleInStill : Stmt := inClass (top 22) 2
noncomputable abbrev sRuleRole : Stmt := inClass (top 22) 1
noncomputable abbrev sRunIsHalted : Stmt := inClass (top 20) 8
noncomputable abbrev sRunGoOn : Stmt := inClass (top 20) 13
noncomputable abbrev sRunFinish : Stmt := inClass (top 20) 9
noncomputable abbrev sRunIsUnderWay : Stmt := inClass (top 20) 7
noncomputable abbrev sRunBeginAnew : Stmt := inClass (top 20) 10
noncomputable abbrev sRunLengthen : Stmt := inClass (top 20) 11
noncomputable abbrev sRunHalt : Stmt := inClass (top 20) 12
noncomputable abbrev sRunWorks : Stmt := inClass (top 20) 6
noncomputable abbrev sRunFeel : Stmt := inClass (top 20) 5
noncomputable abbrev sLaw : Stmt := top 67
structure DefAt (K : PySem.W.Frag) (mg : Str → Option Value) (x : Str) (st : Stmt) (ps : List Str) (f : Addr) (fd : FuncData) : Prop where
 fn : Fun K x x st f fd
 mgx : mg x = some (.ref f)
 bd : Binds K fd ps []
noncomputable abbrev Pd (K : PySem.W.Frag) (x : Str) (st : Stmt) (f : Addr) : Prop := ∃ (oc : Value) (od : Option Addr) (kV doc pm : Value) (an : Option Addr) (cdv ct : Value) (osl : Array (Option Value)), PySem.W.nsIn K mainGlobals x = some (some (.ref f)) ∧ K.lookup f = some ⟨oc, od, .func (PySem.W.fnOf x x (defArgs st) (defBody st) (defScope st) .none kV doc pm an cdv ct), osl⟩ ∧ PySem.W.codeIn K cdv x = true ∧ PySem.W.keepIn K (.ref f) = true
noncomputable abbrev Pm (K : PySem.W.Frag) (C : Addr) (x q : Str) (st : Stmt) (f : Addr) : Prop := ∃ (oc : Value) (od : Option Addr) (kV doc pm : Value) (an : Option Addr) (cdv ct : Value) (osl : Array (Option Value)), PySem.W.findIn K (.ref C) x = some (some (.ref f)) ∧ PySem.W.typeIn K (.ref f) = some (.type "function") ∧ K.lookup f = some ⟨oc, od, .func (PySem.W.fnOf x q (defArgs st) (defBody st) (defScope st) .none kV doc pm an cdv ct), osl⟩ ∧ PySem.W.codeIn K cdv q = true ∧ PySem.W.keepIn K (.ref f) = true
theorem pd_of {K : PySem.W.Frag} {x : Str} {st : Stmt} {f : Addr} {oc : Value} {od : Option Addr} {kV doc pm : Value} {an : Option Addr} {cdv ct : Value} {osl : Array (Option Value)} (a : PySem.W.nsIn K mainGlobals x = some (some (.ref f))) (l : K.lookup f = some ⟨oc, od, .func (PySem.W.fnOf x x (defArgs st) (defBody st) (defScope st) .none kV doc pm an cdv ct), osl⟩) (c : PySem.W.codeIn K cdv x = true) (k : PySem.W.keepIn K (.ref f) = true) : Pd K x st f := ⟨oc, od, kV, doc, pm, an, cdv, ct, osl, a, l, c, k⟩
theorem pm_of {K : PySem.W.Frag} {C : Addr} {x q : Str} {st : Stmt} {f : Addr} {oc : Value} {od : Option Addr} {kV doc pm : Value} {an : Option Addr} {cdv ct : Value} {osl : Array (Option Value)} (a : PySem.W.findIn K (.ref C) x = some (some (.ref f))) (t : PySem.W.typeIn K (.ref f) = some (.type "function")) (l : K.lookup f = some ⟨oc, od, .func (PySem.W.fnOf x q (defArgs st) (defBody st) (defScope st) .none kV doc pm an cdv ct), osl⟩) (c : PySem.W.codeIn K cdv q = true) (k : PySem.W.keepIn K (.ref f) = true) : Pm K C x q st f := ⟨oc, od, kV, doc, pm, an, cdv, ct, osl, a, t, l, c, k⟩
theorem pd_mk {K : PySem.W.Frag} {h : Heap} {mg : Str → Option Value} {x : Str} {st : Stmt} {f : Addr} (X : K.In h) (G : h.Ns mainGlobals mg) (p : Pd K x st f) {ps : List Str} (b : ∀ (kV doc pm : Value) (an : Option Addr) (cdv ct : Value) (us : List Value), us.length = ps.length → bindArgs (PySem.W.fnOf x x (defArgs st) (defBody st) (defScope st) .none kV doc pm an cdv ct) ⟨us, []⟩ = pure (ps.zip us)) : ∃ fd, DefAt K mg x st ps f fd := by
 obtain ⟨oc, od, kV, doc, pm, an, cdv, ct, osl, a, l, c, k⟩ := p
 have F := fun_mk (st := st) l c k
 exact ⟨_, F, PySem.W.mg_of X G a, F.binds b⟩
theorem pm_mk {K : PySem.W.Frag} {C : Addr} {x q : Str} {st : Stmt} {f : Addr} (p : Pm K C x q st f) {ps : List Str} (b : ∀ (kV doc pm : Value) (an : Option Addr) (cdv ct : Value) (us : List Value), us.length = ps.length → bindArgs (PySem.W.fnOf x q (defArgs st) (defBody st) (defScope st) .none kV doc pm an cdv ct) ⟨us, []⟩ = pure (ps.zip us)) : ∃ fd, MethAt K x q st ps f fd := by
 obtain ⟨oc, od, kV, doc, pm, an, cdv, ct, osl, a, t, l, c, k⟩ := p
 have F := fun_mk (st := st) l c k
 exact ⟨_, F, F.binds b, t⟩
theorem arg1 {p : List Value → Prop} (h : ∀ x0, p [x0]) : ∀ us, us.length = 1 → p us := fun us hl => by obtain ⟨x, rfl⟩ := List.length_eq_one_iff.mp hl; exact h x
theorem argS {p : List Value → Prop} {n : Nat} (h : ∀ x t, t.length = n → p (x :: t)) : ∀ us, us.length = n + 1 → p us := fun us hl => by obtain ⟨x, t, rfl⟩ := List.exists_cons_of_length_eq_add_one hl; exact h x t (Nat.succ.inj hl)
theorem arg2 {p : List Value → Prop} (h : ∀ x0 x1, p [x0, x1]) : ∀ us, us.length = 2 → p us := argS fun x => arg1 (h x)
theorem arg3 {p : List Value → Prop} (h : ∀ x0 x1 x2, p [x0, x1, x2]) : ∀ us, us.length = 3 → p us := argS fun x => arg2 (h x)
theorem arg4 {p : List Value → Prop} (h : ∀ x0 x1 x2 x3, p [x0, x1, x2, x3]) : ∀ us, us.length = 4 → p us := argS fun x => arg3 (h x)
set_option genInjectivity false
set_option genSizeOf false
set_option genSizeOfSpec false
structure Adr where
 fCountingInit : Addr
 gCountingInit : FuncData
 fKindOf : Addr
 gKindOf : FuncData
 fIsWhole : Addr
 gIsWhole : FuncData
 fIsStretchOf : Addr
 gIsStretchOf : FuncData
 fPlace : Addr
 gPlace : FuncData
 fJoined : Addr
 gJoined : FuncData
 fLaidOver : Addr
 gLaidOver : FuncData
 fOverlay : Addr
 gOverlay : FuncData
 fCountingDaysFor : Addr
 gCountingDaysFor : FuncData
 fWeeksDaysFor : Addr
 gWeeksDaysFor : FuncData
 fCountingReach : Addr
 gCountingReach : FuncData
 fLongBefore : Addr
 gLongBefore : FuncData
 fPatternBeforeYear : Addr
 gPatternBeforeYear : FuncData
 fPatternYearWith : Addr
 gPatternYearWith : FuncData
 fFirstWeek : Addr
 gFirstWeek : FuncData
 fPatternNth : Addr
 gPatternNth : FuncData
 fYearOf : Addr
 gYearOf : FuncData
 fWeekday : Addr
 gWeekday : FuncData
 fDateOf : Addr
 gDateOf : FuncData
 fDayOfYear : Addr
 gDayOfYear : FuncData
 fPatternBefore : Addr
 gPatternBefore : FuncData
 fTableShift : Addr
 gTableShift : FuncData
 fTableBefore : Addr
 gTableBefore : FuncData
 fTableNth : Addr
 gTableNth : FuncData
 fCourtDaysReach : Addr
 gCourtDaysReach : FuncData
 fCountingCountedIn : Addr
 gCountingCountedIn : FuncData
 fCourtDaysCountedIn : Addr
 gCourtDaysCountedIn : FuncData
 fFullDay : Addr
 gFullDay : FuncData
 fTableNextOpen : Addr
 gTableNextOpen : FuncData
 fFirstDue : Addr
 gFirstDue : FuncData
 fLastDay : Addr
 gLastDay : FuncData
 fIsFreeWithin : Addr
 gIsFreeWithin : FuncData
 fCountedUp : Addr
 gCountedUp : FuncData
 fIsWeekday : Addr
 gIsWeekday : FuncData
 fRefuseWeek : Addr
 gRefuseWeek : FuncData
 fIsYearly : Addr
 gIsYearly : FuncData
 fRefuseYearly : Addr
 gRefuseYearly : FuncData
 fListOrEmpty : Addr
 gListOrEmpty : FuncData
 fIsRow : Addr
 gIsRow : FuncData
 fRefuseRows : Addr
 gRefuseRows : FuncData
 fLawCellAt : Addr
 gLawCellAt : FuncData
 fLawWords : Addr
 gLawWords : FuncData
 fLawAlike : Addr
 gLawAlike : FuncData
 fLawLast : Addr
 gLawLast : FuncData
 fLawShut : Addr
 gLawShut : FuncData
 fLawTurned : Addr
 gLawTurned : FuncData
 fRuleInit : Addr
 gRuleInit : FuncData
 fLawRule : Addr
 gLawRule : FuncData
 fRunIsOver : Addr
 gRunIsOver : FuncData
 fRunStartsOn : Addr
 gRunStartsOn : FuncData
 fRunLastsTo : Addr
 gRunLastsTo : FuncData
 fRunStateWord : Addr
 gRunStateWord : FuncData
 fRunAccount : Addr
 gRunAccount : FuncData
 fLawTold : Addr
 gLawTold : FuncData
 fLawDue : Addr
 gLawDue : FuncData
 fLawRole : Addr
 gLawRole : FuncData
 fRunSetOut : Addr
 gRunSetOut : FuncData
 fRunInit : Addr
 gRunInit : FuncData
 fPatternInit : Addr
 gPatternInit : FuncData
 fTableInit : Addr
 gTableInit : FuncData
 fRuleRoleInStill : Addr
 gRuleRoleInStill : FuncData
 fRuleRole : Addr
 gRuleRole : FuncData
 fRunIsHalted : Addr
 gRunIsHalted : FuncData
 fRunGoOn : Addr
 gRunGoOn : FuncData
 fRunFinish : Addr
 gRunFinish : FuncData
 fRunIsUnderWay : Addr
 gRunIsUnderWay : FuncData
 fRunBeginAnew : Addr
 gRunBeginAnew : FuncData
 fRunLengthen : Addr
 gRunLengthen : FuncData
 fRunHalt : Addr
 gRunHalt : FuncData
 fRunWorks : Addr
 gRunWorks : FuncData
 fRunFeel : Addr
 gRunFeel : FuncData
 fLaw : Addr
 gLaw : FuncData
 cCounting : Addr
 cCourtDays : Addr
 cPattern : Addr
 cRule : Addr
 cRun : Addr
 cTable : Addr
 cWeeks : Addr
 tWORDS : Addr
structure Txt (K : PySem.W.Frag) (mg : Str → Option Value) (a : Adr) : Prop where
 dCountingInit : MethAt K "__init__" "Counting.__init__" sCountingInit ["self", "table"] a.fCountingInit a.gCountingInit
 dKindOf : DefAt K mg "kind_of" sKindOf ["unit", "table"] a.fKindOf a.gKindOf
 dIsWhole : DefAt K mg "is_whole" sIsWhole ["thing"] a.fIsWhole a.gIsWhole
 dIsStretchOf : DefAt K mg "is_stretch_of" sIsStretchOf ["first", "last", "most"] a.fIsStretchOf a.gIsStretchOf
 dPlace : DefAt K mg "place" sPlace ["stretches", "day"] a.fPlace a.gPlace
 dJoined : DefAt K mg "joined" sJoined ["laid"] a.fJoined a.gJoined
 dLaidOver : DefAt K mg "laid_over" sLaidOver ["laid", "first", "last", "word"] a.fLaidOver a.gLaidOver
 dOverlay : DefAt K mg "overlay" sOverlay ["rows"] a.fOverlay a.gOverlay
 dCountingDaysFor : MethAt K "days_for" "Counting.days_for" sCountingDaysFor ["self", "units"] a.fCountingDaysFor a.gCountingDaysFor
 dWeeksDaysFor : MethAt K "days_for" "Weeks.days_for" sWeeksDaysFor ["self", "units"] a.fWeeksDaysFor a.gWeeksDaysFor
 dCountingReach : MethAt K "reach" "Counting.reach" sCountingReach ["self", "first", "many"] a.fCountingReach a.gCountingReach
 dLongBefore : DefAt K mg "long_before" sLongBefore ["year"] a.fLongBefore a.gLongBefore
 dPatternBeforeYear : MethAt K "before_year" "Pattern.before_year" sPatternBeforeYear ["self", "year"] a.fPatternBeforeYear a.gPatternBeforeYear
 dPatternYearWith : MethAt K "year_with" "Pattern.year_with" sPatternYearWith ["self", "many"] a.fPatternYearWith a.gPatternYearWith
 dFirstWeek : DefAt K mg "first_week" sFirstWeek ["year"] a.fFirstWeek a.gFirstWeek
 dPatternNth : MethAt K "nth" "Pattern.nth" sPatternNth ["self", "many"] a.fPatternNth a.gPatternNth
 dYearOf : DefAt K mg "year_of" sYearOf ["week"] a.fYearOf a.gYearOf
 dWeekday : DefAt K mg "weekday" sWeekday ["day"] a.fWeekday a.gWeekday
 dDateOf : DefAt K mg "date_of" sDateOf ["day"] a.fDateOf a.gDateOf
 dDayOfYear : DefAt K mg "day_of_year" sDayOfYear ["day"] a.fDayOfYear a.gDayOfYear
 dPatternBefore : MethAt K "before" "Pattern.before" sPatternBefore ["self", "day"] a.fPatternBefore a.gPatternBefore
 dTableShift : MethAt K "shift" "Table.shift" sTableShift ["self", "row", "end"] a.fTableShift a.gTableShift
 dTableBefore : MethAt K "before" "Table.before" sTableBefore ["self", "day"] a.fTableBefore a.gTableBefore
 dTableNth : MethAt K "nth" "Table.nth" sTableNth ["self", "many"] a.fTableNth a.gTableNth
 dCourtDaysReach : MethAt K "reach" "CourtDays.reach" sCourtDaysReach ["self", "first", "many"] a.fCourtDaysReach a.gCourtDaysReach
 dCountingCountedIn : MethAt K "counted_in" "Counting.counted_in" sCountingCountedIn ["self", "first", "last"] a.fCountingCountedIn a.gCountingCountedIn
 dCourtDaysCountedIn : MethAt K "counted_in" "CourtDays.counted_in" sCourtDaysCountedIn ["self", "first", "last"] a.fCourtDaysCountedIn a.gCourtDaysCountedIn
 dFullDay : DefAt K mg "full_day" sFullDay ["kind", "start", "units", "pauses"] a.fFullDay a.gFullDay
 dTableNextOpen : MethAt K "next_open" "Table.next_open" sTableNextOpen ["self", "day"] a.fTableNextOpen a.gTableNextOpen
 dFirstDue : DefAt K mg "first_due" sFirstDue ["table", "day", "pauses"] a.fFirstDue a.gFirstDue
 dLastDay : DefAt K mg "last_day" sLastDay ["kind", "start", "units", "pauses"] a.fLastDay a.gLastDay
 dIsFreeWithin : DefAt K mg "is_free_within" sIsFreeWithin ["within", "week", "yearly"] a.fIsFreeWithin a.gIsFreeWithin
 dCountedUp : DefAt K mg "counted_up" sCountedUp ["free_days"] a.fCountedUp a.gCountedUp
 dIsWeekday : DefAt K mg "is_weekday" sIsWeekday ["thing"] a.fIsWeekday a.gIsWeekday
 dRefuseWeek : DefAt K mg "refuse_week" sRefuseWeek ["week"] a.fRefuseWeek a.gRefuseWeek
 dIsYearly : DefAt K mg "is_yearly" sIsYearly ["thing"] a.fIsYearly a.gIsYearly
 dRefuseYearly : DefAt K mg "refuse_yearly" sRefuseYearly ["yearly"] a.fRefuseYearly a.gRefuseYearly
 dListOrEmpty : DefAt K mg "list_or_empty" sListOrEmpty ["things"] a.fListOrEmpty a.gListOrEmpty
 dIsRow : DefAt K mg "is_row" sIsRow ["row"] a.fIsRow a.gIsRow
 dRefuseRows : DefAt K mg "refuse_rows" sRefuseRows ["rows"] a.fRefuseRows a.gRefuseRows
 dLawCellAt : DefAt K mg "_law_cell_at" sLawCellAt ["_law_script", "_law_k"] a.fLawCellAt a.gLawCellAt
 dLawWords : DefAt K mg "_law_words" sLawWords ["_law_cell", "_law_many"] a.fLawWords a.gLawWords
 dLawAlike : DefAt K mg "_law_alike" sLawAlike ["_law_found", "_law_due_here"] a.fLawAlike a.gLawAlike
 dLawLast : DefAt K mg "_law_last" sLawLast ["_law_run"] a.fLawLast a.gLawLast
 dLawShut : DefAt K mg "_law_shut" sLawShut ["_law_pauses", "_law_day"] a.fLawShut a.gLawShut
 dLawTurned : DefAt K mg "_law_turned" sLawTurned ["_law_run", "_law_role_here", "_law_day", "_law_rule_here"] a.fLawTurned a.gLawTurned
 dRuleInit : MethD K "__init__" "Rule.__init__" sRuleInit ["self", "name", "who", "owes", "opens", "base", "many", "unit", "still"] a.fRuleInit a.gRuleInit
 dLawRule : DefAt K mg "_law_rule" sLawRule ["_law_script", "_law_kinds", "_law_names"] a.fLawRule a.gLawRule
 dRunIsOver : MethAt K "is_over" "Run.is_over" sRunIsOver ["self"] a.fRunIsOver a.gRunIsOver
 dRunStartsOn : MethAt K "starts_on" "Run.starts_on" sRunStartsOn ["self"] a.fRunStartsOn a.gRunStartsOn
 dRunLastsTo : MethAt K "lasts_to" "Run.lasts_to" sRunLastsTo ["self"] a.fRunLastsTo a.gRunLastsTo
 dRunStateWord : MethAt K "state_word" "Run.state_word" sRunStateWord ["self", "last"] a.fRunStateWord a.gRunStateWord
 dRunAccount : MethAt K "account" "Run.account" sRunAccount ["self"] a.fRunAccount a.gRunAccount
 dLawTold : DefAt K mg "_law_told" sLawTold ["_law_run", "_law_due_here", "_law_over"] a.fLawTold a.gLawTold
 dLawDue : DefAt K mg "_law_due" sLawDue ["_law_held", "_law_run", "_law_over", "_law_rows"] a.fLawDue a.gLawDue
 dLawRole : DefAt K mg "_law_role" sLawRole ["_law_cell"] a.fLawRole a.gLawRole
 dRunSetOut : MethAt K "set_out" "Run.set_out" sRunSetOut ["self", "day", "base"] a.fRunSetOut a.gRunSetOut
 dRunInit : MethD K "__init__" "Run.__init__" sRunInit ["self", "rule", "table", "name", "day", "base"] a.fRunInit a.gRunInit
 dPatternInit : MethAt K "__init__" "Pattern.__init__" sPatternInit ["self", "week", "yearly"] a.fPatternInit a.gPatternInit
 dTableInit : MethD K "__init__" "Table.__init__" sTableInit ["self", "week", "yearly", "rows"] a.fTableInit a.gTableInit
 dRuleRoleInStill : MethAt K "role_in_still" "Rule.role_in_still" sRuleRoleInStill ["self", "kind"] a.fRuleRoleInStill a.gRuleRoleInStill
 dRuleRole : MethAt K "role" "Rule.role" sRuleRole ["self", "kind"] a.fRuleRole a.gRuleRole
 dRunIsHalted : MethAt K "is_halted" "Run.is_halted" sRunIsHalted ["self"] a.fRunIsHalted a.gRunIsHalted
 dRunGoOn : MethAt K "go_on" "Run.go_on" sRunGoOn ["self", "day"] a.fRunGoOn a.gRunGoOn
 dRunFinish : MethAt K "finish" "Run.finish" sRunFinish ["self", "day"] a.fRunFinish a.gRunFinish
 dRunIsUnderWay : MethAt K "is_under_way" "Run.is_under_way" sRunIsUnderWay ["self", "day"] a.fRunIsUnderWay a.gRunIsUnderWay
 dRunBeginAnew : MethAt K "begin_anew" "Run.begin_anew" sRunBeginAnew ["self", "day"] a.fRunBeginAnew a.gRunBeginAnew
 dRunLengthen : MethAt K "lengthen" "Run.lengthen" sRunLengthen ["self", "kind"] a.fRunLengthen a.gRunLengthen
 dRunHalt : MethAt K "halt" "Run.halt" sRunHalt ["self", "day"] a.fRunHalt a.gRunHalt
 dRunWorks : MethAt K "works" "Run.works" sRunWorks ["self", "word", "day", "kind"] a.fRunWorks a.gRunWorks
 dRunFeel : MethAt K "feel" "Run.feel" sRunFeel ["self", "name", "day", "kind"] a.fRunFeel a.gRunFeel
 dLaw : DefAt K mg "law" sLaw ["_law_script"] a.fLaw a.gLaw
 e_RunInit_5 : Binds K a.gRunInit ["self", "rule", "table", "name", "day", "base"] [.none]
 e_TableInit_2 : Binds K a.gTableInit ["self", "week", "yearly", "rows"] [.none, .none]
 m_Counting : mg "Counting" = some (.ref a.cCounting)
 c_Counting : Cls K a.cCounting
 k_Counting : Mk K a.cCounting a.fCountingInit
 n_Counting : xNo K a.cCounting ["free_days", "open_days", "open_before", "pattern", "rows", "shifts", "table", "name", "who", "owes", "opens", "base", "many", "unit", "still", "ends", "anew", "longer", "yields", "rule", "counting", "over", "day", "units", "pauses", "grants"] = true
 ti_Counting_counted_in : Meth K a.cCounting "counted_in" a.fCountingCountedIn
 ti_Counting_days_for : Meth K a.cCounting "days_for" a.fCountingDaysFor
 ti_Counting_reach : Meth K a.cCounting "reach" a.fCountingReach
 i_Counting : insB K a.cCounting = true
 kd_Counting_Counting : PySem.W.kitOne K (.ref a.cCounting) (.ref a.cCounting) = some true
 kd_Counting_Weeks : PySem.W.kitOne K (.ref a.cCounting) (.ref a.cWeeks) = some false
 kd_Counting_CourtDays : PySem.W.kitOne K (.ref a.cCounting) (.ref a.cCourtDays) = some false
 t_dCountingDaysFor : Meth K a.cCounting "days_for" a.fCountingDaysFor
 t_dCountingReach : Meth K a.cCounting "reach" a.fCountingReach
 t_dCountingCountedIn : Meth K a.cCounting "counted_in" a.fCountingCountedIn
 m_CourtDays : mg "CourtDays" = some (.ref a.cCourtDays)
 c_CourtDays : Cls K a.cCourtDays
 k_CourtDays : Mk K a.cCourtDays a.fCountingInit
 n_CourtDays : xNo K a.cCourtDays ["free_days", "open_days", "open_before", "pattern", "rows", "shifts", "table", "name", "who", "owes", "opens", "base", "many", "unit", "still", "ends", "anew", "longer", "yields", "rule", "counting", "over", "day", "units", "pauses", "grants"] = true
 ti_CourtDays_counted_in : Meth K a.cCourtDays "counted_in" a.fCourtDaysCountedIn
 ti_CourtDays_days_for : Meth K a.cCourtDays "days_for" a.fCountingDaysFor
 ti_CourtDays_reach : Meth K a.cCourtDays "reach" a.fCourtDaysReach
 i_CourtDays : insB K a.cCourtDays = true
 kd_CourtDays_Counting : PySem.W.kitOne K (.ref a.cCourtDays) (.ref a.cCounting) = some true
 kd_CourtDays_Weeks : PySem.W.kitOne K (.ref a.cCourtDays) (.ref a.cWeeks) = some false
 kd_CourtDays_CourtDays : PySem.W.kitOne K (.ref a.cCourtDays) (.ref a.cCourtDays) = some true
 t_dCourtDaysReach : Meth K a.cCourtDays "reach" a.fCourtDaysReach
 t_dCourtDaysCountedIn : Meth K a.cCourtDays "counted_in" a.fCourtDaysCountedIn
 m_Pattern : mg "Pattern" = some (.ref a.cPattern)
 c_Pattern : Cls K a.cPattern
 k_Pattern : Mk K a.cPattern a.fPatternInit
 n_Pattern : xNo K a.cPattern ["free_days", "open_days", "open_before", "pattern", "rows", "shifts", "table", "name", "who", "owes", "opens", "base", "many", "unit", "still", "ends", "anew", "longer", "yields", "rule", "counting", "over", "day", "units", "pauses", "grants"] = true
 t_dPatternBeforeYear : Meth K a.cPattern "before_year" a.fPatternBeforeYear
 t_dPatternYearWith : Meth K a.cPattern "year_with" a.fPatternYearWith
 t_dPatternNth : Meth K a.cPattern "nth" a.fPatternNth
 t_dPatternBefore : Meth K a.cPattern "before" a.fPatternBefore
 m_Rule : mg "Rule" = some (.ref a.cRule)
 c_Rule : Cls K a.cRule
 k_Rule : Mk K a.cRule a.fRuleInit
 n_Rule : xNo K a.cRule ["free_days", "open_days", "open_before", "pattern", "rows", "shifts", "table", "name", "who", "owes", "opens", "base", "many", "unit", "still", "ends", "anew", "longer", "yields", "rule", "counting", "over", "day", "units", "pauses", "grants"] = true
 t_dRuleRoleInStill : Meth K a.cRule "role_in_still" a.fRuleRoleInStill
 t_dRuleRole : Meth K a.cRule "role" a.fRuleRole
 m_Run : mg "Run" = some (.ref a.cRun)
 c_Run : Cls K a.cRun
 k_Run : Mk K a.cRun a.fRunInit
 n_Run : xNo K a.cRun ["free_days", "open_days", "open_before", "pattern", "rows", "shifts", "table", "name", "who", "owes", "opens", "base", "many", "unit", "still", "ends", "anew", "longer", "yields", "rule", "counting", "over", "day", "units", "pauses", "grants"] = true
 t_dRunIsOver : Meth K a.cRun "is_over" a.fRunIsOver
 t_dRunStartsOn : Meth K a.cRun "starts_on" a.fRunStartsOn
 t_dRunLastsTo : Meth K a.cRun "lasts_to" a.fRunLastsTo
 t_dRunStateWord : Meth K a.cRun "state_word" a.fRunStateWord
 t_dRunAccount : Meth K a.cRun "account" a.fRunAccount
 t_dRunSetOut : Meth K a.cRun "set_out" a.fRunSetOut
 t_dRunIsHalted : Meth K a.cRun "is_halted" a.fRunIsHalted
 t_dRunGoOn : Meth K a.cRun "go_on" a.fRunGoOn
 t_dRunFinish : Meth K a.cRun "finish" a.fRunFinish
 t_dRunIsUnderWay : Meth K a.cRun "is_under_way" a.fRunIsUnderWay
 t_dRunBeginAnew : Meth K a.cRun "begin_anew" a.fRunBeginAnew
 t_dRunLengthen : Meth K a.cRun "lengthen" a.fRunLengthen
 t_dRunHalt : Meth K a.cRun "halt" a.fRunHalt
 t_dRunWorks : Meth K a.cRun "works" a.fRunWorks
 t_dRunFeel : Meth K a.cRun "feel" a.fRunFeel
 m_Table : mg "Table" = some (.ref a.cTable)
 c_Table : Cls K a.cTable
 k_Table : Mk K a.cTable a.fTableInit
 n_Table : xNo K a.cTable ["free_days", "open_days", "open_before", "pattern", "rows", "shifts", "table", "name", "who", "owes", "opens", "base", "many", "unit", "still", "ends", "anew", "longer", "yields", "rule", "counting", "over", "day", "units", "pauses", "grants"] = true
 t_dTableShift : Meth K a.cTable "shift" a.fTableShift
 t_dTableBefore : Meth K a.cTable "before" a.fTableBefore
 t_dTableNth : Meth K a.cTable "nth" a.fTableNth
 t_dTableNextOpen : Meth K a.cTable "next_open" a.fTableNextOpen
 m_Weeks : mg "Weeks" = some (.ref a.cWeeks)
 c_Weeks : Cls K a.cWeeks
 k_Weeks : Mk K a.cWeeks a.fCountingInit
 n_Weeks : xNo K a.cWeeks ["free_days", "open_days", "open_before", "pattern", "rows", "shifts", "table", "name", "who", "owes", "opens", "base", "many", "unit", "still", "ends", "anew", "longer", "yields", "rule", "counting", "over", "day", "units", "pauses", "grants"] = true
 ti_Weeks_counted_in : Meth K a.cWeeks "counted_in" a.fCountingCountedIn
 ti_Weeks_days_for : Meth K a.cWeeks "days_for" a.fWeeksDaysFor
 ti_Weeks_reach : Meth K a.cWeeks "reach" a.fCountingReach
 i_Weeks : insB K a.cWeeks = true
 kd_Weeks_Counting : PySem.W.kitOne K (.ref a.cWeeks) (.ref a.cCounting) = some true
 kd_Weeks_Weeks : PySem.W.kitOne K (.ref a.cWeeks) (.ref a.cWeeks) = some true
 kd_Weeks_CourtDays : PySem.W.kitOne K (.ref a.cWeeks) (.ref a.cCourtDays) = some false
 t_dWeeksDaysFor : Meth K a.cWeeks "days_for" a.fWeeksDaysFor
 n_any : mg "any" = none
 n_bool : mg "bool" = none
 n_enumerate : mg "enumerate" = none
 n_int : mg "int" = none
 n_isinstance : mg "isinstance" = none
 n_len : mg "len" = none
 n_list : mg "list" = none
 n_max : mg "max" = none
 n_min : mg "min" = none
 n_range : mg "range" = none
 n_sorted : mg "sorted" = none
 n_str : mg "str" = none
 n_tuple : mg "tuple" = none
 g_MOST_WEEKDAYS : ∃ t, mg "MOST_WEEKDAYS" = some (.int 6 t)
 g_MOST_YEARLY : ∃ t, mg "MOST_YEARLY" = some (.int 4 t)
 g_MOST_YEARLY_DAYS : ∃ t, mg "MOST_YEARLY_DAYS" = some (.int 30 t)
 g_SHORT_YEAR : ∃ t, mg "SHORT_YEAR" = some (.int 364 t)
 g_LONG_YEAR : ∃ t, mg "LONG_YEAR" = some (.int 371 t)
 g_MOST_ROWS : ∃ t, mg "MOST_ROWS" = some (.int 12 t)
 g_MOST_ROW_DAYS : ∃ t, mg "MOST_ROW_DAYS" = some (.int 40 t)
 g_TURN : ∃ t, mg "TURN" = some (.int 17 t)
 g_DAYS_OF_A_WEEK : ∃ t, mg "DAYS_OF_A_WEEK" = some (.int 7 t)
 g_WORDS : mg "WORDS" = some (.ref a.tWORDS)
 s_WORDS : ∀ H, SqT K H a.tWORDS [.str (Str.ofString "free"), .str (Str.ofString "open")]
theorem boot_any : bootBuiltins "any" = some (.builtin "any") := by decide +kernel
theorem boot_bool : bootBuiltins "bool" = some (.type "bool") := by decide +kernel
theorem boot_int : bootBuiltins "int" = some (.type "int") := by decide +kernel
theorem boot_isinstance : bootBuiltins "isinstance" = some (.builtin "isinstance") := by decide +kernel
theorem boot_len : bootBuiltins "len" = some (.builtin "len") := by decide +kernel
theorem boot_list : bootBuiltins "list" = some (.type "list") := by decide +kernel
theorem boot_max : bootBuiltins "max" = some (.builtin "max") := by decide +kernel
theorem boot_min : bootBuiltins "min" = some (.builtin "min") := by decide +kernel
theorem boot_sorted : bootBuiltins "sorted" = some (.builtin "sorted") := by decide +kernel
theorem boot_str : bootBuiltins "str" = some (.type "str") := by decide +kernel
theorem boot_tuple : bootBuiltins "tuple" = some (.type "tuple") := by decide +kernel
theorem scCountingInit : FnScope ["self", "table"] ["self", "table"] (defScope sCountingInit) := ⟨rfl, rfl, rfl, by decide +kernel, rfl, by decide +kernel, by decide +kernel⟩
theorem scKindOf : FnScope ["unit", "table"] ["unit", "table"] (defScope sKindOf) := ⟨rfl, rfl, rfl, by decide +kernel, rfl, by decide +kernel, by decide +kernel⟩
theorem scIsWhole : FnScope ["thing"] ["thing"] (defScope sIsWhole) := ⟨rfl, rfl, rfl, by decide +kernel, rfl, by decide +kernel, by decide +kernel⟩
theorem scIsStretchOf : FnScope ["first", "last", "most"] ["first", "last", "most"] (defScope sIsStretchOf) := ⟨rfl, rfl, rfl, by decide +kernel, rfl, by decide +kernel, by decide +kernel⟩
theorem scPlace : FnScope ["stretches", "day", "low", "high", "middle"] ["stretches", "day"] (defScope sPlace) := ⟨rfl, rfl, rfl, by decide +kernel, rfl, by decide +kernel, by decide +kernel⟩
theorem scJoined : FnScope ["laid", "told", "first", "last", "word"] ["laid"] (defScope sJoined) := ⟨rfl, rfl, rfl, by decide +kernel, rfl, by decide +kernel, by decide +kernel⟩
theorem scLaidOver : FnScope ["laid", "first", "last", "word", "begin", "end", "told"] ["laid", "first", "last", "word"] (defScope sLaidOver) := ⟨rfl, rfl, rfl, by decide +kernel, rfl, by decide +kernel, by decide +kernel⟩
theorem scOverlay : FnScope ["rows", "laid", "first", "last", "word"] ["rows"] (defScope sOverlay) := ⟨rfl, rfl, rfl, by decide +kernel, rfl, by decide +kernel, by decide +kernel⟩
theorem scCountingDaysFor : FnScope ["self", "units"] ["self", "units"] (defScope sCountingDaysFor) := ⟨rfl, rfl, rfl, by decide +kernel, rfl, by decide +kernel, by decide +kernel⟩
theorem scWeeksDaysFor : FnScope ["self", "units"] ["self", "units"] (defScope sWeeksDaysFor) := ⟨rfl, rfl, rfl, by decide +kernel, rfl, by decide +kernel, by decide +kernel⟩
theorem scCountingReach : FnScope ["self", "first", "many"] ["self", "first", "many"] (defScope sCountingReach) := ⟨rfl, rfl, rfl, by decide +kernel, rfl, by decide +kernel, by decide +kernel⟩
theorem scLongBefore : FnScope ["year"] ["year"] (defScope sLongBefore) := ⟨rfl, rfl, rfl, by decide +kernel, rfl, by decide +kernel, by decide +kernel⟩
theorem scPatternBeforeYear : FnScope ["self", "year", "in_last_week"] ["self", "year"] (defScope sPatternBeforeYear) := ⟨rfl, rfl, rfl, by decide +kernel, rfl, by decide +kernel, by decide +kernel⟩
theorem scPatternYearWith : FnScope ["self", "many", "year"] ["self", "many"] (defScope sPatternYearWith) := ⟨rfl, rfl, rfl, by decide +kernel, rfl, by decide +kernel, by decide +kernel⟩
theorem scFirstWeek : FnScope ["year"] ["year"] (defScope sFirstWeek) := ⟨rfl, rfl, rfl, by decide +kernel, rfl, by decide +kernel, by decide +kernel⟩
theorem scPatternNth : FnScope ["self", "many", "year"] ["self", "many"] (defScope sPatternNth) := ⟨rfl, rfl, rfl, by decide +kernel, rfl, by decide +kernel, by decide +kernel⟩
theorem scYearOf : FnScope ["week"] ["week"] (defScope sYearOf) := ⟨rfl, rfl, rfl, by decide +kernel, rfl, by decide +kernel, by decide +kernel⟩
theorem scWeekday : FnScope ["day"] ["day"] (defScope sWeekday) := ⟨rfl, rfl, rfl, by decide +kernel, rfl, by decide +kernel, by decide +kernel⟩
theorem scDateOf : FnScope ["day", "day_in_week", "week", "year"] ["day"] (defScope sDateOf) := ⟨rfl, rfl, rfl, by decide +kernel, rfl, by decide +kernel, by decide +kernel⟩
theorem scDayOfYear : FnScope ["day", "date"] ["day"] (defScope sDayOfYear) := ⟨rfl, rfl, rfl, by decide +kernel, rfl, by decide +kernel, by decide +kernel⟩
theorem scPatternBefore : FnScope ["self", "day", "year"] ["self", "day"] (defScope sPatternBefore) := ⟨rfl, rfl, rfl, by decide +kernel, rfl, by decide +kernel, by decide +kernel⟩
theorem scTableShift : FnScope ["self", "row", "end", "by_pattern", "by_row"] ["self", "row", "end"] (defScope sTableShift) := ⟨rfl, rfl, rfl, by decide +kernel, rfl, by decide +kernel, by decide +kernel⟩
theorem scTableBefore : FnScope ["self", "day", "at", "many"] ["self", "day"] (defScope sTableBefore) := ⟨rfl, rfl, rfl, by decide +kernel, rfl, by decide +kernel, by decide +kernel⟩
theorem scTableNth : FnScope ["self", "many", "at", "row", "before_row"] ["self", "many"] (defScope sTableNth) := ⟨rfl, rfl, rfl, by decide +kernel, rfl, by decide +kernel, by decide +kernel⟩
theorem scCourtDaysReach : FnScope ["self", "first", "many"] ["self", "first", "many"] (defScope sCourtDaysReach) := ⟨rfl, rfl, rfl, by decide +kernel, rfl, by decide +kernel, by decide +kernel⟩
theorem scCountingCountedIn : FnScope ["self", "first", "last"] ["self", "first", "last"] (defScope sCountingCountedIn) := ⟨rfl, rfl, rfl, by decide +kernel, rfl, by decide +kernel, by decide +kernel⟩
theorem scCourtDaysCountedIn : FnScope ["self", "first", "last"] ["self", "first", "last"] (defScope sCourtDaysCountedIn) := ⟨rfl, rfl, rfl, by decide +kernel, rfl, by decide +kernel, by decide +kernel⟩
theorem scFullDay : FnScope ["kind", "start", "units", "pauses", "left", "begin", "first", "last", "counted"] ["kind", "start", "units", "pauses"] (defScope sFullDay) := ⟨rfl, rfl, rfl, by decide +kernel, rfl, by decide +kernel, by decide +kernel⟩
theorem scTableNextOpen : FnScope ["self", "day"] ["self", "day"] (defScope sTableNextOpen) := ⟨rfl, rfl, rfl, by decide +kernel, rfl, by decide +kernel, by decide +kernel⟩
theorem scFirstDue : FnScope ["table", "day", "pauses", "told", "first", "last"] ["table", "day", "pauses"] (defScope sFirstDue) := ⟨rfl, rfl, rfl, by decide +kernel, rfl, by decide +kernel, by decide +kernel⟩
theorem scLastDay : FnScope ["kind", "start", "units", "pauses", "full"] ["kind", "start", "units", "pauses"] (defScope sLastDay) := ⟨rfl, rfl, rfl, by decide +kernel, rfl, by decide +kernel, by decide +kernel⟩
theorem scIsFreeWithin : FnScope ["within", "week", "yearly"] ["within", "week", "yearly"] (defScope sIsFreeWithin) := ⟨rfl, rfl, rfl, by decide +kernel, rfl, by decide +kernel, by decide +kernel⟩
theorem scCountedUp : FnScope ["free_days", "counts", "free"] ["free_days"] (defScope sCountedUp) := ⟨rfl, rfl, rfl, by decide +kernel, rfl, by decide +kernel, by decide +kernel⟩
theorem scIsWeekday : FnScope ["thing"] ["thing"] (defScope sIsWeekday) := ⟨rfl, rfl, rfl, by decide +kernel, rfl, by decide +kernel, by decide +kernel⟩
theorem scRefuseWeek : FnScope ["week", "at", "thing"] ["week"] (defScope sRefuseWeek) := ⟨rfl, rfl, rfl, by decide +kernel, rfl, by decide +kernel, by decide +kernel⟩
theorem scIsYearly : FnScope ["thing"] ["thing"] (defScope sIsYearly) := ⟨rfl, rfl, rfl, by decide +kernel, rfl, by decide +kernel, by decide +kernel⟩
theorem scRefuseYearly : FnScope ["yearly", "at", "thing"] ["yearly"] (defScope sRefuseYearly) := ⟨rfl, rfl, rfl, by decide +kernel, rfl, by decide +kernel, by decide +kernel⟩
theorem scListOrEmpty : FnScope ["things"] ["things"] (defScope sListOrEmpty) := ⟨rfl, rfl, rfl, by decide +kernel, rfl, by decide +kernel, by decide +kernel⟩
theorem scIsRow : FnScope ["row"] ["row"] (defScope sIsRow) := ⟨rfl, rfl, rfl, by decide +kernel, rfl, by decide +kernel, by decide +kernel⟩
theorem scRefuseRows : FnScope ["rows", "at", "row"] ["rows"] (defScope sRefuseRows) := ⟨rfl, rfl, rfl, by decide +kernel, rfl, by decide +kernel, by decide +kernel⟩
theorem scLawCellAt : FnScope ["_law_script", "_law_k"] ["_law_script", "_law_k"] (defScope sLawCellAt) := ⟨rfl, rfl, rfl, by decide +kernel, rfl, by decide +kernel, by decide +kernel⟩
theorem scLawWords : FnScope ["_law_cell", "_law_many", "_law_letters", "_law_size", "_law_at", "_law_words_here", "_law_k", "_law_far", "_law_word", "_law_j", "_law_on"] ["_law_cell", "_law_many"] (defScope sLawWords) := ⟨rfl, rfl, rfl, by decide +kernel, rfl, by decide +kernel, by decide +kernel⟩
theorem scLawAlike : FnScope ["_law_found", "_law_due_here", "_law_k"] ["_law_found", "_law_due_here"] (defScope sLawAlike) := ⟨rfl, rfl, rfl, by decide +kernel, rfl, by decide +kernel, by decide +kernel⟩
theorem scLawLast : FnScope ["_law_run", "_law_start", "_law_units", "_law_pauses", "_law_day", "_law_still"] ["_law_run"] (defScope sLawLast) := ⟨rfl, rfl, rfl, by decide +kernel, rfl, by decide +kernel, by decide +kernel⟩
theorem scLawShut : FnScope ["_law_pauses", "_law_day"] ["_law_pauses", "_law_day"] (defScope sLawShut) := ⟨rfl, rfl, rfl, by decide +kernel, rfl, by decide +kernel, by decide +kernel⟩
theorem scLawTurned : FnScope ["_law_run", "_law_role_here", "_law_day", "_law_rule_here", "_law_start", "_law_units", "_law_pauses", "_law_used", "_law_size", "_law_last_here"] ["_law_run", "_law_role_here", "_law_day", "_law_rule_here"] (defScope sLawTurned) := ⟨rfl, rfl, rfl, by decide +kernel, rfl, by decide +kernel, by decide +kernel⟩
theorem scRuleInit : FnScope ["self", "name", "who", "owes", "opens", "base", "many", "unit", "still"] ["self", "name", "who", "owes", "opens", "base", "many", "unit", "still"] (defScope sRuleInit) := ⟨rfl, rfl, rfl, by decide +kernel, rfl, by decide +kernel, by decide +kernel⟩
theorem scLawRule : FnScope ["_law_script", "_law_kinds", "_law_names", "_law_cell", "_law_more", "_law_unit", "_law_rule_here"] ["_law_script", "_law_kinds", "_law_names"] (defScope sLawRule) := ⟨rfl, rfl, rfl, by decide +kernel, rfl, by decide +kernel, by decide +kernel⟩
theorem scRunIsOver : FnScope ["self"] ["self"] (defScope sRunIsOver) := ⟨rfl, rfl, rfl, by decide +kernel, rfl, by decide +kernel, by decide +kernel⟩
theorem scRunStartsOn : FnScope ["self"] ["self"] (defScope sRunStartsOn) := ⟨rfl, rfl, rfl, by decide +kernel, rfl, by decide +kernel, by decide +kernel⟩
theorem scRunLastsTo : FnScope ["self", "start"] ["self"] (defScope sRunLastsTo) := ⟨rfl, rfl, rfl, by decide +kernel, rfl, by decide +kernel, by decide +kernel⟩
theorem scRunStateWord : FnScope ["self", "last"] ["self", "last"] (defScope sRunStateWord) := ⟨rfl, rfl, rfl, by decide +kernel, rfl, by decide +kernel, by decide +kernel⟩
theorem scRunAccount : FnScope ["self", "start", "last"] ["self"] (defScope sRunAccount) := ⟨rfl, rfl, rfl, by decide +kernel, rfl, by decide +kernel, by decide +kernel⟩
theorem scLawTold : FnScope ["_law_run", "_law_due_here", "_law_over", "_law_last_here", "_law_found"] ["_law_run", "_law_due_here", "_law_over"] (defScope sLawTold) := ⟨rfl, rfl, rfl, by decide +kernel, rfl, by decide +kernel, by decide +kernel⟩
theorem scLawDue : FnScope ["_law_held", "_law_run", "_law_over", "_law_rows", "_law_last_here", "_law_word"] ["_law_held", "_law_run", "_law_over", "_law_rows"] (defScope sLawDue) := ⟨rfl, rfl, rfl, by decide +kernel, rfl, by decide +kernel, by decide +kernel⟩
theorem scLawRole : FnScope ["_law_cell", "_law_some"] ["_law_cell"] (defScope sLawRole) := ⟨rfl, rfl, rfl, by decide +kernel, rfl, by decide +kernel, by decide +kernel⟩
theorem scRunSetOut : FnScope ["self", "day", "base"] ["self", "day", "base"] (defScope sRunSetOut) := ⟨rfl, rfl, rfl, by decide +kernel, rfl, by decide +kernel, by decide +kernel⟩
theorem scRunInit : FnScope ["self", "rule", "table", "name", "day", "base"] ["self", "rule", "table", "name", "day", "base"] (defScope sRunInit) := ⟨rfl, rfl, rfl, by decide +kernel, rfl, by decide +kernel, by decide +kernel⟩
theorem scPatternInit : FnScope ["self", "week", "yearly"] ["self", "week", "yearly"] (defScope sPatternInit) := ⟨rfl, rfl, rfl, by decide +kernel, rfl, by decide +kernel, by decide +kernel⟩
theorem scTableInit : FnScope ["self", "week", "yearly", "rows", "row"] ["self", "week", "yearly", "rows"] (defScope sTableInit) := ⟨rfl, rfl, rfl, by decide +kernel, rfl, by decide +kernel, by decide +kernel⟩
theorem scRuleRoleInStill : FnScope ["self", "kind"] ["self", "kind"] (defScope sRuleRoleInStill) := ⟨rfl, rfl, rfl, by decide +kernel, rfl, by decide +kernel, by decide +kernel⟩
theorem scRuleRole : FnScope ["self", "kind"] ["self", "kind"] (defScope sRuleRole) := ⟨rfl, rfl, rfl, by decide +kernel, rfl, by decide +kernel, by decide +kernel⟩
theorem scRunIsHalted : FnScope ["self"] ["self"] (defScope sRunIsHalted) := ⟨rfl, rfl, rfl, by decide +kernel, rfl, by decide +kernel, by decide +kernel⟩
theorem scRunGoOn : FnScope ["self", "day", "first"] ["self", "day"] (defScope sRunGoOn) := ⟨rfl, rfl, rfl, by decide +kernel, rfl, by decide +kernel, by decide +kernel⟩
theorem scRunFinish : FnScope ["self", "day"] ["self", "day"] (defScope sRunFinish) := ⟨rfl, rfl, rfl, by decide +kernel, rfl, by decide +kernel, by decide +kernel⟩
theorem scRunIsUnderWay : FnScope ["self", "day", "start", "last"] ["self", "day"] (defScope sRunIsUnderWay) := ⟨rfl, rfl, rfl, by decide +kernel, rfl, by decide +kernel, by decide +kernel⟩
theorem scRunBeginAnew : FnScope ["self", "day"] ["self", "day"] (defScope sRunBeginAnew) := ⟨rfl, rfl, rfl, by decide +kernel, rfl, by decide +kernel, by decide +kernel⟩
theorem scRunLengthen : FnScope ["self", "kind", "done", "other", "units", "times"] ["self", "kind"] (defScope sRunLengthen) := ⟨rfl, rfl, rfl, by decide +kernel, rfl, by decide +kernel, by decide +kernel⟩
theorem scRunHalt : FnScope ["self", "day"] ["self", "day"] (defScope sRunHalt) := ⟨rfl, rfl, rfl, by decide +kernel, rfl, by decide +kernel, by decide +kernel⟩
theorem scRunWorks : FnScope ["self", "word", "day", "kind"] ["self", "word", "day", "kind"] (defScope sRunWorks) := ⟨rfl, rfl, rfl, by decide +kernel, rfl, by decide +kernel, by decide +kernel⟩
theorem scRunFeel : FnScope ["self", "name", "day", "kind", "word"] ["self", "name", "day", "kind"] (defScope sRunFeel) := ⟨rfl, rfl, rfl, by decide +kernel, rfl, by decide +kernel, by decide +kernel⟩
theorem scLaw : FnScope ["_law_script", "_law_names", "_law_kinds", "_law_rule_here", "_law_day", "_law_run", "_law_held", "_law_rows", "_law_over", "_law_early", "_law_first", "_law_k", "_law_cell", "_law_role_here", "_law_which", "_law_behind", "_law_done", "_law_felt"] ["_law_script"] (defScope sLaw) := ⟨rfl, rfl, rfl, by decide +kernel, rfl, by decide +kernel, by decide +kernel⟩
seal PySem.Sem.wp
open Add Lay Mrg Tab Cal
noncomputable abbrev Rw := Row Str
noncomputable def enc (r : Rw) : List V := [.int r.1, .int r.2.1, .str r.2.2]
theorem use {p G R : Prop} (m : (p → G) → R) (l : p → G) : R := m l
theorem useH {p G : Hp → Prop} {R : Prop} (m : (∀ x, p x → G x) → R) (l : ∀ x, p x → G x) : R := m l
theorem use2 {S T : Type} {p G : S → T → Prop} {R : Prop} (m : (∀ x y, p x y → G x y) → R) (l : ∀ x y, p x y → G x y) : R := m l
theorem iteD {c A B : Prop} [Decidable c] (hc : c) (h : A) : if decide c = true then A else B := by rw [if_pos (decide_eq_true hc)]; exact h
theorem iteDn {c A B : Prop} [Decidable c] (hc : ¬ c) (h : B) : if decide c = true then A else B := by rw [decide_eq_false hc]; exact h
theorem iteND {c A B : Prop} [Decidable c] (hc : c) (h : B) : if (!decide c) = true then A else B := by rw [decide_eq_true hc]; exact h
theorem qy {H : Hp} {p : Addr} {o : HO} (hp : H p = none) : Same H (upd H p o) := fun b u e => by rw [qr (ne_of_none e hp)]; exact e
theorem alc {H : Hp} {p : Addr} {o : HO} (hp : H p = none) : Same H (upd H p o) ∧ upd H p o p = some o := ⟨qy hp, qm⟩
theorem fits {n : Nat} (h : n ≤ 100000) : n ≤ sizeLine := by rw [sizeLine_eq]; omega
theorem lt1000 {xs : List V} (h : xs.length ≤ 90000) : xs.length < sizeLine := by rw [sizeLine_eq]; omega
theorem fit0 : ([] : List V).length ≤ sizeLine := fits (by decide)
theorem fit2 (x y : V) : [x, y].length ≤ sizeLine := fits (show 2 ≤ 100000 by decide)
theorem fit3 (x y z : V) : [x, y, z].length ≤ sizeLine := fits (show 3 ≤ 100000 by decide)
noncomputable def spPlace : Sp := fun vs H Q _ => ∃ (p : Addr) (us : List V) (ts : List (List V)) (es : List Int) (d : Int), vs = [.ref p, .int d] ∧ H p = some (.lst us) ∧ Tups H us ts ∧ (∀ (i : Nat) (e : Int), es[i]? = some e → ∃ t : List V, ts[i]? = some t ∧ atI t 1 = some (V.int e)) ∧ ts.length = es.length ∧ es.Pairwise (· < ·) ∧ Q (.int (cnt es d : Nat)) H
theorem enc_ends {rs : List Rw} {i : Nat} {e : Int} (h : (ends rs)[i]? = some e) : ∃ t, (rs.map enc)[i]? = some t ∧ atI t 1 = some (.int e) := by
 rw [List.getElem?_map] at h ⊢
 cases q : rs[i]? with
 | none => rw [q] at h; cases h
 | some r => rw [q] at h; cases h; exact ⟨_, rfl, rfl⟩
noncomputable def At (H : Hp) (p : Addr) (rs : List Rw) : Prop := ∃ us, H p = some (.lst us) ∧ Tups H us (rs.map enc)
theorem At.same {H H' : Hp} {p : Addr} {rs : List Rw} (h : At H p rs) (s : Same H H') : At H' p rs := by
 obtain ⟨us, h1, h2⟩ := h
 exact ⟨us, s _ _ h1, h2.same s⟩
noncomputable def spOver : Sp := fun vs H Q _ => ∃ (p : Addr) (rs : List Rw) (f l : Int) (w : Str), vs = [.ref p, .int f, .int l, .str w] ∧ At H p rs ∧ Dis rs ∧ f ≤ l ∧ rs.length ≤ 1000 ∧ ∀ q H', H q = none → Same H H' → At H' q (over rs f l w) → Q (.ref q) H'
theorem lenI {us : List V} {rs : List Rw} {n : Nat} (lu : us.length = rs.length) (h : n < rs.length) : (n : Int) < (us.length : Int) := Int.ofNat_lt.mpr (lu ▸ h)
theorem sn1 {us : List V} {v : V} (h : us.length ≤ 1000) : (us ++ [v]).length ≤ 1200 := by rw [List.length_append]; exact Nat.le_trans (Nat.add_le_add_right h 1) (by decide)
theorem sn15 {us : List V} {v : V} (h : us.length ≤ 1200) : (us ++ [v]).length ≤ 1500 := by rw [List.length_append]; exact Nat.le_trans (Nat.add_le_add_right h 1) (by decide)
theorem sn2 {us : List V} {v : V} (h : us.length ≤ 1500) : (us ++ [v]).length ≤ 2000 := by rw [List.length_append]; exact Nat.le_trans (Nat.add_le_add_right h 1) (by decide)
theorem tn_lt {a b : Int} (h : a < b) (h0 : 0 < b) : a.toNat < b.toNat := by omega
theorem mid {lo hi : Int} (h0 : 0 ≤ lo) (h : lo < hi) : ∃ j : Nat, (lo + hi) / 2 = (j : Int) ∧ lo ≤ (j : Int) ∧ (j : Int) < hi := ⟨((lo + hi) / 2).toNat, by omega⟩
noncomputable def encG {W : Type} (e : W → V) (r : Row W) : List V := [.int r.1, .int r.2.1, e r.2.2]
noncomputable def AtG {W : Type} (e : W → V) (H : Hp) (p : Addr) (rs : List (Row W)) : Prop := ∃ us, H p = some (.lst us) ∧ Tups H us (rs.map (encG e))
theorem AtG.len {W : Type} {e : W → V} {H : Hp} {rs : List (Row W)} {us : List V} (t : Tups H us (rs.map (encG e))) : us.length = rs.length := by rw [t.length, List.length_map]
theorem AtG.row {W : Type} {e : W → V} {H : Hp} {rs : List (Row W)} {us : List V} (t : Tups H us (rs.map (encG e))) {i : Nat} {r : Row W} (h : rs[i]? = some r) : ∃ a, us[i]? = some (.ref a) ∧ H a = some (.tup (encG e r)) := t.get (by rw [List.getElem?_map, h]; rfl)
theorem map_getG {W : Type} {e : W → V} {rs : List (Row W)} {i : Nat} {t : List V} (h : (rs.map (encG e))[i]? = some t) : ∃ r, rs[i]? = some r ∧ t = encG e r := by
 rw [List.getElem?_map] at h
 cases q : rs[i]? with
 | none => rw [q] at h; cases h
 | some r => rw [q] at h; cases h; exact ⟨r, rfl, rfl⟩
noncomputable def spJoin : Sp := fun vs H Q _ => ∃ (W : Type) (dq : DecidableEq W) (e : W → V) (p : Addr) (rs : List (Row W)), vs = [.ref p] ∧ (∀ x y, e x = e y → x = y) ∧ (∀ x y, scal (e x) (e y) = true) ∧ AtG e H p rs ∧ rs.length ≤ 1000 ∧ ∀ q H', H q = none → Same H H' → AtG e H' q (jn rs) → Q (.ref q) H'
noncomputable def spOv : Sp := fun vs H Q _ => ∃ (p : Addr) (rs : List Rw), vs = [.ref p] ∧ At H p rs ∧ (∀ r ∈ rs, r.1 ≤ r.2.1) ∧ rs.length ≤ 100 ∧ ∀ q H', H q = none → Same H H' → At H' q (ov rs) → Q (.ref q) H'
theorem atI_of {vs : List V} {k : Int} {j : Nat} {v : V} (h : vs[j]? = some v) (e : k = (j : Int)) : atI vs k = some v := by rw [e]; exact atI_nat h
theorem cut_take (vs : List V) (b : Nat) (h : b ≤ vs.length) : cutV vs none (some (b : Int)) = vs.take b := by
 unfold cutV
 have e1 : HT.sIx vs.length 0 none = 0 := rfl
 have e2 : HT.sIx vs.length vs.length (some (b : Int)) = b := by
  simp only [HT.sIx]
  split <;> omega
 rw [e1, e2]
 simp
theorem cut_drop (vs : List V) (b : Nat) (h : b ≤ vs.length) : cutV vs (some (b : Int)) none = vs.drop b := by
 unfold cutV
 have e1 : HT.sIx vs.length vs.length none = vs.length := rfl
 have e2 : HT.sIx vs.length 0 (some (b : Int)) = b := by
  simp only [HT.sIx]
  split <;> omega
 rw [e1, e2]
 rw [List.take_of_length_le (by rw [List.length_drop]; omega)]
theorem cnt_mono {es : List Int} {a b : Int} (h : a ≤ b) : cnt es a ≤ cnt es b := by
 induction es with
 | nil => exact Nat.le_refl _
 | cons e es ih => rw [cnt_cons, cnt_cons]; split <;> split <;> omega
theorem over_len {rs : List Rw} {f l : Int} (w : Str) (h : Dis rs) (hf : f ≤ l) : (over rs f l w).length ≤ rs.length + 3 := by
 have h1 : (left rs f).length ≤ cnt (ends rs) f + 1 := by
  rw [left_code f h, List.length_append, List.length_take]
  cases rs[cnt (ends rs) f]? with
  | none => exact Nat.le_succ_of_le (Nat.min_le_left _ _)
  | some r =>
   show min _ _ + (if r.1 < f then [(r.1, f - 1, r.2.2)] else ([] : List (Row Str))).length ≤ _
   split
   ·exact Nat.succ_le_succ (Nat.min_le_left _ _)
   ·exact Nat.le_succ_of_le (Nat.min_le_left _ _)
 have h2 : (right rs l).length ≤ rs.length - cnt (ends rs) (l + 1) + 1 := by
  rw [right_code l h]
  cases rs[cnt (ends rs) (l + 1)]? with
  | none => exact Nat.zero_le _
  | some r =>
   show (if r.1 ≤ l then ((l + 1, r.2.1, r.2.2) : Rw) :: rs.drop (cnt (ends rs) (l + 1) + 1) else rs.drop (cnt (ends rs) (l + 1))).length ≤ _
   split
   ·rw [List.length_cons, List.length_drop]; exact Nat.succ_le_succ (Nat.sub_le_sub_left (Nat.le_succ _) _)
   ·rw [List.length_drop]; exact Nat.le_succ _
 have h3 := cnt_mono (es := ends rs) (Int.le_add_one hf)
 have h4 := cnt_le (ends rs) (l + 1)
 rw [List.length_map] at h4
 unfold over
 rw [List.length_append, List.length_cons]
 omega
theorem lay_len {rs : List Rw} (h : ∀ r ∈ rs, r.1 ≤ r.2.1) : (lay rs).length ≤ 3 * rs.length := by
 have step : ∀ (ss laid : List Rw), (∀ r ∈ ss, r.1 ≤ r.2.1) → Dis laid → (ss.foldl (fun laid r => over laid r.1 r.2.1 r.2.2) laid).length ≤ laid.length + 3 * ss.length := by
  intro ss
  induction ss with
  | nil => intro laid _ _; exact Nat.le_refl _
  | cons r ss ih =>
   intro laid h0 h1
   have hr := h0 r List.mem_cons_self
   have := ih (over laid r.1 r.2.1 r.2.2) (fun s hs => h0 s (List.mem_cons_of_mem _ hs)) (over_dis _ h1 hr)
   have := over_len r.2.2 h1 hr
   rw [List.foldl_cons, List.length_cons]
   omega
 have := step rs [] h ⟨(fun _ h => absurd h List.not_mem_nil), List.Pairwise.nil⟩
 simpa [lay] using this
theorem jn1_len {W : Type} [DecidableEq W] (told : List (Row W)) (r : Row W) : (jn1 told r).length ≤ told.length + 1 := by
 rcases List.eq_nil_or_concat told with rfl | ⟨rs, t, rfl⟩
 ·exact Nat.le_refl _
 ·rw [List.concat_eq_append, jn1_snoc]
  split <;> simp
theorem jn_len {W : Type} [DecidableEq W] (rs : List (Row W)) : (jn rs).length ≤ rs.length := by
 have step : ∀ (ss told : List (Row W)), (ss.foldl jn1 told).length ≤ told.length + ss.length := by
  intro ss
  induction ss with
  | nil => intro told; exact Nat.le_refl _
  | cons r ss ih =>
   intro told
   have := ih (jn1 told r)
   have := jn1_len told r
   rw [List.foldl_cons, List.length_cons]
   omega
 have := step rs []
 simpa [jn] using this
theorem jn_snoc {W : Type} [DecidableEq W] (rs : List (Row W)) (r : Row W) : jn (rs ++ [r]) = jn1 (jn rs) r := by unfold jn; rw [List.foldl_append]; rfl
theorem take_snoc {α : Type} {xs : List α} {i : Nat} {x : α} (h : xs[i]? = some x) : xs.take (i + 1) = xs.take i ++ [x] := by rw [List.take_add_one, h]; rfl
theorem map_get {rs : List Rw} {i : Nat} {t : List V} (h : (rs.map enc)[i]? = some t) : ∃ r, rs[i]? = some r ∧ t = enc r := by
 rw [List.getElem?_map] at h
 cases q : rs[i]? with
 | none => rw [q] at h; cases h
 | some r => rw [q] at h; cases h; exact ⟨r, rfl, rfl⟩
theorem At.len {H : Hp} {rs : List Rw} {us : List V} (t : Tups H us (rs.map enc)) : us.length = rs.length := by rw [t.length, List.length_map]
theorem At.row {H : Hp} {rs : List Rw} {us : List V} (t : Tups H us (rs.map enc)) {i : Nat} {r : Rw} (h : rs[i]? = some r) : ∃ a, us[i]? = some (.ref a) ∧ H a = some (.tup (enc r)) := t.get (by rw [List.getElem?_map, h]; rfl)
theorem lay_take {rs : List Rw} (h : ∀ r ∈ rs, r.1 ≤ r.2.1) (i : Nat) : ∀ r ∈ rs.take i, r.1 ≤ r.2.1 := fun r hr => h r (List.mem_of_mem_take hr)
theorem set_last (us : List V) (x v : V) : (us ++ [x]).set us.length v = us ++ [v] := by simp
theorem ix_last (us : List V) (x : V) : ixN (us ++ [x]).length (-1) = some us.length := by
 unfold ixN
 rw [List.length_append, List.length_singleton, if_neg (by decide), if_pos (by omega)]
 congr 1
 omega
noncomputable def sp1 (g : Int → V) : Sp := fun vs H Q _ => ∃ y : Int, vs = [.int y] ∧ Q (g y) H
noncomputable def spWeekday : Sp := fun vs H Q _ => ∃ n : Int, vs = [.int n] ∧ 0 ≤ n ∧ Q (.int (n % 7 + 1)) H
noncomputable def spDateOf : Sp := fun vs H Q _ => ∃ n : Int, vs = [.int n] ∧ 0 ≤ n ∧ ∀ p, H p = none → Q (.ref p) (upd H p (.tup [.int (yo (n / 7)), .int (n / 7 - fw (yo (n / 7)) + 1), .int (n % 7 + 1)]))
noncomputable def doy (n : Int) : Int := n - 7 * fw (yo (n / 7))
theorem doy_in {n : Int} (h : 0 ≤ n) : 0 ≤ doy n ∧ doy n < 371 := by
 have h1 := lies (n / 7)
 have h2 := fw_next (yo (n / 7))
 have h3 := wk_in (yo (n / 7))
 unfold doy
 omega
theorem doy_mod (n : Int) : doy n % 7 = n % 7 := by unfold doy; omega
noncomputable def spDoy : Sp := fun vs H Q _ => ∃ n : Int, vs = [.int n] ∧ 0 ≤ n ∧ ∀ H', Same H H' → Q (.int (doy n)) H'
noncomputable def spWd : Sp := fun vs H Q _ => ∃ n : Int, vs = [.int n] ∧ 1 ≤ n ∧ n ≤ 7 ∧ Q (.bl true) H
noncomputable def spStr : Sp := fun vs H Q _ => ∃ f l m : Int, vs = [.int f, .int l, .int m] ∧ 0 ≤ f ∧ f ≤ l ∧ l < f + m ∧ Q (.bl true) H
noncomputable def AtP (H : Hp) (p : Addr) (rs : List S2) : Prop := ∃ us, H p = some (.lst us) ∧ Tups H us (rs.map encP)
theorem AtP.same {H H' : Hp} {p : Addr} {rs : List S2} (h : AtP H p rs) (s : Same H H') : AtP H' p rs := by
 obtain ⟨us, h1, h2⟩ := h
 exact ⟨us, s _ _ h1, h2.same s⟩
noncomputable def spRefW : Sp := fun vs H Q _ => ∃ (p : Addr) (wk : List Int), vs = [.ref p] ∧ H p = some (.lst (wk.map V.int)) ∧ OkW wk ∧ ∀ H', Same H H' → Q .non H'
noncomputable def spYr : Sp := fun vs H Q _ => ∃ (a : Addr) (r : S2), vs = [.ref a] ∧ H a = some (.tup (encP r)) ∧ 0 ≤ r.1 ∧ r.1 ≤ r.2 ∧ r.2 < r.1 + 30 ∧ r.2 < 364 ∧ Q (.bl true) H
noncomputable def spRefY : Sp := fun vs H Q _ => ∃ (p : Addr) (yr : List S2), vs = [.ref p] ∧ AtP H p yr ∧ OkY yr ∧ ∀ H', Same H H' → Q .non H'
noncomputable def OkR (r : Rw) : Prop := 0 ≤ r.1 ∧ r.1 ≤ r.2.1 ∧ r.2.1 < r.1 + 40 ∧ (r.2.2 = Str.ofString "free" ∨ r.2.2 = Str.ofString "open")
noncomputable def spRw : Sp := fun vs H Q _ => ∃ (a : Addr) (r : Rw), vs = [.ref a] ∧ H a = some (.tup (enc r)) ∧ OkR r ∧ Q (.bl true) H
noncomputable def spRefR : Sp := fun vs H Q _ => ∃ (p : Addr) (rs : List Rw), vs = [.ref p] ∧ At H p rs ∧ rs.length ≤ 12 ∧ (∀ r ∈ rs, OkR r) ∧ ∀ H', Same H H' → Q .non H'
noncomputable def spFyw : Sp := fun vs H Q _ => ∃ (i : Int) (pw py : Addr) (wk : List Int) (yr : List S2), vs = [.int i, .ref pw, .ref py] ∧ H pw = some (.lst (wk.map V.int)) ∧ AtP H py yr ∧ yr.length ≤ 100 ∧ ∀ H', Same H H' → Q (.bl (fy wk yr i)) H'
noncomputable def spCu : Sp := fun vs H Q _ => ∃ (p : Addr) (bs : List Bool), vs = [.ref p] ∧ H p = some (.lst (bs.map V.bl)) ∧ bs.length ≤ 1000 ∧ ∀ q H', H q = none → Same H H' → H' q = some (.lst ((cuL bs).map V.int)) → Q (.ref q) H'
theorem dup {wk : List Int} {i : Nat} {x : Int} (nd : wk.Nodup) (h : wk[i]? = some x) : (wk.take i).contains x = false := by
 rw [Bool.eq_false_iff]
 intro z
 rw [List.contains_iff_mem] at z
 obtain ⟨j, hj, e⟩ := List.getElem_of_mem z
 rw [List.length_take] at hj
 rw [List.getElem_take] at e
 obtain ⟨hi, e2⟩ := List.getElem?_eq_some_iff.mp h
 exact List.pairwise_iff_getElem.mp nd j i (Nat.lt_of_lt_of_le hj (Nat.min_le_right _ _)) hi (Nat.lt_of_lt_of_le hj (Nat.min_le_left _ _)) (by rw [e, e2])
theorem map_getP {rs : List S2} {i : Nat} {t : List V} (h : (rs.map encP)[i]? = some t) : ∃ r, rs[i]? = some r ∧ t = encP r := by
 rw [List.getElem?_map] at h
 cases q : rs[i]? with
 | none => rw [q] at h; cases h
 | some r => rw [q] at h; cases h; exact ⟨r, rfl, rfl⟩
noncomputable abbrev pfs (a1 a2 a3 : Addr) : List (Str × V) := [(Str.ofString "free_days", .ref a1), (Str.ofString "open_days", .ref a2), (Str.ofString "open_before", .ref a3)]
theorem put1 (f : Str) (u : V) : putF f u [] = [(f, u)] := rfl
theorem put2 {f g : Str} (u v : V) (h : f ≠ g) : putF g v [(f, u)] = [(f, u), (g, v)] := by unfold putF; rw [if_neg h]; rfl
theorem put3 {f g e : Str} (u v x : V) (h : f ≠ e) (h2 : g ≠ e) : putF e x [(f, u), (g, v)] = [(f, u), (g, v), (e, x)] := by
 show (if f = e then _ else (f, u) :: (if g = e then _ else (g, v) :: putF e x [])) = _
 rw [if_neg h, if_neg h2]; rfl
noncomputable def PatAt (C : Addr) (H : Hp) (p : Addr) (bs : List Bool) : Prop := ∃ (dx a1 a2 a3 : Addr), H p = some (.ins C dx (pfs a1 a2 a3)) ∧ H a1 = some (.lst (bs.map V.bl)) ∧ H a2 = some (.lst ((odL bs).map V.int)) ∧ H a3 = some (.lst ((cuL bs).map V.int)) ∧ bs.length = 371
theorem PatAt.same {C : Addr} {H H' : Hp} {p : Addr} {bs : List Bool} (h : PatAt C H p bs) (s : Same H H') : PatAt C H' p bs := by
 obtain ⟨dx, a1, a2, a3, h1, h5, h6, h7, h8⟩ := h
 exact ⟨dx, a1, a2, a3, s _ _ h1, s _ _ h5, s _ _ h6, s _ _ h7, h8⟩
theorem PatAt.upd {C : Addr} {H : Hp} {p d a1 a2 a3 z : Addr} {bs : List Bool} {o : HO} (h1 : H p = some (.ins C d (pfs a1 a2 a3))) (h2 : H a1 = some (.lst (bs.map V.bl))) (h3 : H a2 = some (.lst ((odL bs).map V.int))) (h4 : H a3 = some (.lst ((cuL bs).map V.int))) (n0 : p ≠ z) (n1 : a1 ≠ z) (n2 : a2 ≠ z) (n3 : a3 ≠ z) :
  L2.upd H z o p = some (.ins C d (pfs a1 a2 a3)) ∧ L2.upd H z o a1 = some (.lst (bs.map V.bl)) ∧ L2.upd H z o a2 = some (.lst ((odL bs).map V.int)) ∧ L2.upd H z o a3 = some (.lst ((cuL bs).map V.int)) :=
 ⟨(qr n0).trans h1, (qr n1).trans h2, (qr n2).trans h3, (qr n3).trans h4⟩
noncomputable def SameBut (x : Addr) (H H' : Hp) : Prop := ∀ b o, b ≠ x → H b = some o → H' b = some o
theorem SameBut.of {x : Addr} {H H' : Hp} (s : Same H H') : SameBut x H H' := fun b o _ e => s b o e
theorem SameBut.trans {x : Addr} {H H1 H2 : Hp} (a : SameBut x H H1) (b : SameBut x H1 H2) : SameBut x H H2 := fun c o n e => b c o n (a c o n e)
theorem SameBut.set {x : Addr} {H H' : Hp} {o : HO} (a : SameBut x H H') : SameBut x H (upd H' x o) := fun b u n e => by rw [qr n]; exact a b u n e
theorem SameBut.made {x dx : Addr} {H H' : Hp} {o u : HO} (a : SameBut x (upd (upd H dx u) x o) H') (hx : H x = none) (hd : H dx = none) : Same H H' := fun b v e =>
 a b v (ne_of_none e hx) (by rw [qr (ne_of_none e hx), qr (ne_of_none e hd)]; exact e)
theorem SameBut.free {x q : Addr} {H H' : Hp} (b : SameBut x H H') (n : q ≠ x) (h : H' q = none) : H q = none := by
 cases e : H q with
 | none => rfl
 | some o => rw [b q o n e] at h; cases h
noncomputable def Rest (x : Addr) (H H' H2 : Hp) : Prop := ∀ b o, (H b = none ∨ b = x ∨ ∃ t, o = .tup t) → H' b = some o → H2 b = some o
theorem tups_rest {x : Addr} {H H' H2 : Hp} {us : List V} {ts : List (List V)} (r : Rest x H H' H2) (t : Tups H' us ts) : Tups H2 us ts := by
 induction t with
 | nil => exact .nil
 | cons h _ ih => exact .cons (r _ _ (.inr (.inr ⟨_, rfl⟩)) h) ih
noncomputable def spPInit (a : Adr) : Sp := fun vs H Q _ => ∃ (x dx pw py : Addr) (wk : List Int) (yr : List S2), vs = [.ref x, .ref pw, .ref py] ∧ H x = some (.ins a.cPattern dx []) ∧ H pw = some (.lst (wk.map V.int)) ∧ AtP H py yr ∧ OkW wk ∧ OkY yr ∧
 ∀ H', SameBut x H H' → (∀ H2, Rest x H H' H2 → PatAt a.cPattern H2 x (fdL wk yr)) → Q .non H'
noncomputable def pby (bs : List Bool) (y : Int) : Int := y * opn bs 364 + lb y * (opn bs 371 - opn bs 364)
noncomputable def pbef (bs : List Bool) (n : Int) : Int := pby bs (yo (n / 7)) + opn bs (doy n).toNat
noncomputable def spPBy (a : Adr) : Sp := fun vs H Q _ => ∃ (x : Addr) (bs : List Bool) (y : Int), vs = [.ref x, .int y] ∧ PatAt a.cPattern H x bs ∧ Q (.int (pby bs y)) H
noncomputable def spPBef (a : Adr) : Sp := fun vs H Q _ => ∃ (x : Addr) (bs : List Bool) (n : Int), vs = [.ref x, .int n] ∧ PatAt a.cPattern H x bs ∧ 0 ≤ n ∧ ∀ H', Same H H' → Q (.int (pbef bs n)) H'
inductive SpOr (vs : List V) (H : Hp) (Q : VK) : Prop where
 | non (e : vs = [.non]) (k : ∀ q, H q = none → Q (.ref q) (upd H q (.lst [])))
 | ref (p : Addr) (e : vs = [.ref p]) (k : Q (.ref p) H)
noncomputable def spOr : Sp := fun vs H Q _ => SpOr vs H Q
noncomputable def shf (bs : List Bool) (r : Rw) (e : Int) : Int := (if r.2.2 = Str.ofString "open" then e - r.1 else 0) - (pbef bs e - pbef bs r.1)
noncomputable def shL (bs : List Bool) (rs : List Rw) : List Int := (List.range (rs.length + 1)).map fun k => ((rs.take k).map fun r => shf bs r (r.2.1 + 1)).sum
theorem shL_at (bs : List Bool) (rs : List Rw) {k : Nat} (h : k ≤ rs.length) : (shL bs rs)[k]? = some ((rs.take k).map fun r => shf bs r (r.2.1 + 1)).sum := by
 unfold shL
 rw [List.getElem?_map, List.getElem?_range (by omega)]
 rfl
noncomputable abbrev tfs (p q z : Addr) : List (Str × V) := [(Str.ofString "pattern", .ref p), (Str.ofString "rows", .ref q), (Str.ofString "shifts", .ref z)]
noncomputable def TabAt (Cp C : Addr) (H : Hp) (t : Addr) (bs : List Bool) (rs : List Rw) : Prop := ∃ (dx p q z : Addr), H t = some (.ins C dx (tfs p q z)) ∧ PatAt Cp H p bs ∧ At H q rs ∧ H z = some (.lst ((shL bs rs).map V.int))
theorem TabAt.same {Cp C : Addr} {H H' : Hp} {t : Addr} {bs : List Bool} {rs : List Rw} (h : TabAt Cp C H t bs rs) (s : Same H H') : TabAt Cp C H' t bs rs := by
 obtain ⟨dx, p, q, z, h1, h5, h6, h7⟩ := h
 exact ⟨dx, p, q, z, s _ _ h1, h5.same s, h6.same s, s _ _ h7⟩
theorem over_nn {rs : List Rw} {f l : Int} {w : Str} (h : ∀ r ∈ rs, 0 ≤ r.1) (hf : 0 ≤ f) : ∀ r ∈ over rs f l w, 0 ≤ r.1 := fun r hr => by
 rcases List.mem_append.mp hr with hr | hr
 ·obtain ⟨s, hs, e⟩ := List.mem_filterMap.mp hr
  have := h s hs
  split at e
  ·injection e with e; subst e; exact this
  ·cases e
 ·rcases List.mem_cons.mp hr with rfl | hr
  ·exact hf
  ·obtain ⟨s, hs, e⟩ := List.mem_filterMap.mp hr
   have := h s hs
   split at e
   ·injection e with e; subst e; show 0 ≤ max s.1 (l + 1); omega
   ·cases e
theorem lay_nn {rs : List Rw} (h : ∀ r ∈ rs, 0 ≤ r.1) : ∀ r ∈ lay rs, 0 ≤ r.1 := by
 have step : ∀ (ss laid : List Rw), (∀ r ∈ ss, 0 ≤ r.1) → (∀ r ∈ laid, 0 ≤ r.1) → ∀ r ∈ ss.foldl (fun laid r => over laid r.1 r.2.1 r.2.2) laid, 0 ≤ r.1 := by
  intro ss
  induction ss with
  | nil => intro laid _ h1; exact h1
  | cons r ss ih => intro laid h0 h1; exact ih _ (fun s hs => h0 s (List.mem_cons_of_mem _ hs)) (over_nn h1 (h0 r List.mem_cons_self))
 exact step rs [] h fun _ h => absurd h List.not_mem_nil
theorem jn_nn {rs : List Rw} (h : ∀ r ∈ rs, 0 ≤ r.1) : ∀ r ∈ jn rs, 0 ≤ r.1 := by
 have one : ∀ (told : List Rw) (r : Rw), (∀ t ∈ told, 0 ≤ t.1) → 0 ≤ r.1 → ∀ t ∈ jn1 told r, 0 ≤ t.1 := fun told r h1 h2 => by
  rcases List.eq_nil_or_concat told with rfl | ⟨rs, t, rfl⟩
  ·intro z hz
   have : z = r := by simpa [jn1] using hz
   rw [this]; exact h2
  ·rw [List.concat_eq_append] at h1 ⊢
   rw [jn1_snoc]
   intro z hz
   split at hz
   ·rcases List.mem_append.mp hz with hz | hz
    ·exact h1 z (List.mem_append_left _ hz)
    ·rw [List.mem_singleton.mp hz]; exact h1 t (by simp)
   ·rcases List.mem_append.mp hz with hz | hz
    ·exact h1 z hz
    ·rw [List.mem_singleton.mp hz]; exact h2
 have step : ∀ (ss told : List Rw), (∀ r ∈ ss, 0 ≤ r.1) → (∀ r ∈ told, 0 ≤ r.1) → ∀ r ∈ ss.foldl jn1 told, 0 ≤ r.1 := by
  intro ss
  induction ss with
  | nil => intro told _ h1; exact h1
  | cons r ss ih => intro told h0 h1; exact ih _ (fun s hs => h0 s (List.mem_cons_of_mem _ hs)) (one _ _ h1 (h0 r List.mem_cons_self))
 exact step rs [] h fun _ h => absurd h List.not_mem_nil
theorem ov_nn {rs : List Rw} (h : ∀ r ∈ rs, 0 ≤ r.1) : ∀ r ∈ ov rs, 0 ≤ r.1 := jn_nn (lay_nn h)
theorem tups_but {H H' : Hp} {x C dx : Addr} {fs : List (Str × V)} {us : List V} {ts : List (List V)} (b : SameBut x H H') (hx : H x = some (.ins C dx fs)) (t : Tups H us ts) : Tups H' us ts := by
 induction t with
 | nil => exact .nil
 | cons h _ ih => exact .cons (b _ _ (fun z => by rw [z, hx] at h; cases h) h) ih
noncomputable def spShift (a : Adr) : Sp := fun vs H Q _ => ∃ (x p q z y dx : Addr) (bs : List Bool) (r : Rw) (e : Int), vs = [.ref x, .ref y, .int e] ∧ H x = some (.ins a.cTable dx (tfs p q z)) ∧ PatAt a.cPattern H p bs ∧ H y = some (.tup (enc r)) ∧ 0 ≤ r.1 ∧ 0 ≤ e ∧
 ∀ H', Same H H' → Q (.int (shf bs r e)) H'
noncomputable def OrP (H : Hp) (v : V) (yr : List S2) : Prop := (v = .non ∧ yr = []) ∨ ∃ p, v = .ref p ∧ AtP H p yr
noncomputable def OrR (H : Hp) (v : V) (rs : List Rw) : Prop := (v = .non ∧ rs = []) ∨ ∃ p, v = .ref p ∧ At H p rs
theorem orP {H : Hp} {v : V} {yr : List S2} {Q : VK} (h : OrP H v yr) (k : ∀ p H1, Same H H1 → AtP H1 p yr → Q (.ref p) H1) : SpOr [v] H Q := by
 rcases h with ⟨rfl, rfl⟩ | ⟨p, rfl, t⟩
 ·exact .non rfl fun q hq => k q _ (qy hq) ⟨[], qm, .nil⟩
 ·exact .ref p rfl (k p H (Same.refl H) t)
theorem orR {H : Hp} {v : V} {rs : List Rw} {Q : VK} (h : OrR H v rs) (k : ∀ p H1, Same H H1 → At H1 p rs → Q (.ref p) H1) : SpOr [v] H Q := by
 rcases h with ⟨rfl, rfl⟩ | ⟨p, rfl, t⟩
 ·exact .non rfl fun q hq => k q _ (qy hq) ⟨[], qm, .nil⟩
 ·exact .ref p rfl (k p H (Same.refl H) t)
theorem OrR.but {x C dx : Addr} {fs : List (Str × V)} {H H' : Hp} {v : V} {rs : List Rw} (h : OrR H v rs) (hx : H x = some (.ins C dx fs)) (b : SameBut x H H') : OrR H' v rs := by
 rcases h with h | ⟨p, rfl, us, h1, h2⟩
 ·exact .inl h
 ·exact .inr ⟨p, rfl, us, b _ _ (fun z => by rw [z, hx] at h1; cases h1) h1, tups_but b hx h2⟩
theorem OrR.same {H H' : Hp} {v : V} {rs : List Rw} (h : OrR H v rs) (s : Same H H') : OrR H' v rs := by
 rcases h with h | ⟨p, rfl, us, h1, h2⟩
 ·exact .inl h
 ·exact .inr ⟨p, rfl, us, s _ _ h1, h2.same s⟩
noncomputable def spTInit (a : Adr) : Sp := fun vs H Q _ => ∃ (x dx pw : Addr) (vy vr : V) (wk : List Int) (yr : List S2) (rs : List Rw), vs = [.ref x, .ref pw, vy, vr] ∧ H x = some (.ins a.cTable dx []) ∧ H pw = some (.lst (wk.map V.int)) ∧ OrP H vy yr ∧ OrR H vr rs ∧ OkW wk ∧ OkY yr ∧ rs.length ≤ 12 ∧ (∀ r ∈ rs, OkR r) ∧
 ∀ H', SameBut x H H' → (∀ H2, Rest x H H' H2 → TabAt a.cPattern a.cTable H2 x (fdL wk yr) (ov rs)) → Q .non H'
noncomputable def tfr (bs : List Bool) (rs : List Rw) (n : Int) : Bool := match rs[cnt (ends rs) n]? with
 | some r => if r.1 ≤ n then decide (r.2.2 = Str.ofString "free") else bs.getD (doy n).toNat true
 | none => bs.getD (doy n).toNat true
theorem opB {bs : List Bool} (hl : bs.length = 371) : -(2 ^ 64) < opn bs 364 ∧ opn bs 364 < 2 ^ 64 := by have := opn_le bs 364; omega
theorem opD {bs : List Bool} (hl : bs.length = 371) : -(2 ^ 64) < opn bs 371 - opn bs 364 ∧ opn bs 371 - opn bs 364 < 2 ^ 64 := by have := opn_le bs 364; have := opn_le bs 371; omega
noncomputable def cell (ns : List Int) (k : Int) : Int := ns.getD k.toNat 0
theorem atI_cell {ns : List Int} {k : Int} (h0 : 0 ≤ k) (h : k < ((ns.map V.int).length : Int)) : atI (ns.map V.int) k = some (V.int (cell ns k)) := by
 rw [List.length_map] at h
 have hk : k.toNat < ns.length := (Int.toNat_lt h0).mpr h
 refine atI_of (j := k.toNat) ?_ (Int.toNat_of_nonneg h0).symm
 rw [List.getElem?_map, List.getElem?_eq_getElem hk]
 unfold cell
 rw [List.getD_eq_getElem?_getD, List.getElem?_eq_getElem hk]
 rfl
theorem cell_out {ns : List Int} {k : Int} (h : ¬ k < ((ns.map V.int).length : Int)) : cell ns k = 0 := by
 rw [List.length_map] at h
 unfold cell
 rw [List.getD_eq_getElem?_getD, List.getElem?_eq_none (Int.ofNat_le.mp (Int.le_trans (Int.not_lt.mp h) (Int.self_le_toNat k)))]
 rfl
noncomputable def spCell (K : PySem.W.Frag) : Sp := fun vs H Q _ => ∃ (a : Addr) (ns : List Int) (k : Int), vs = [.ref a, .int k] ∧ SqL K H a (ns.map V.int) ∧ 0 ≤ k ∧ Q (.int (cell ns k)) H
theorem doy_at {n y : Int} (h0 : 0 ≤ n - 7 * fw y) (h1 : n - 7 * fw y < 7 * wk y) : doy n = n - 7 * fw y := by
 have e : yo (n / 7) = y := yo_uniq (by omega) (by rw [fw_next]; omega)
 unfold doy
 rw [e]
noncomputable def lfr (wk : List Int) (yr : List S2) (rs : List Rw) (n : Int) : Bool := if wordF (Str.ofString "") rs n = Str.ofString "" then fy wk yr (doy n) else decide (wordF (Str.ofString "") rs n = Str.ofString "free")
theorem inB_any (yr : List S2) (n : Int) : inB yr n = yr.any fun r => decide (r.1 ≤ n) && decide (n ≤ r.2) := by
 unfold inB
 rfl
theorem fdL_doy {wk : List Int} {yr : List S2} {n : Int} (h0 : 0 ≤ n) : (fdL wk yr).getD (doy n).toNat true = fy wk yr (doy n) := by
 obtain ⟨d0, d1⟩ := doy_in h0
 unfold fdL
 rw [List.getD_eq_getElem?_getD, List.getElem?_map, List.getElem?_range (by omega)]
 show fy wk yr ((doy n).toNat : Int) = _
 rw [Int.toNat_of_nonneg d0]
theorem tfr_lfr {wk : List Int} {yr : List S2} {rs : List Rw} {n : Int} (okr : ∀ r ∈ rs, OkR r) (h0 : 0 ≤ n) : tfr (fdL wk yr) (ov rs) n = lfr wk yr rs n := by
 obtain ⟨ap, wd⟩ := ov_ok fun r hm => (okr r hm).2.1
 have wc := fun a => (wd a n).symm.trans (word_code a n (ap_dis ap))
 have wi := word_in (fun w => w ≠ Str.ofString "") n rs (Str.ofString "free") (by decide +kernel) fun s hs => by
  rcases (okr s hs).2.2.2 with z | z <;> rw [z] <;> decide +kernel
 unfold tfr lfr
 rw [fdL_doy h0]
 have w1 := wc (Str.ofString "")
 have w2 := wc (Str.ofString "free")
 cases e : (ov rs)[cnt (ends (ov rs)) n]? with
 | none =>
  rw [e] at w1
  rw [if_pos w1]
 | some r =>
  rw [e] at w1 w2
  dsimp only at w1 w2 ⊢
  by_cases c : r.1 ≤ n
  ·rw [if_pos c] at w1 w2
   rw [if_pos c, if_neg (by rw [w1, ← w2]; exact wi), w1]
  ·rw [if_neg c] at w1
   rw [if_neg c, if_pos w1]
theorem rb {n : Nat} (h : n ≤ 1000) : -2 ^ 62 ≤ (n : Int) ∧ (n : Int) < 2 ^ 62 := by omega
theorem useF {p G : Int → Prop} {R : Prop} (m : (∀ F, p F → G F) → R) (l : ∀ F, p F → G F) : R := m l
noncomputable def spLaw (K : PySem.W.Frag) : Sp := fun vs H Q _ => ∃ (a : Addr) (ns : List Int), vs = [.ref a] ∧ SqL K H a (ns.map V.int) ∧ ns.length ≤ 63 ∧ ∀ H', Q (.bl true) H'
theorem TabAt.ins {Cp C : Addr} {H : Hp} {t : Addr} {bs : List Bool} {rs : List Rw} (h : TabAt Cp C H t bs rs) : ∃ dx p q z, H t = some (.ins C dx (tfs p q z)) := by
 obtain ⟨dx, p, q, z, h1, _⟩ := h
 exact ⟨dx, p, q, z, h1⟩
theorem made_keep {H : Hp} {x dx C : Addr} (nx : H x = none) (nd : H dx = none) : Same H (upd (upd H dx (.own x)) x (.ins C dx [])) := fun b u e => by rw [qr (ne_of_none e nx), qr (ne_of_none e nd)]; exact e
theorem okY0 : OkY [] := ⟨Nat.zero_le _, fun _ h => absurd h List.not_mem_nil⟩
theorem okR0 : ∀ r ∈ ([] : List Rw), OkR r := fun _ h => absurd h List.not_mem_nil
theorem ov_ap {rs : List Rw} (okr : ∀ r ∈ rs, OkR r) : Ap (ov rs) := (ov_ok fun r hm => (okr r hm).2.1).1
theorem pby_next (bs : List Bool) (y : Int) : pby bs (y + 1) = pby bs y + opn bs 364 + (wk y - 52) * (opn bs 371 - opn bs 364) := by
 have e : lb (y + 1) = lb y + (wk y - 52) := lb_up y
 unfold pby
 rw [e, Int.add_mul, Int.add_mul, Int.one_mul]
 omega
theorem pbef_at (bs : List Bool) {n y : Int} (h0 : 0 ≤ n - 7 * fw y) (h1 : n - 7 * fw y < 7 * wk y) : pbef bs n = pby bs y + opn bs (n - 7 * fw y).toNat := by
 have e : yo (n / 7) = y := yo_uniq (by omega) (by rw [fw_next]; omega)
 unfold pbef
 rw [doy_at h0 h1, e]
theorem opn_step {bs : List Bool} (hl : bs.length = 371) {k : Nat} (h : k < 371) : opn bs (k + 1) = opn bs k + (if bs.getD k true = true then 0 else 1) := by
 have hk : k < bs.length := by omega
 rw [opn_succ (List.getElem?_eq_getElem hk), List.getD_eq_getElem?_getD, List.getElem?_eq_getElem hk]
 show (if bs[k] = true then _ else _) = opn bs k + (if bs[k] = true then 0 else 1)
 split <;> omega
theorem pbef_step {bs : List Bool} (hl : bs.length = 371) {n : Int} (h : 0 ≤ n) : pbef bs (n + 1) = pbef bs n + (if bs.getD (doy n).toNat true = true then 0 else 1) := by
 have l1 := lies (n / 7)
 have fn := fw_next (yo (n / 7))
 have w3 := wk_in (yo (n / 7))
 have d0 : 0 ≤ n - 7 * fw (yo (n / 7)) := by omega
 have d1 : n - 7 * fw (yo (n / 7)) < 7 * wk (yo (n / 7)) := by omega
 have ed := doy_at d0 d1
 rw [pbef_at bs d0 d1, ed]
 generalize yo (n / 7) = y at *
 have st := opn_step hl (k := (n - 7 * fw y).toNat) (by omega)
 by_cases c : n + 1 - 7 * fw y < 7 * wk y
 ·rw [pbef_at bs (n := n + 1) (y := y) (by omega) c, show (n + 1 - 7 * fw y).toNat = (n - 7 * fw y).toNat + 1 by omega, st]
  omega
 ·have e0 : n + 1 - 7 * fw (y + 1) = 0 := by omega
  have wy := wk_in (y + 1)
  rw [pbef_at bs (n := n + 1) (y := y + 1) (by omega) (by omega), e0, pby_next]
  have z : opn bs (0 : Int).toNat = 0 := by unfold opn; rfl
  rw [z]
  rcases (by omega : wk y = 52 ∨ wk y = 53) with w | w
  ·rw [show (n - 7 * fw y).toNat = 363 by omega] at st ⊢
   have st : opn bs 364 = _ := st
   rw [w, show (52 : Int) - 52 = 0 from rfl, Int.zero_mul]
   omega
  ·rw [show (n - 7 * fw y).toNat = 370 by omega] at st ⊢
   have st : opn bs 371 = _ := st
   rw [w, show (53 : Int) - 52 = 1 from rfl, Int.one_mul]
   omega
theorem pbef_zero (bs : List Bool) : pbef bs 0 = 0 := by
 rw [pbef_at bs (n := 0) (y := 0) (by decide) (by decide)]
 rw [show ((0 : Int) - 7 * fw 0).toNat = 0 by decide]
 have z : opn bs 0 = 0 := by unfold opn; rfl
 unfold pby
 rw [z, show lb 0 = 0 by decide, Int.zero_mul, Int.zero_mul]
 rfl
noncomputable def tbR (bs : List Bool) : List Rw → Int → Int
 | [], _ => 0
 | r :: rs, n => if r.2.1 < n then shf bs r (r.2.1 + 1) + tbR bs rs n else if r.1 < n then shf bs r n else 0
noncomputable def tbef (bs : List Bool) (rs : List Rw) (n : Int) : Int := pbef bs n + tbR bs rs n
theorem cnt_out {rs : List Rw} {r : Rw} {n : Int} (h : Dis (r :: rs)) (c : ¬ r.2.1 < n) : cnt (ends rs) n = 0 := cnt_zero fun e he => by
 obtain ⟨s, hs, rfl⟩ := List.mem_map.mp he
 have := h.later hs
 show ¬ s.2.1 < n
 omega
theorem tbR_code (bs : List Bool) (n : Int) : ∀ {rs : List Rw}, Dis rs → ((rs.take (cnt (ends rs) n)).map fun r => shf bs r (r.2.1 + 1)).sum + (match rs[cnt (ends rs) n]? with | some r => if r.1 < n then shf bs r n else 0 | none => 0) = tbR bs rs n
 | [], _ => rfl
 | r :: rs, h => by
  have ih := tbR_code bs n h.tail
  show ((List.take (cnt (r.2.1 :: ends rs) n) (r :: rs)).map fun r => shf bs r (r.2.1 + 1)).sum + (match (r :: rs)[cnt (r.2.1 :: ends rs) n]? with | some r => if r.1 < n then shf bs r n else 0 | none => 0) = if r.2.1 < n then shf bs r (r.2.1 + 1) + tbR bs rs n else if r.1 < n then shf bs r n else 0
  rw [cnt_cons]
  by_cases c : r.2.1 < n
  ·rw [if_pos c, if_pos c, ← ih, List.take_succ_cons, List.map_cons, List.sum_cons, Int.add_assoc]
   rfl
  ·rw [if_neg c, if_neg c, cnt_out h c]
   exact Int.zero_add _
theorem tbR_out {bs : List Bool} {n : Int} : ∀ {rs : List Rw}, (∀ r ∈ rs, n ≤ r.1) → (∀ r ∈ rs, r.1 ≤ r.2.1) → tbR bs rs n = 0
 | [], _, _ => rfl
 | r :: rs, h, h2 => by
  have a := h r List.mem_cons_self
  have b := h2 r List.mem_cons_self
  unfold tbR
  rw [if_neg (by omega), if_neg (by omega)]
theorem tfr_cons {bs : List Bool} {r : Rw} {rs : List Rw} {n : Int} (h : Dis (r :: rs)) : tfr bs (r :: rs) n = if r.2.1 < n then tfr bs rs n else if r.1 ≤ n then decide (r.2.2 = Str.ofString "free") else bs.getD (doy n).toNat true := by
 unfold tfr
 show (match (r :: rs)[cnt (r.2.1 :: ends rs) n]? with | some r => _ | none => _) = _
 rw [cnt_cons]
 by_cases c : r.2.1 < n
 ·rw [if_pos c, if_pos c]; rfl
 ·rw [if_neg c, if_neg c, cnt_out h c]; rfl
theorem free_open {w : Str} (h : w = Str.ofString "free" ∨ w = Str.ofString "open") : (if w = Str.ofString "open" then (1 : Int) else 0) = if decide (w = Str.ofString "free") = true then 0 else 1 := by
 rcases h with e | e <;> rw [e]
 ·rw [if_neg (by decide +kernel), if_pos (by decide +kernel)]
 ·rw [if_pos rfl, if_neg (by decide +kernel)]
theorem shf_step {bs : List Bool} {r : Rw} (h : r.2.2 = Str.ofString "free" ∨ r.2.2 = Str.ofString "open") (n : Int) : pbef bs (n + 1) + shf bs r (n + 1) = pbef bs n + shf bs r n + (if decide (r.2.2 = Str.ofString "free") = true then 0 else 1) := by
 rw [← free_open h]
 unfold shf
 split <;> omega
theorem shf_first (bs : List Bool) (r : Rw) : shf bs r r.1 = 0 := by
 unfold shf
 split <;> omega
theorem tb_step {bs : List Bool} (hl : bs.length = 371) {n : Int} (h0 : 0 ≤ n) : ∀ {rs : List Rw}, Dis rs → (∀ r ∈ rs, r.2.2 = Str.ofString "free" ∨ r.2.2 = Str.ofString "open") → tbef bs rs (n + 1) = tbef bs rs n + (if tfr bs rs n = true then 0 else 1)
 | [], _, _ => by
  have := pbef_step hl h0
  show pbef bs (n + 1) + 0 = pbef bs n + 0 + (if bs.getD (doy n).toNat true = true then 0 else 1)
  omega
 | r :: rs, h, hw => by
  have ih := tb_step hl h0 h.tail fun s hs => hw s (List.mem_cons_of_mem _ hs)
  have ok := h.ok r List.mem_cons_self
  have rw0 := hw r List.mem_cons_self
  have pst := pbef_step hl h0
  rw [tfr_cons h]
  unfold tbef at ih ⊢
  show pbef bs (n + 1) + (if r.2.1 < n + 1 then shf bs r (r.2.1 + 1) + tbR bs rs (n + 1) else if r.1 < n + 1 then shf bs r (n + 1) else 0) = pbef bs n + (if r.2.1 < n then shf bs r (r.2.1 + 1) + tbR bs rs n else if r.1 < n then shf bs r n else 0) + _
  by_cases c : r.2.1 < n
  ·rw [if_pos c, if_pos c, if_pos (by omega)]
   omega
  ·rw [if_neg c, if_neg c]
   have st := shf_step (bs := bs) rw0 n
   have back : (if r.1 < n then shf bs r n else 0) = if r.1 ≤ n then shf bs r n else 0 := by
    by_cases z : r.1 < n
    ·rw [if_pos z, if_pos (by omega)]
    ·rw [if_neg z]
     by_cases z2 : r.1 ≤ n
     ·rw [if_pos z2, show n = r.1 by omega, shf_first]
     ·rw [if_neg z2]
   rw [back]
   by_cases c2 : r.2.1 < n + 1
   ·have en : r.2.1 = n := by omega
    rw [if_pos c2, tbR_out (fun s hs => by have := (h.later hs).1; omega) h.tail.ok, if_pos (show r.1 ≤ n by omega), if_pos (show r.1 ≤ n by omega), en]
    omega
   ·rw [if_neg c2]
    by_cases c3 : r.1 ≤ n
    ·rw [if_pos (show r.1 < n + 1 by omega), if_pos c3, if_pos c3]
     omega
    ·rw [if_neg (show ¬ r.1 < n + 1 by omega), if_neg c3, if_neg c3]
     omega
theorem tb_zero {bs : List Bool} {rs : List Rw} (h : ∀ r ∈ rs, 0 ≤ r.1) (h2 : ∀ r ∈ rs, r.1 ≤ r.2.1) : tbef bs rs 0 = 0 := by
 unfold tbef
 rw [pbef_zero, tbR_out h h2]
 rfl
theorem over_wd {P : Str → Prop} {rs : List Rw} {f l : Int} {w : Str} (h : ∀ r ∈ rs, P r.2.2) (hw : P w) : ∀ r ∈ over rs f l w, P r.2.2 := fun r hr => by
 rcases List.mem_append.mp hr with hr | hr
 ·obtain ⟨s, hs, e⟩ := List.mem_filterMap.mp hr
  have := h s hs
  split at e
  ·injection e with e; subst e; exact this
  ·cases e
 ·rcases List.mem_cons.mp hr with rfl | hr
  ·exact hw
  ·obtain ⟨s, hs, e⟩ := List.mem_filterMap.mp hr
   have := h s hs
   split at e
   ·injection e with e; subst e; exact this
   ·cases e
theorem lay_wd {P : Str → Prop} {rs : List Rw} (h : ∀ r ∈ rs, P r.2.2) : ∀ r ∈ lay rs, P r.2.2 := by
 have step : ∀ (ss laid : List Rw), (∀ r ∈ ss, P r.2.2) → (∀ r ∈ laid, P r.2.2) → ∀ r ∈ ss.foldl (fun laid r => over laid r.1 r.2.1 r.2.2) laid, P r.2.2 := by
  intro ss
  induction ss with
  | nil => intro laid _ h1; exact h1
  | cons r ss ih => intro laid h0 h1; exact ih _ (fun s hs => h0 s (List.mem_cons_of_mem _ hs)) (over_wd h1 (h0 r List.mem_cons_self))
 exact step rs [] h fun _ h => absurd h List.not_mem_nil
theorem jn_wd {P : Str → Prop} {rs : List Rw} (h : ∀ r ∈ rs, P r.2.2) : ∀ r ∈ jn rs, P r.2.2 := by
 have one : ∀ (told : List Rw) (r : Rw), (∀ t ∈ told, P t.2.2) → P r.2.2 → ∀ t ∈ jn1 told r, P t.2.2 := fun told r h1 h2 => by
  rcases List.eq_nil_or_concat told with rfl | ⟨rs, t, rfl⟩
  ·intro z hz
   have : z = r := by simpa [jn1] using hz
   rw [this]; exact h2
  ·rw [List.concat_eq_append] at h1 ⊢
   rw [jn1_snoc]
   intro z hz
   split at hz
   ·rcases List.mem_append.mp hz with hz | hz
    ·exact h1 z (List.mem_append_left _ hz)
    ·rw [List.mem_singleton.mp hz]; exact h2
   ·rcases List.mem_append.mp hz with hz | hz
    ·exact h1 z hz
    ·rw [List.mem_singleton.mp hz]; exact h2
 have step : ∀ (ss told : List Rw), (∀ r ∈ ss, P r.2.2) → (∀ r ∈ told, P r.2.2) → ∀ r ∈ ss.foldl jn1 told, P r.2.2 := by
  intro ss
  induction ss with
  | nil => intro told _ h1; exact h1
  | cons r ss ih => intro told h0 h1; exact ih _ (fun s hs => h0 s (List.mem_cons_of_mem _ hs)) (one _ _ h1 (h0 r List.mem_cons_self))
 exact step rs [] h fun _ h => absurd h List.not_mem_nil
theorem ov_wd {P : Str → Prop} {rs : List Rw} (h : ∀ r ∈ rs, P r.2.2) : ∀ r ∈ ov rs, P r.2.2 := jn_wd (lay_wd h)
theorem tb_some {bs : List Bool} {rs : List Rw} {n : Int} {r : Rw} (h : Dis rs) (e : rs[cnt (ends rs) n]? = some r) (c : r.1 < n) : pbef bs n + ((rs.take (cnt (ends rs) n)).map fun r => shf bs r (r.2.1 + 1)).sum + shf bs r n = tbef bs rs n := by
 have z := tbR_code bs n h
 rw [e] at z
 dsimp only at z
 rw [if_pos c] at z
 unfold tbef
 rw [← z, Int.add_assoc]
theorem tb_late {bs : List Bool} {rs : List Rw} {n : Int} {r : Rw} (h : Dis rs) (e : rs[cnt (ends rs) n]? = some r) (c : ¬ r.1 < n) : pbef bs n + ((rs.take (cnt (ends rs) n)).map fun r => shf bs r (r.2.1 + 1)).sum = tbef bs rs n := by
 have z := tbR_code bs n h
 rw [e] at z
 dsimp only at z
 rw [if_neg c, Int.add_zero] at z
 unfold tbef
 rw [← z]
theorem tb_none {bs : List Bool} {rs : List Rw} {n : Int} (h : Dis rs) (e : rs[cnt (ends rs) n]? = none) : pbef bs n + ((rs.take (cnt (ends rs) n)).map fun r => shf bs r (r.2.1 + 1)).sum = tbef bs rs n := by
 have z := tbR_code bs n h
 rw [e] at z
 dsimp only at z
 rw [Int.add_zero] at z
 unfold tbef
 rw [← z]
noncomputable def spTBef (a : Adr) : Sp := fun vs H Q _ => ∃ (x : Addr) (bs : List Bool) (rs : List Rw) (n : Int), vs = [.ref x, .int n] ∧ TabAt a.cPattern a.cTable H x bs rs ∧ Ap rs ∧ (∀ r ∈ rs, 0 ≤ r.1) ∧ 0 ≤ n ∧ ∀ H', Same H H' → Q (.int (tbef bs rs n)) H'
noncomputable def way (ns : List Int) : Int := cell ns 8 / 13 % 6
theorem useP {p G : Hp → Prop} {R : Prop} (m : (∀ F, p F → G F) → R) (l : ∀ F, p F → G F) : R := m l
theorem opn_mono1 {bs : List Bool} (hl : bs.length = 371) : ∀ {n k : Nat}, k ≤ n → n ≤ 371 → opn bs k ≤ opn bs n
 | 0, k, h, _ => by rw [Nat.le_zero.mp h]; exact Int.le_refl _
 | n + 1, k, h, h2 => by
  by_cases e : k = n + 1
  ·rw [e]; exact Int.le_refl _
  ·have := opn_mono1 hl (n := n) (k := k) (by omega) (by omega)
   have st := opn_step hl (k := n) (by omega)
   split at st <;> omega
theorem opn_zero (bs : List Bool) : opn bs 0 = 0 := by unfold opn; rfl
theorem opn_ivt {bs : List Bool} (hl : bs.length = 371) {i : Int} (h0 : 0 ≤ i) : ∀ {n : Nat}, n ≤ 371 → i < opn bs n → ∃ w < n, opn bs w = i ∧ bs.getD w true = false
 | 0, _, h => by rw [opn_zero] at h; omega
 | n + 1, hn, h => by
  by_cases c : i < opn bs n
  ·obtain ⟨w, w1, w2⟩ := opn_ivt hl h0 (n := n) (by omega) c
   exact ⟨w, by omega, w2⟩
  ·have st := opn_step hl (k := n) (by omega)
   cases e : bs.getD n true with
   | true => rw [e, if_pos rfl] at st; omega
   | false => rw [e, if_neg (by decide)] at st; exact ⟨n, by omega, by omega, e⟩
theorem od_len {bs : List Bool} (hl : bs.length = 371) : ∀ {n : Nat}, n ≤ 371 → ((((List.range n).filter fun i => !(bs.getD i true)).length : Nat) : Int) = opn bs n
 | 0, _ => by rw [opn_zero]; rfl
 | n + 1, h => by
  have ih := od_len hl (n := n) (by omega)
  have st := opn_step hl (k := n) (by omega)
  rw [List.range_succ, List.filter_append, List.length_append]
  cases e : bs.getD n true with
  | true =>
   rw [e, if_pos rfl] at st
   have : ([n].filter fun i => !(bs.getD i true)) = [] := List.filter_cons_of_neg (by rw [e]; decide)
   rw [this]
   simp only [List.length_nil]
   omega
  | false =>
   rw [e, if_neg (by decide)] at st
   have : ([n].filter fun i => !(bs.getD i true)) = [n] := List.filter_cons_of_pos (by rw [e]; rfl)
   rw [this]
   simp only [List.length_singleton]
   omega
theorem od_at {bs : List Bool} (hl : bs.length = 371) {w : Nat} (hw : bs.getD w true = false) : ∀ {n : Nat}, n ≤ 371 → w < n → ((List.range n).filter fun i => !(bs.getD i true))[(opn bs w).toNat]? = some w
 | 0, _, h => absurd h (Nat.not_lt_zero _)
 | n + 1, hn, h => by
  rw [List.range_succ, List.filter_append]
  by_cases e : w = n
  ·subst e
   have ll := od_len hl (n := w) (by omega)
   have : ([w].filter fun i => !(bs.getD i true)) = [w] := List.filter_cons_of_pos (by rw [hw]; rfl)
   rw [this, List.getElem?_append_right (by omega), show (opn bs w).toNat - ((List.range w).filter fun i => !(bs.getD i true)).length = 0 by omega]
   rfl
  ·have ih := od_at hl hw (n := n) (by omega) (by omega)
   rw [List.getElem?_append_left (List.getElem?_eq_some_iff.mp ih).1]
   exact ih
theorem odL_at {bs : List Bool} (hl : bs.length = 371) {w : Nat} (h : w < 371) (hw : bs.getD w true = false) : (odL bs)[(opn bs w).toNat]? = some (w : Int) := by
 unfold odL
 rw [hl, List.getElem?_map, od_at hl hw (Nat.le_refl _) h]
 rfl
theorem pby_up {bs : List Bool} (hl : bs.length = 371) (y : Int) : pby bs (y + 1) = pby bs y + opn bs (7 * wk y).toNat := by
 rw [pby_next]
 rcases (by have := wk_in y; omega : wk y = 52 ∨ wk y = 53) with w | w
 ·rw [w, show (52 : Int) - 52 = 0 from rfl, Int.zero_mul, show ((7 : Int) * 52).toNat = 364 from rfl, Int.add_zero]
 ·rw [w, show (53 : Int) - 52 = 1 from rfl, Int.one_mul, show ((7 : Int) * 53).toNat = 371 from rfl]
  omega
theorem pby_lt {bs : List Bool} (hl : bs.length = 371) (ho : 0 < opn bs 364) (y : Int) : pby bs y < pby bs (y + 1) := by
 have a := wk_in y
 have m := opn_mono1 hl (k := 364) (n := (7 * wk y).toNat) (by omega) (by omega)
 rw [pby_up hl]
 omega
theorem pby_17 (bs : List Bool) (k : Int) : pby bs (17 * k) = k * pby bs 17 := by
 have e : lb (17 * k) = 3 * k := by unfold lb; omega
 have e1 : lb 17 = 3 := by decide
 unfold pby
 rw [e, e1, Int.mul_add, ← Int.mul_assoc, ← Int.mul_assoc, Int.mul_comm k 17, Int.mul_comm k 3]
theorem pby_17B {bs : List Bool} (hl : bs.length = 371) (ho : 0 < opn bs 364) : 0 < pby bs 17 ∧ pby bs 17 < 1073741824 := by
 have e1 : lb 17 = 3 := by decide
 have a := opn_le bs 364
 have b := opn_le bs 371
 have m := opn_mono1 hl (k := 364) (n := 371) (by omega) (by omega)
 unfold pby
 rw [e1]
 omega
theorem pn_day {bs : List Bool} (hl : bs.length = 371) {m y : Int} (h0 : 0 ≤ y) (h1 : pby bs y ≤ m) (h2 : m < pby bs (y + 1)) : ∃ w : Nat, (odL bs)[(m - pby bs y).toNat]? = some (w : Int) ∧ 0 ≤ 7 * fw y + (w : Int) ∧ bs.getD (doy (7 * fw y + (w : Int))).toNat true = false ∧ pbef bs (7 * fw y + (w : Int)) = m := by
 rw [pby_up hl] at h2
 have a := wk_in y
 have f0 := fw_nn h0
 obtain ⟨w, w1, w2, w3⟩ := opn_ivt hl (i := m - pby bs y) (by omega) (n := (7 * wk y).toNat) (by omega) (by omega)
 have d0 : 0 ≤ 7 * fw y + (w : Int) - 7 * fw y := by omega
 have d1 : 7 * fw y + (w : Int) - 7 * fw y < 7 * wk y := by omega
 refine ⟨w, ?_, by omega, ?_, ?_⟩
 ·rw [← w2]; exact odL_at hl (by omega) w3
 ·rw [doy_at d0 d1, show (7 * fw y + (w : Int) - 7 * fw y).toNat = w by omega]; exact w3
 ·rw [pbef_at bs d0 d1, show (7 * fw y + (w : Int) - 7 * fw y).toNat = w by omega, w2]; omega
structure Cnt (f : Int → Int) (g : Int → Bool) : Prop where
 st : ∀ n, 0 ≤ n → f (n + 1) = f n + (if g n = true then 0 else 1)
theorem Cnt.mono {f : Int → Int} {g : Int → Bool} (c : Cnt f g) {n : Int} (h0 : 0 ≤ n) : ∀ k : Nat, f n ≤ f (n + k)
 | 0 => by rw [Int.natCast_zero, Int.add_zero]; exact Int.le_refl _
 | k + 1 => by
  have ih := c.mono h0 k
  have s := c.st (n + k) (by omega)
  rw [show n + ((k + 1 : Nat) : Int) = n + k + 1 by omega, s]
  split <;> omega
theorem Cnt.le {f : Int → Int} {g : Int → Bool} (c : Cnt f g) {n m : Int} (h0 : 0 ≤ n) (h : n ≤ m) : f n ≤ f m := by
 have := c.mono h0 (m - n).toNat
 rwa [show n + ((m - n).toNat : Int) = m by omega] at this
theorem Cnt.lt {f : Int → Int} {g : Int → Bool} (c : Cnt f g) {n m : Int} (h0 : 0 ≤ m) (h : f n < f m) : n < m := by
 by_cases z : n < m
 ·exact z
 ·have := c.le h0 (Int.not_lt.mp z); omega
theorem Cnt.ge {f : Int → Int} {g : Int → Bool} (c : Cnt f g) {n d : Int} (h0 : 0 ≤ d) (o : g d = false) (h : f n ≤ f d) : n ≤ d := by
 by_cases z : n ≤ d
 ·exact z
 ·have s := c.st d h0
  rw [o, if_neg (by decide)] at s
  have := c.le (n := d + 1) (m := n) (by omega) (by omega)
  omega
theorem Cnt.free {f : Int → Int} {g : Int → Bool} (c : Cnt f g) {n d e : Int} (h0 : 0 ≤ n) (h : f d = f n) (h1 : n ≤ e) (h2 : e < d) : g e = true := by
 cases o : g e with
 | true => rfl
 | false =>
  have s := c.st e (by omega)
  rw [o, if_neg (by decide)] at s
  have a := c.le h0 h1
  have b := c.le (n := e + 1) (m := d) (by omega) (by omega)
  omega
theorem pcnt {bs : List Bool} (hl : bs.length = 371) : Cnt (pbef bs) (fun n => bs.getD (doy n).toNat true) := ⟨fun _ h => pbef_step hl h⟩
theorem tcnt {bs : List Bool} {rs : List Rw} (hl : bs.length = 371) (ap : Ap rs) (hw : ∀ r ∈ rs, r.2.2 = Str.ofString "free" ∨ r.2.2 = Str.ofString "open") : Cnt (tbef bs rs) (tfr bs rs) := ⟨fun _ h => tb_step hl h (ap_dis ap) hw⟩
theorem tb_app {bs : List Bool} {n : Int} {suf : List Rw} : ∀ {pre : List Rw}, (∀ r ∈ pre, r.2.1 < n) → tbR bs (pre ++ suf) n = (pre.map fun r => shf bs r (r.2.1 + 1)).sum + tbR bs suf n
 | [], _ => (Int.zero_add _).symm
 | r :: pre, h => by
  have ih := tb_app (bs := bs) (suf := suf) (pre := pre) fun s hs => h s (List.mem_cons_of_mem _ hs)
  show (if r.2.1 < n then shf bs r (r.2.1 + 1) + tbR bs (pre ++ suf) n else _) = _
  rw [if_pos (h r List.mem_cons_self), ih, List.map_cons, List.sum_cons, Int.add_assoc]
theorem tf_app {bs : List Bool} {n : Int} {suf : List Rw} : ∀ {pre : List Rw}, Dis (pre ++ suf) → (∀ r ∈ pre, r.2.1 < n) → tfr bs (pre ++ suf) n = tfr bs suf n
 | [], _, _ => rfl
 | r :: pre, d, h => by
  have ih := tf_app (bs := bs) (suf := suf) (pre := pre) d.tail fun s hs => h s (List.mem_cons_of_mem _ hs)
  show tfr bs (r :: (pre ++ suf)) n = _
  have d' : Dis (r :: (pre ++ suf)) := d
  rw [tfr_cons d', if_pos (h r List.mem_cons_self), ih]
theorem tb_gap {bs : List Bool} {n : Int} {suf : List Rw} (h : ∀ r ∈ suf, n ≤ r.1) (ok : ∀ r ∈ suf, r.1 ≤ r.2.1) : tbR bs suf n = 0 := tbR_out h ok
theorem tf_gap {bs : List Bool} {n : Int} {suf : List Rw} (d : Dis suf) (h : ∀ r ∈ suf, n < r.1) : tfr bs suf n = bs.getD (doy n).toNat true := by
 cases suf with
 | nil => rfl
 | cons r suf =>
  have a := h r List.mem_cons_self
  have b := d.ok r List.mem_cons_self
  rw [tfr_cons d, if_neg (by omega), if_neg (by omega)]
theorem gap_day {bs : List Bool} {pre suf : List Rw} {m d lo : Int} (hl : bs.length = 371) (D : Dis (pre ++ suf)) (h0 : 0 ≤ lo) (hp : ∀ r ∈ pre, r.2.1 < lo) (hs : ∀ r ∈ suf, lo ≤ r.1) (b0 : tbef bs (pre ++ suf) lo ≤ m) (b1 : ∀ r ∈ suf, m < tbef bs (pre ++ suf) r.1)
  (d0 : 0 ≤ d) (dF : bs.getD (doy d).toNat true = false) (dM : pbef bs d = m - (pre.map fun r => shf bs r (r.2.1 + 1)).sum) : tfr bs (pre ++ suf) d = false ∧ tbef bs (pre ++ suf) d = m := by
 have Ds : Dis suf := ⟨fun r hr => D.ok r (List.mem_append_right _ hr), (List.pairwise_append.mp D.pw).2.1⟩
 have P := pcnt hl
 have gap : ∀ n, lo ≤ n → (∀ r ∈ suf, n ≤ r.1) → tbef bs (pre ++ suf) n = pbef bs n + (pre.map fun r => shf bs r (r.2.1 + 1)).sum := fun n z1 z2 => by
  unfold tbef
  rw [tb_app (fun r hr => Int.lt_of_lt_of_le (hp r hr) z1), tb_gap z2 Ds.ok, Int.add_zero]
 rw [gap lo (Int.le_refl _) hs] at b0
 have dlo : lo ≤ d := P.ge d0 dF (by omega)
 have dhi : ∀ r ∈ suf, d < r.1 := fun r hr => by
  have z := b1 r hr
  cases suf with
  | nil => cases hr
  | cons s suf =>
   have h1 := b1 s List.mem_cons_self
   have s0 := hs s List.mem_cons_self
   rw [gap s.1 s0 (fun q hq => by
    rcases List.mem_cons.mp hq with rfl | hq
    ·exact Int.le_refl _
    ·have := (Ds.later hq).1
     have := Ds.ok s List.mem_cons_self
     omega)] at h1
   have ds : d < s.1 := P.lt (by omega) (by omega)
   rcases List.mem_cons.mp hr with rfl | hr
   ·exact ds
   ·have := (Ds.later hr).1
    have := Ds.ok s List.mem_cons_self
    omega
 refine ⟨?_, ?_⟩
 ·rw [tf_app D (fun r hr => Int.lt_of_lt_of_le (hp r hr) dlo), tf_gap Ds dhi]
  exact dF
 ·rw [gap d dlo (fun r hr => Int.le_of_lt (dhi r hr)), dM]
  omega
theorem row_day {bs : List Bool} {pre suf : List Rw} {r : Rw} {m : Int} (D : Dis (pre ++ r :: suf)) (hw : r.2.2 = Str.ofString "free" ∨ r.2.2 = Str.ofString "open") (b0 : tbef bs (pre ++ r :: suf) r.1 ≤ m) (b1 : m < tbef bs (pre ++ r :: suf) (r.2.1 + 1)) :
  r.1 ≤ r.1 + m - tbef bs (pre ++ r :: suf) r.1 ∧ tfr bs (pre ++ r :: suf) (r.1 + m - tbef bs (pre ++ r :: suf) r.1) = false ∧ tbef bs (pre ++ r :: suf) (r.1 + m - tbef bs (pre ++ r :: suf) r.1) = m := by
 have Ds : Dis (r :: suf) := ⟨fun q hq => D.ok q (List.mem_append_right _ hq), (List.pairwise_append.mp D.pw).2.1⟩
 have ok := Ds.ok r List.mem_cons_self
 have hp : ∀ n, r.1 ≤ n → ∀ q ∈ pre, q.2.1 < n := fun n z q hq => Int.lt_of_lt_of_le ((List.pairwise_append.mp D.pw).2.2 q hq r List.mem_cons_self) z
 have at0 : tbef bs (pre ++ r :: suf) r.1 = pbef bs r.1 + (pre.map fun r => shf bs r (r.2.1 + 1)).sum := by
  unfold tbef
  rw [tb_app (hp _ (Int.le_refl _)), tb_gap (fun q hq => by
   rcases List.mem_cons.mp hq with rfl | hq
   ·exact Int.le_refl _
   ·have := (Ds.later hq).1; omega) Ds.ok, Int.add_zero]
 have atn : ∀ n, r.1 ≤ n → n ≤ r.2.1 + 1 → tbef bs (pre ++ r :: suf) n = pbef bs n + ((pre.map fun r => shf bs r (r.2.1 + 1)).sum + shf bs r n) := fun n z1 z2 => by
  unfold tbef
  rw [tb_app (hp n z1)]
  show _ + (_ + (if r.2.1 < n then shf bs r (r.2.1 + 1) + tbR bs suf n else if r.1 < n then shf bs r n else 0)) = _
  by_cases c : r.2.1 < n
  ·rw [if_pos c, tb_gap (fun q hq => by have := (Ds.later hq).1; omega) Ds.tail.ok, show r.2.1 + 1 = n by omega, Int.add_zero]
  ·rw [if_neg c]
   by_cases c2 : r.1 < n
   ·rw [if_pos c2]
   ·rw [if_neg c2, show n = r.1 by omega, shf_first]
 have sh : ∀ n, pbef bs n + shf bs r n = pbef bs r.1 + (if r.2.2 = Str.ofString "open" then n - r.1 else 0) := fun n => by unfold shf; omega
 have hop : r.2.2 = Str.ofString "open" := by
  rcases hw with z | z
  ·have e1 := atn (r.2.1 + 1) (by omega) (Int.le_refl _)
   have e2 := sh (r.2.1 + 1)
   rw [if_neg (by rw [z]; decide +kernel)] at e2
   omega
  ·exact z
 have e1 := atn (r.2.1 + 1) (by omega) (Int.le_refl _)
 have e2 := sh (r.2.1 + 1)
 rw [if_pos hop] at e2
 have n0 : r.1 ≤ r.1 + m - tbef bs (pre ++ r :: suf) r.1 := by omega
 have n1 : r.1 + m - tbef bs (pre ++ r :: suf) r.1 ≤ r.2.1 := by omega
 refine ⟨n0, ?_, ?_⟩
 ·rw [tf_app D (hp _ n0), tfr_cons Ds, if_neg (by omega), if_pos n0, hop]
  exact decide_eq_false (by decide +kernel)
 ·have e3 := sh (r.1 + m - tbef bs (pre ++ r :: suf) r.1)
  rw [if_pos hop] at e3
  rw [atn _ n0 (by omega)]
  omega
theorem ph_list {js : List Nat} {c0 : Int} (nd : js.Nodup) : ∀ {is : List (Int × Int)}, (∀ i ∈ is, i.2 < i.1 + 42) → is.length < js.length → ∃ j ∈ js, ∀ i ∈ is, ¬ (i.1 ≤ c0 + 42 * (j : Int) ∧ c0 + 42 * (j : Int) ≤ i.2) := by
 intro is
 induction is generalizing js with
 | nil =>
  intro _ h
  obtain ⟨j, hj⟩ := List.exists_mem_of_length_pos (Nat.lt_of_le_of_lt (Nat.zero_le _) h)
  exact ⟨j, hj, fun i hi => absurd hi List.not_mem_nil⟩
 | cons i is ih =>
  intro h hl
  have hi := h i List.mem_cons_self
  let p : Nat → Bool := fun j => !(decide (i.1 ≤ c0 + 42 * (j : Int)) && decide (c0 + 42 * (j : Int) ≤ i.2))
  have pf : ∀ {j : Nat}, p j = false → i.1 ≤ c0 + 42 * (j : Int) ∧ c0 + 42 * (j : Int) ≤ i.2 := fun {j} z => by
   have z : (!(decide (i.1 ≤ c0 + 42 * (j : Int)) && decide (c0 + 42 * (j : Int) ≤ i.2))) = false := z
   rw [Bool.not_eq_false', Bool.and_eq_true, decide_eq_true_iff, decide_eq_true_iff] at z
   exact z
  have few : ∀ {ks : List Nat}, ks.Nodup → ks.length ≤ (ks.filter p).length + 1 := fun {ks} nk => by
   induction ks with
   | nil => exact Nat.zero_le _
   | cons k ks ik =>
    rw [List.nodup_cons] at nk
    cases e : p k with
    | true =>
     rw [List.filter_cons_of_pos e, List.length_cons, List.length_cons]
     have := ik nk.2
     omega
    | false =>
     rw [List.filter_cons_of_neg (by rw [e]; decide), List.length_cons]
     have all : ks.filter p = ks := List.filter_eq_self.mpr fun j hj => by
      cases e2 : p j with
      | true => rfl
      | false =>
       have a := pf e
       have b := pf e2
       have : j = k := by omega
       rw [this] at hj
       exact absurd hj nk.1
     rw [all]
     exact Nat.le_refl _
  have := few nd
  rw [List.length_cons] at hl
  obtain ⟨j, hj, hn⟩ := ih (js := js.filter p) (nd.filter p) (fun q hq => h q (List.mem_cons_of_mem _ hq)) (by omega)
  obtain ⟨j1, j2⟩ := List.mem_filter.mp hj
  refine ⟨j, j1, fun q hq => ?_⟩
  rcases List.mem_cons.mp hq with rfl | hq
  ·intro z
   have : p j = false := by
    show (!(decide (q.1 ≤ c0 + 42 * (j : Int)) && decide (c0 + 42 * (j : Int) ≤ q.2))) = false
    rw [decide_eq_true z.1, decide_eq_true z.2]; rfl
   rw [this] at j2
   cases j2
  ·exact hn q hq
theorem sub_len : ∀ {xs ys : List Int}, xs.Nodup → (∀ x ∈ xs, x ∈ ys) → xs.length ≤ ys.length
 | [], _, _, _ => Nat.zero_le _
 | x :: xs, ys, nd, h => by
  rw [List.nodup_cons] at nd
  have hx := h x List.mem_cons_self
  have := sub_len (xs := xs) (ys := ys.erase x) nd.2 fun y hy => (List.mem_erase_of_ne (fun z : y = x => nd.1 (by rw [← z]; exact hy))).mpr (h y (List.mem_cons_of_mem _ hy))
  rw [List.length_erase_of_mem hx] at this
  have p : 0 < ys.length := List.length_pos_of_mem hx
  rw [List.length_cons]
  omega
theorem open_wd {wk : List Int} (ok : OkW wk) : ∃ w : Int, 0 ≤ w ∧ w < 7 ∧ wk.contains (w + 1) = false := by
 by_cases h : ∃ w : Int, 0 ≤ w ∧ w < 7 ∧ wk.contains (w + 1) = false
 ·exact h
 ·exfalso
  have all : ∀ x ∈ [(1 : Int), 2, 3, 4, 5, 6, 7], x ∈ wk := fun x hx => by
   have b : 1 ≤ x ∧ x ≤ 7 := by
    simp only [List.mem_cons, List.not_mem_nil, or_false] at hx
    omega
   cases e : wk.contains x with
   | true => exact List.contains_iff_mem.mp e
   | false => exact absurd ⟨x - 1, by omega, by omega, by rw [show x - 1 + 1 = x by omega]; exact e⟩ h
  have := sub_len (by decide) all
  have := ok.len
  simp only [List.length_cons, List.length_nil] at *
  omega
theorem fy_open {wk : List Int} {yr : List S2} {i w : Int} (hw : wk.contains (w + 1) = false) (e : i % 7 = w) (h : ∀ r ∈ yr, ¬ (r.1 ≤ i ∧ i ≤ r.2)) : fy wk yr i = false := by
 unfold fy
 rw [e, hw, Bool.false_or, inB_any, List.any_eq_false]
 intro r hr
 rw [Bool.and_eq_true, decide_eq_true_iff, decide_eq_true_iff]
 exact h r hr
theorem open_364 {wk : List Int} {yr : List S2} (okw : OkW wk) (oky : OkY yr) : 0 < opn (fdL wk yr) 364 := by
 obtain ⟨w, w0, w1, hw⟩ := open_wd okw
 obtain ⟨j, hj, hn⟩ := ph_list (js := List.range 5) (c0 := w) List.nodup_range (is := yr) (fun r hr => by have := oky.rng r hr; omega) (by have := oky.len; rw [List.length_range]; omega)
 have hj := List.mem_range.mp hj
 have hl := fdL_len wk yr
 have fo := fy_open (yr := yr) (i := w + 42 * (j : Int)) hw (by omega) hn
 have hk : (w + 42 * (j : Int)).toNat < 364 := by omega
 have g : (fdL wk yr).getD (w + 42 * (j : Int)).toNat true = false := by
  unfold fdL
  rw [List.getD_eq_getElem?_getD, List.getElem?_map, List.getElem?_range (by omega)]
  show fy wk yr ((w + 42 * (j : Int)).toNat : Int) = false
  rw [Int.toNat_of_nonneg (by omega)]
  exact fo
 have st := opn_step hl (k := (w + 42 * (j : Int)).toNat) (by omega)
 rw [g, if_neg (by decide)] at st
 have a := opn_mono1 hl (k := (w + 42 * (j : Int)).toNat + 1) (n := 364) (by omega) (by omega)
 have b := opn_le (fdL wk yr) (w + 42 * (j : Int)).toNat
 omega
theorem word_none {rs : List Rw} {n : Int} (h : ∀ r ∈ rs, ¬ (r.1 ≤ n ∧ n ≤ r.2.1)) : wordF (Str.ofString "") rs n = Str.ofString "" := by
 unfold wordF
 have : ∀ (ss : List Rw) (a : Str), (∀ r ∈ ss, ¬ (r.1 ≤ n ∧ n ≤ r.2.1)) → ss.foldl (fun a r => if r.1 ≤ n ∧ n ≤ r.2.1 then r.2.2 else a) a = a := by
  intro ss
  induction ss with
  | nil => intro a _; rfl
  | cons r ss ih => intro a z; rw [List.foldl_cons, if_neg (z r List.mem_cons_self)]; exact ih a fun q hq => z q (List.mem_cons_of_mem _ hq)
 exact this rs _ h
theorem near_open {wk : List Int} {yr : List S2} {rs : List Rw} (okw : OkW wk) (oky : OkY yr) (hl : rs.length ≤ 12) (okr : ∀ r ∈ rs, OkR r) {n : Int} (h0 : 0 ≤ n) : ∃ e, n ≤ e ∧ e ≤ n + 2000 ∧ lfr wk yr rs e = false := by
 obtain ⟨w, w0, w1, hw⟩ := open_wd okw
 obtain ⟨c0, c1, c2, c3⟩ : ∃ c0 : Int, n ≤ c0 ∧ c0 ≤ n + 6 ∧ c0 % 7 = w := ⟨n + (w - n % 7) % 7, by omega, by omega, by omega⟩
 let Y := yo (c0 / 7)
 let is : List (Int × Int) := (rs.map fun r => (r.1, r.2.1)) ++ (List.range 7).flatMap fun (k : Nat) => yr.map fun r => (7 * fw (Y + (k : Int)) + r.1, 7 * fw (Y + (k : Int)) + r.2)
 have li : is.length < 48 := by
  have a : ((List.range 7).flatMap fun (k : Nat) => yr.map fun r => (7 * fw (Y + (k : Int)) + r.1, 7 * fw (Y + (k : Int)) + r.2)).length = 7 * yr.length := by
   rw [List.length_flatMap]
   simp only [List.length_map, List.map_const', List.length_range, List.sum_replicate_nat]
  have b := oky.len
  show ((rs.map fun r => (r.1, r.2.1)) ++ _).length < 48
  rw [List.length_append, List.length_map, a]
  omega
 obtain ⟨j, hj, hn⟩ := ph_list (js := List.range 48) (c0 := c0) List.nodup_range (is := is) (fun i hi => by
  rcases List.mem_append.mp hi with z | z
  ·obtain ⟨r, hr, rfl⟩ := List.mem_map.mp z
   have := (okr r hr).2.2.1
   show r.2.1 < r.1 + 42
   omega
  ·obtain ⟨k, _, z⟩ := List.mem_flatMap.mp z
   obtain ⟨r, hr, rfl⟩ := List.mem_map.mp z
   have := oky.rng r hr
   show 7 * fw (Y + (k : Int)) + r.2 < 7 * fw (Y + (k : Int)) + r.1 + 42
   omega) (by rw [List.length_range]; exact li)
 have hj := List.mem_range.mp hj
 refine ⟨c0 + 42 * (j : Int), by omega, by omega, ?_⟩
 generalize ec : c0 + 42 * (j : Int) = c at hn
 have cy : ∃ k : Nat, k < 7 ∧ yo (c / 7) = Y + (k : Int) := by
  have l0 := lies (c0 / 7)
  have l1 := lies (c / 7)
  have : yo (c0 / 7) ≤ yo (c / 7) ∧ yo (c / 7) < yo (c0 / 7) + 7 := by
   unfold fw at l0 l1
   omega
  exact ⟨(yo (c / 7) - yo (c0 / 7)).toNat, by omega, by show yo (c / 7) = yo (c0 / 7) + _; omega⟩
 obtain ⟨k, hk, ey⟩ := cy
 unfold lfr
 rw [word_none (fun r hr z => hn (r.1, r.2.1) (List.mem_append_left _ (List.mem_map.mpr ⟨r, hr, rfl⟩)) z), if_pos rfl]
 refine fy_open hw (by rw [doy_mod]; omega) fun r hr z => ?_
 have ed : doy c = c - 7 * fw (Y + (k : Int)) := by unfold doy; rw [ey]
 rw [ed] at z
 exact hn (7 * fw (Y + (k : Int)) + r.1, 7 * fw (Y + (k : Int)) + r.2) (List.mem_append_right _ (List.mem_flatMap.mpr ⟨k, List.mem_range.mpr hk, List.mem_map.mpr ⟨r, hr, rfl⟩⟩)) ⟨by show _ ≤ c; omega, by show c ≤ _; omega⟩
noncomputable def lo (rs : List Rw) : Nat → Int
 | 0 => 0
 | i + 1 => match rs[i]? with | some r => r.2.1 + 1 | none => 0
theorem lo_next {rs : List Rw} {i : Nat} {r : Rw} (h : rs[i]? = some r) : lo rs (i + 1) = r.2.1 + 1 := by
 show (match rs[i]? with | some r => r.2.1 + 1 | none => 0) = _
 rw [h]
theorem lo_ok {rs : List Rw} (D : Dis rs) (nn : ∀ r ∈ rs, 0 ≤ r.1) {i : Nat} (hi : i ≤ rs.length) : 0 ≤ lo rs i ∧ (∀ r ∈ rs.take i, r.2.1 < lo rs i) ∧ ∀ r ∈ rs.drop i, lo rs i ≤ r.1 := by
 cases i with
 | zero => exact ⟨Int.le_refl _, fun r hr => absurd hr (by rw [List.take_zero]; exact List.not_mem_nil), fun r hr => nn r (by rwa [List.drop_zero] at hr)⟩
 | succ i =>
  have hi' : i < rs.length := hi
  have e := List.getElem?_eq_getElem hi'
  rw [lo_next e]
  have m := List.getElem_mem hi'
  have a := nn _ m
  have b := D.ok _ m
  have pw := List.pairwise_iff_getElem.mp D.pw
  refine ⟨by omega, fun r hr => ?_, fun r hr => ?_⟩
  ·obtain ⟨j, hj, ej⟩ := List.getElem_of_mem hr
   rw [List.length_take] at hj
   rw [List.getElem_take] at ej
   by_cases z : j = i
   ·subst z; rw [← ej]; omega
   ·have := pw j i (by omega) hi' (by omega)
    rw [ej] at this
    omega
  ·obtain ⟨j, hj, ej⟩ := List.getElem_of_mem hr
   rw [List.length_drop] at hj
   rw [List.getElem_drop] at ej
   have := pw i (i + 1 + j) hi' (by omega) (by omega)
   rw [ej] at this
   omega
theorem gap_use {bs : List Bool} {rs : List Rw} {i : Nat} {m : Int} (hl : bs.length = 371) (ap : Ap rs) (nn : ∀ r ∈ rs, 0 ≤ r.1) (hi : i ≤ rs.length) (b0 : tbef bs rs (lo rs i) ≤ m) (b1 : ∀ r ∈ rs.drop i, m < tbef bs rs r.1) :
  0 ≤ m - ((rs.take i).map fun r => shf bs r (r.2.1 + 1)).sum ∧ ∀ d, 0 ≤ d → bs.getD (doy d).toNat true = false → pbef bs d = m - ((rs.take i).map fun r => shf bs r (r.2.1 + 1)).sum → tfr bs rs d = false ∧ tbef bs rs d = m := by
 obtain ⟨l0, l1, l2⟩ := lo_ok (ap_dis ap) nn hi
 have D := ap_dis ap
 have e := List.take_append_drop i rs
 refine ⟨?_, fun d d0 dF dM => ?_⟩
 ·have z : tbef bs (rs.take i ++ rs.drop i) (lo rs i) = pbef bs (lo rs i) + ((rs.take i).map fun r => shf bs r (r.2.1 + 1)).sum := by
   unfold tbef
   rw [tb_app l1, tb_gap l2 (fun r hr => D.ok r (List.mem_of_mem_drop hr)), Int.add_zero]
  rw [e] at z
  have p := (pcnt hl).le (n := 0) (m := lo rs i) (Int.le_refl _) l0
  rw [pbef_zero] at p
  omega
 ·have := gap_day (pre := rs.take i) (suf := rs.drop i) (m := m) (d := d) (lo := lo rs i) hl (by rw [e]; exact D) l0 l1 l2 (by rw [e]; exact b0) (by rw [e]; exact b1) d0 dF dM
  rw [e] at this
  exact this
theorem drop_late {rs : List Rw} {i : Nat} {r : Rw} (D : Dis rs) (h : rs[i]? = some r) : ∀ q ∈ rs.drop i, r.1 ≤ q.1 := fun q hq => by
 obtain ⟨hi, e⟩ := List.getElem?_eq_some_iff.mp h
 obtain ⟨j, hj, ej⟩ := List.getElem_of_mem hq
 rw [List.length_drop] at hj
 rw [List.getElem_drop] at ej
 by_cases z : j = 0
 ·subst z
  rw [← ej, ← e]
  exact Int.le_refl _
 ·have p := List.pairwise_iff_getElem.mp D.pw i (i + j) hi (by omega) (by omega)
  rw [ej, e] at p
  have := D.ok r (List.mem_of_getElem? h)
  omega
theorem row_use {bs : List Bool} {rs : List Rw} {i : Nat} {r : Rw} {m : Int} (ap : Ap rs) (h : rs[i]? = some r) (hw : r.2.2 = Str.ofString "free" ∨ r.2.2 = Str.ofString "open") (b0 : tbef bs rs r.1 ≤ m) (b1 : m < tbef bs rs (r.2.1 + 1)) :
  r.1 ≤ r.1 + m - tbef bs rs r.1 ∧ tfr bs rs (r.1 + m - tbef bs rs r.1) = false ∧ tbef bs rs (r.1 + m - tbef bs rs r.1) = m := by
 obtain ⟨hi, e⟩ := List.getElem?_eq_some_iff.mp h
 have er : rs = rs.take i ++ r :: rs.drop (i + 1) := by
  rw [← e, ← List.drop_eq_getElem_cons hi, List.take_append_drop]
 have D := ap_dis ap
 rw [er] at D b0 b1 ⊢
 exact row_day D hw b0 b1
theorem cnt_one {f : Int → Int} {g : Int → Bool} (c : Cnt f g) {d e : Int} (d0 : 0 ≤ d) (e0 : 0 ≤ e) (dF : g d = false) (eF : g e = false) (h : f d = f e) : d = e := by
 have a := c.ge d0 dF (n := e) (by omega)
 have b := c.ge e0 eF (n := d) (by omega)
 omega
noncomputable def WdO (rs : List Rw) : Prop := ∀ r ∈ rs, r.2.2 = Str.ofString "free" ∨ r.2.2 = Str.ofString "open"
noncomputable def spYw (a : Adr) : Sp := fun vs H Q _ => ∃ (x : Addr) (bs : List Bool) (m : Int), vs = [.ref x, .int m] ∧ PatAt a.cPattern H x bs ∧ 0 ≤ m ∧ 0 < opn bs 364 ∧ ∀ y : Int, 0 ≤ y → pby bs y ≤ m → m < pby bs (y + 1) → Q (.int y) H
noncomputable def spPNth (a : Adr) : Sp := fun vs H Q _ => ∃ (x : Addr) (bs : List Bool) (m : Int), vs = [.ref x, .int m] ∧ PatAt a.cPattern H x bs ∧ 0 ≤ m ∧ 0 < opn bs 364 ∧ ∀ d : Int, 0 ≤ d → bs.getD (doy d).toNat true = false → pbef bs d = m → Q (.int d) H
noncomputable def spTNth (a : Adr) : Sp := fun vs H Q _ => ∃ (x : Addr) (bs : List Bool) (rs : List Rw) (m : Int), vs = [.ref x, .int m] ∧ TabAt a.cPattern a.cTable H x bs rs ∧ Ap rs ∧ (∀ r ∈ rs, 0 ≤ r.1) ∧ WdO rs ∧ 0 < opn bs 364 ∧ 0 ≤ m ∧ ∀ (d : Int) (H' : Hp), Same H H' → 0 ≤ d → tfr bs rs d = false → tbef bs rs d = m → Q (.int d) H'
noncomputable def spTNext (a : Adr) : Sp := fun vs H Q _ => ∃ (x : Addr) (bs : List Bool) (rs : List Rw) (n : Int), vs = [.ref x, .int n] ∧ TabAt a.cPattern a.cTable H x bs rs ∧ Ap rs ∧ (∀ r ∈ rs, 0 ≤ r.1) ∧ WdO rs ∧ 0 < opn bs 364 ∧ 0 ≤ n ∧ ∀ (d : Int) (H' : Hp), Same H H' → 0 ≤ d → tfr bs rs d = false → tbef bs rs d = tbef bs rs n → Q (.int d) H'
theorem wd_ov {rs : List Rw} (okr : ∀ r ∈ rs, OkR r) : WdO (ov rs) := ov_wd (P := fun w => w = Str.ofString "free" ∨ w = Str.ofString "open") fun r hm => (okr r hm).2.2.2
noncomputable abbrev kC (a : Adr) : Three → Addr := sel3 a.cCounting a.cWeeks a.cCourtDays
noncomputable abbrev kfs (tb : Addr) : List (Str × V) := [(Str.ofString "table", .ref tb)]
noncomputable def spKInit (a : Adr) : Sp := fun vs H Q _ => ∃ (i : Three) (x dx tb : Addr), vs = [.ref x, .ref tb] ∧ H x = some (.ins (kC a i) dx []) ∧ Q .non (upd H x (.ins (kC a i) dx (kfs tb)))
noncomputable def spKOne (g : Int → V) : Sp := fun vs H Q _ => ∃ (x : Addr) (u : Int), vs = [.ref x, .int u] ∧ Q (g u) H
noncomputable def spKTwo (g : Int → Int → V) : Sp := fun vs H Q _ => ∃ (x : Addr) (u v : Int), vs = [.ref x, .int u, .int v] ∧ Q (g u v) H
noncomputable def CourtAt (a : Adr) (H : Hp) (x : Addr) (bs : List Bool) (rs : List Rw) : Prop := ∃ (dx tb : Addr), H x = some (.ins a.cCourtDays dx (kfs tb)) ∧ TabAt a.cPattern a.cTable H tb bs rs
structure TabOk (bs : List Bool) (rs : List Rw) : Prop where
 hl : bs.length = 371
 ap : Ap rs
 nn : ∀ r ∈ rs, 0 ≤ r.1
 wd : WdO rs
 op : 0 < opn bs 364
noncomputable def spCIn (a : Adr) : Sp := fun vs H Q _ => ∃ (x : Addr) (bs : List Bool) (rs : List Rw) (f l : Int), vs = [.ref x, .int f, .int l] ∧ CourtAt a H x bs rs ∧ TabOk bs rs ∧ 0 ≤ f ∧ ∀ H', Same H H' → Q (.int (if l < f then 0 else tbef bs rs (l + 1) - tbef bs rs f)) H'
noncomputable def spCReach (a : Adr) : Sp := fun vs H Q _ => ∃ (x : Addr) (bs : List Bool) (rs : List Rw) (f m : Int), vs = [.ref x, .int f, .int m] ∧ CourtAt a H x bs rs ∧ TabOk bs rs ∧ 0 ≤ f ∧ 1 ≤ m ∧ ∀ (d : Int) (H' : Hp), Same H H' → 0 ≤ d → tfr bs rs d = false → tbef bs rs d = tbef bs rs f + m - 1 → Q (.int d) H'
noncomputable def unit3 : Three → Str := sel3 (Str.ofString "days") (Str.ofString "weeks") (Str.ofString "court")
noncomputable def spKind (a : Adr) : Sp := fun vs H Q _ => ∃ (i : Three) (tb : Addr), vs = [.str (unit3 i), .ref tb] ∧ ∀ (x dx : Addr) (H' : Hp), Same H H' → H x = none → H' x = some (.ins (kC a i) dx (kfs tb)) → Q (.ref x) H'
theorem made_put {H : Hp} {x dx C tb : Addr} (nx : H x = none) (nd : H dx = none) : Same H (upd (upd (upd H dx (.own x)) x (.ins C dx [])) x (.ins C dx (kfs tb))) := fun b u e => by rw [qr (ne_of_none e nx)]; exact made_keep nx nd b u e
structure PartsOk (wk : List Int) (yr : List S2) (rs : List Rw) : Prop where
 w : OkW wk
 y : OkY yr
 l : rs.length ≤ 12
 r : ∀ r ∈ rs, OkR r
theorem PartsOk.tab {wk : List Int} {yr : List S2} {rs : List Rw} (h : PartsOk wk yr rs) : TabOk (fdL wk yr) (ov rs) := ⟨fdL_len wk yr, ov_ap h.r, ov_nn fun r hm => (h.r r hm).1, wd_ov h.r, open_364 h.w h.y⟩
noncomputable def kf (bs : List Bool) (rs : List Rw) : Three → Int → Bool := sel3 (fun _ => false) (fun _ => false) (tfr bs rs)
noncomputable def kb (bs : List Bool) (rs : List Rw) : Three → Int → Int := sel3 (fun d => d) (fun d => d) (tbef bs rs)
theorem kcnt {bs : List Bool} {rs : List Rw} (ok : TabOk bs rs) : ∀ i, Cnt (kb bs rs i) (kf bs rs i) := all3 ⟨fun _ _ => rfl⟩ ⟨fun _ _ => rfl⟩ (tcnt ok.hl ok.ap ok.wd)
noncomputable def KindAt (a : Adr) (H : Hp) (x : Addr) (i : Three) (bs : List Bool) (rs : List Rw) : Prop := ∃ (dx tb : Addr), H x = some (.ins (kC a i) dx (kfs tb)) ∧ TabAt a.cPattern a.cTable H tb bs rs
theorem KindAt.same {a : Adr} {H H' : Hp} {x : Addr} {i : Three} {bs : List Bool} {rs : List Rw} (h : KindAt a H x i bs rs) (s : Same H H') : KindAt a H' x i bs rs := by
 obtain ⟨dx, tb, h1, h2⟩ := h
 exact ⟨dx, tb, s _ _ h1, h2.same s⟩
section
variable {a : Adr} {i : Three} {H : Hp} {x : Addr} {bs : List Bool} {rs : List Rw} {Q : VK} {E : XK}
theorem kin_eq (f l : Int) : (if l - f + 1 > 0 then l - f + 1 else 0) = if l < f then 0 else l + 1 - f := by split <;> split <;> omega
theorem kin {f l : Int} (h : KindAt a H x i bs rs) (ok : TabOk bs rs) (f0 : 0 ≤ f) (k : ∀ H', Same H H' → Q (.int (if l < f then 0 else kb bs rs i (l + 1) - kb bs rs i f)) H') :
  sel3 (spKTwo fun f l => .int (if l - f + 1 > 0 then l - f + 1 else 0)) (spKTwo fun f l => .int (if l - f + 1 > 0 then l - f + 1 else 0)) (spCIn a) i [.ref x, .int f, .int l] H Q E := by
 cases i with
 | a => exact ⟨x, f, l, rfl, by show Q (.int (if l - f + 1 > 0 then l - f + 1 else 0)) H; rw [kin_eq]; exact k H (Same.refl H)⟩
 | b => exact ⟨x, f, l, rfl, by show Q (.int (if l - f + 1 > 0 then l - f + 1 else 0)) H; rw [kin_eq]; exact k H (Same.refl H)⟩
 | c => exact ⟨x, bs, rs, f, l, rfl, h, ok, f0, k⟩
theorem kreach {f m : Int} (h : KindAt a H x i bs rs) (ok : TabOk bs rs) (f0 : 0 ≤ f) (m1 : 1 ≤ m) (k : ∀ (d : Int) (H' : Hp), Same H H' → 0 ≤ d → kf bs rs i d = false → kb bs rs i d = kb bs rs i f + m - 1 → Q (.int d) H') :
  sel3 (spKTwo fun f m => .int (f + m - 1)) (spKTwo fun f m => .int (f + m - 1)) (spCReach a) i [.ref x, .int f, .int m] H Q E := by
 cases i with
 | a => exact ⟨x, f, m, rfl, k _ H (Same.refl H) (by omega) rfl rfl⟩
 | b => exact ⟨x, f, m, rfl, k _ H (Same.refl H) (by omega) rfl rfl⟩
 | c => exact ⟨x, bs, rs, f, m, rfl, h, ok, f0, m1, k⟩
theorem kfor {u : Int} (k : Q (.int (sel3 u (7 * u) u i)) H) : sel3 (spKOne fun u => .int u) (spKOne fun u => .int (7 * u)) (spKOne fun u => .int u) i [.ref x, .int u] H Q E := by
 cases i with
 | a => exact ⟨x, u, rfl, k⟩
 | b => exact ⟨x, u, rfl, k⟩
 | c => exact ⟨x, u, rfl, k⟩
end
noncomputable abbrev Pz := Int × Option Int
noncomputable def inP (p : Pz) (d : Int) : Bool := decide (p.1 ≤ d) && (match p.2 with | none => true | some e => decide (d ≤ e))
noncomputable def stl (ps : List Pz) (d : Int) : Bool := ps.any fun p => inP p d
noncomputable def Aft (p q : Pz) : Prop := ∃ e, p.2 = some e ∧ e < q.1
structure PsOk (ps : List Pz) : Prop where
 srt : ps.Pairwise Aft
 ok : ∀ p ∈ ps, 0 ≤ p.1 ∧ ∀ e, p.2 = some e → p.1 ≤ e
theorem inP_none {F d : Int} : inP (F, none) d = decide (F ≤ d) := by unfold inP; exact Bool.and_true _
theorem inP_some {F e d : Int} : inP (F, some e) d = (decide (F ≤ d) && decide (d ≤ e)) := rfl
theorem stl_of {ps : List Pz} {p : Pz} {d : Int} (hm : p ∈ ps) (h : inP p d = true) : stl ps d = true := List.any_eq_true.mpr ⟨p, hm, h⟩
theorem stl_no {ps : List Pz} {d : Int} (h : ∀ p ∈ ps, inP p d = false) : stl ps d = false := by
 cases e : stl ps d with
 | false => rfl
 | true =>
  obtain ⟨p, hm, hp⟩ := List.any_eq_true.mp e
  rw [h p hm] at hp; cases hp
noncomputable def cn (g : Int → Bool) (n : Int) : Int := ((((List.range n.toNat).filter fun (t : Nat) => !g (t : Int)).length : Nat) : Int)
theorem cn_cnt (g : Int → Bool) : Cnt (cn g) g := ⟨fun n h => by
 unfold cn
 rw [show (n + 1).toNat = n.toNat + 1 by omega, List.range_succ, List.filter_append, List.length_append]
 have e : ((n.toNat : Nat) : Int) = n := by omega
 cases z : g n with
 | true =>
  rw [if_pos rfl, List.filter_cons_of_neg (by rw [e, z]; decide)]
  simp
 | false =>
  rw [if_neg (by decide), List.filter_cons_of_pos (by rw [e, z]; rfl)]
  simp⟩
theorem cnt_same {f f' : Int → Int} {g g' : Int → Bool} (c : Cnt f g) (c' : Cnt f' g') {a : Int} (a0 : 0 ≤ a) : ∀ k : Nat, (∀ d, a ≤ d → d < a + (k : Int) → g d = g' d) → f (a + (k : Int)) - f a = f' (a + (k : Int)) - f' a
 | 0, _ => by rw [Int.natCast_zero, Int.add_zero]; omega
 | k + 1, h => by
  have ih := cnt_same c c' a0 k fun d h1 h2 => h d h1 (by omega)
  have s := c.st (a + (k : Int)) (by omega)
  have s' := c'.st (a + (k : Int)) (by omega)
  rw [h _ (by omega) (by omega)] at s
  rw [show a + ((k + 1 : Nat) : Int) = a + (k : Int) + 1 by omega]
  omega
theorem cntq_eq {f f' : Int → Int} {g g' : Int → Bool} (c : Cnt f g) (c' : Cnt f' g') {a b : Int} (a0 : 0 ≤ a) (ab : a ≤ b) (h : ∀ d, a ≤ d → d < b → g d = g' d) : f b - f a = f' b - f' a := by
 have z := cnt_same c c' a0 (b - a).toNat fun d h1 h2 => h d h1 (by omega)
 rwa [show a + ((b - a).toNat : Int) = b by omega] at z
theorem cnt_st {f : Int → Int} {g : Int → Bool} (c : Cnt f g) {a b : Int} (a0 : 0 ≤ a) (ab : a ≤ b) (h : ∀ d, a ≤ d → d < b → g d = true) : f b = f a := by
 have z := cntq_eq c (g' := fun _ => true) (f' := fun _ => 0) ⟨fun _ _ => by rw [if_pos rfl]; rfl⟩ a0 ab h
 omega
noncomputable def gst (g : Int → Bool) (ps : List Pz) : Int → Bool := fun d => g d || stl ps d
noncomputable def Full (g : Int → Bool) (ps : List Pz) (s m : Int) : Option Int → Prop
 | some d => s < d ∧ gst g ps d = false ∧ cn (gst g ps) d = cn (gst g ps) (s + 1) + m - 1
 | none => (∃ F, (F, none) ∈ ps) ∧ ∀ d, s < d → cn (gst g ps) d < cn (gst g ps) (s + 1) + m
theorem full_uniq {g : Int → Bool} {ps : List Pz} {s m : Int} (s0 : 0 ≤ s) {r r' : Option Int} (h : Full g ps s m r) (h' : Full g ps s m r') : r = r' := by
 have C := cn_cnt (gst g ps)
 have no : ∀ {d}, Full g ps s m (some d) → Full g ps s m none → False := fun {d} ⟨h1, h2, h3⟩ ⟨_, h4⟩ => by
  have z := h4 (d + 1) (by omega)
  have st := C.st d (by omega)
  rw [h2, if_neg (by decide)] at st
  omega
 cases r with
 | none =>
  cases r' with
  | none => rfl
  | some d => exact (no h' h).elim
 | some d =>
  cases r' with
  | none => exact (no h h').elim
  | some e => exact congrArg some (cnt_one C (by have := h.1; omega) (by have := h'.1; omega) h.2.1 h'.2.1 (by rw [h.2.2, h'.2.2]))
structure Go (g : Int → Bool) (ps : List Pz) (s m : Int) (i : Nat) (b L : Int) : Prop where
 hb : s + 1 ≤ b
 hL : 1 ≤ L
 he : cn (gst g ps) b = cn (gst g ps) (s + 1) + m - L
 hp : ∀ p ∈ ps.take i, ∃ e, p.2 = some e ∧ e < b
structure Fin (f : Int → Int) (g : Int → Bool) (ps : List Pz) (s m b L : Int) : Prop where
 hb : s + 1 ≤ b
 hL : 1 ≤ L
 he : cn (gst g ps) b = cn (gst g ps) (s + 1) + m - L
 hn : ∀ d, b ≤ d → f d ≤ f b + L - 1 → stl ps d = false
theorem full_fin {f : Int → Int} {g : Int → Bool} {ps : List Pz} {s m b L d : Int} (C : Cnt f g) (s0 : 0 ≤ s) (h : Fin f g ps s m b L) (d0 : 0 ≤ d) (dF : g d = false) (dM : f d = f b + L - 1) : Full g ps s m (some d) := by
 have hb := h.hb
 have hL := h.hL
 have bd : b ≤ d := C.ge d0 dF (by omega)
 have z := cntq_eq (cn_cnt (gst g ps)) C (a := b) (b := d) (by omega) bd fun e h1 h2 => by
  have := C.le (n := e) (m := d) (by omega) (by omega)
  unfold gst
  rw [h.hn e h1 (by omega), Bool.or_false]
 refine ⟨by omega, ?_, by rw [h.he] at z; omega⟩
 unfold gst
 rw [dF, h.hn d bd (by omega)]
 rfl
theorem take_at {α : Type} {l : List α} {i : Nat} {x y : α} (h : y ∈ l) (hx : l[i]? = some x) : y ∈ l.take i ∨ y = x ∨ y ∈ l.drop (i + 1) := by
 obtain ⟨hi, rfl⟩ := List.getElem?_eq_some_iff.mp hx
 rw [← List.take_append_drop i l, List.drop_eq_getElem_cons hi] at h
 rcases List.mem_append.mp h with z | z
 ·exact .inl z
 ·rcases List.mem_cons.mp z with z | z
  ·exact .inr (.inl z)
  ·exact .inr (.inr z)
theorem aft_drop {ps : List Pz} (h : ps.Pairwise Aft) {i : Nat} {p q : Pz} (hp : ps[i]? = some p) (hq : q ∈ ps.drop (i + 1)) : Aft p q := by
 obtain ⟨hi, rfl⟩ := List.getElem?_eq_some_iff.mp hp
 have z := h.sublist (List.drop_sublist i ps)
 rw [List.drop_eq_getElem_cons hi] at z
 exact (List.pairwise_cons.mp z).1 q hq
theorem go_not {g : Int → Bool} {ps : List Pz} {s m b L d : Int} {i : Nat} {p : Pz} (ok : PsOk ps) (h : Go g ps s m i b L) (hp : ps[i]? = some p) (h1 : b ≤ d) (h2 : d < p.1) : stl ps d = false := by
 refine stl_no fun q hq => ?_
 rcases take_at hq hp with z | z | z
 ·obtain ⟨e, e1, e2⟩ := h.hp q z
  obtain ⟨F, o⟩ := q
  simp only at e1
  subst e1
  rw [inP_some, decide_eq_false (show ¬ d ≤ e by omega), Bool.and_false]
 ·subst z
  unfold inP
  rw [decide_eq_false (show ¬ q.1 ≤ d by omega), Bool.false_and]
 ·obtain ⟨e, e1, e2⟩ := aft_drop ok.srt hp z
  have := (ok.ok p (List.mem_of_getElem? hp)).2 e e1
  unfold inP
  rw [decide_eq_false (show ¬ q.1 ≤ d by omega), Bool.false_and]
noncomputable def cin (f : Int → Int) (b l : Int) : Int := if l < b then 0 else f (l + 1) - f b
theorem go_cin {f : Int → Int} {g : Int → Bool} {ps : List Pz} {s m b L : Int} {i : Nat} {p : Pz} (C : Cnt f g) (s0 : 0 ≤ s) (ok : PsOk ps) (h : Go g ps s m i b L) (hp : ps[i]? = some p) :
  0 ≤ cin f b (p.1 - 1) ∧ ∃ B, b ≤ B ∧ p.1 ≤ B ∧ (B = b ∨ B = p.1) ∧ cn (gst g ps) B = cn (gst g ps) b + cin f b (p.1 - 1) := by
 have hb := h.hb
 unfold cin
 rw [show p.1 - 1 + 1 = p.1 by omega]
 by_cases c : p.1 - 1 < b
 ·rw [if_pos c]
  exact ⟨Int.le_refl _, b, Int.le_refl _, by omega, .inl rfl, by omega⟩
 ·rw [if_neg c]
  have z := cntq_eq (cn_cnt (gst g ps)) C (a := b) (b := p.1) (by omega) (by omega) fun e h1 h2 => by
   unfold gst
   rw [go_not ok h hp h1 h2, Bool.or_false]
  have := C.le (n := b) (m := p.1) (by omega) (by omega)
  exact ⟨by omega, p.1, by omega, Int.le_refl _, .inr rfl, by omega⟩
theorem go_fin {f : Int → Int} {g : Int → Bool} {ps : List Pz} {s m b L : Int} {i : Nat} {p : Pz} (C : Cnt f g) (s0 : 0 ≤ s) (ok : PsOk ps) (h : Go g ps s m i b L) (hp : ps[i]? = some p) (c : L ≤ cin f b (p.1 - 1)) : Fin f g ps s m b L := by
 have hb := h.hb
 have hL := h.hL
 refine ⟨hb, hL, h.he, fun d h1 h2 => go_not ok h hp h1 ?_⟩
 unfold cin at c
 rw [show p.1 - 1 + 1 = p.1 by omega] at c
 by_cases z : p.1 - 1 < b
 ·rw [if_pos z] at c; omega
 ·rw [if_neg z] at c
  exact C.lt (by omega) (by omega)
theorem go_none {f : Int → Int} {g : Int → Bool} {ps : List Pz} {s m b L F : Int} {i : Nat} (C : Cnt f g) (s0 : 0 ≤ s) (ok : PsOk ps) (h : Go g ps s m i b L) (hp : ps[i]? = some (F, none)) (c : cin f b (F - 1) < L) : Full g ps s m none := by
 have hb := h.hb
 have he := h.he
 have hm := List.mem_of_getElem? hp
 refine ⟨⟨F, hm⟩, fun d hd => ?_⟩
 obtain ⟨c0, B, bB, FB, _, e⟩ := go_cin C s0 ok h hp
 simp only at FB e
 have CC := cn_cnt (gst g ps)
 by_cases z : d ≤ B
 ·have := CC.le (n := d) (m := B) (by omega) z
  omega
 ·have := cnt_st CC (a := B) (b := d) (by omega) (by omega) fun x h1 h2 => by
   unfold gst
   rw [stl_of hm (by rw [inP_none]; exact decide_eq_true (by omega)), Bool.or_true]
  omega
theorem go_next {f : Int → Int} {g : Int → Bool} {ps : List Pz} {s m b L F e : Int} {i : Nat} (C : Cnt f g) (s0 : 0 ≤ s) (ok : PsOk ps) (h : Go g ps s m i b L) (hp : ps[i]? = some (F, some e)) (c : cin f b (F - 1) < L) : Go g ps s m (i + 1) (if e + 1 > b then e + 1 else b) (L - cin f b (F - 1)) := by
 have hb := h.hb
 have he := h.he
 have hm := List.mem_of_getElem? hp
 have Fe := (ok.ok _ hm).2 e rfl
 simp only at Fe
 obtain ⟨c0, B, bB, FB, BB, eB⟩ := go_cin C s0 ok h hp
 simp only at FB eB BB
 have CC := cn_cnt (gst g ps)
 have nb : b ≤ (if e + 1 > b then e + 1 else b) ∧ e < (if e + 1 > b then e + 1 else b) ∧ B ≤ (if e + 1 > b then e + 1 else b) ∧ ((if e + 1 > b then e + 1 else b) = e + 1 ∨ (if e + 1 > b then e + 1 else b) = B) := by split <;> omega
 generalize (if e + 1 > b then e + 1 else b) = b' at nb ⊢
 have := cnt_st CC (a := B) (b := b') (by omega) nb.2.2.1 fun x h1 h2 => by
  unfold gst
  rw [stl_of hm (by rw [inP_some, decide_eq_true (show F ≤ x by omega), decide_eq_true (show x ≤ e by omega)]; rfl), Bool.or_true]
 refine ⟨by omega, by omega, by omega, fun p hpm => ?_⟩
 rw [take_snoc hp] at hpm
 rcases List.mem_append.mp hpm with z | z
 ·obtain ⟨x, x1, x2⟩ := h.hp p z
  exact ⟨x, x1, by omega⟩
 ·rw [List.mem_singleton.mp z]
  exact ⟨e, rfl, nb.2.1⟩
theorem go_end {f : Int → Int} {g : Int → Bool} {ps : List Pz} {s m b L : Int} (h : Go g ps s m ps.length b L) : Fin f g ps s m b L :=
 ⟨h.hb, h.hL, h.he, fun d h1 _ => stl_no fun q hq => by
  obtain ⟨e, e1, e2⟩ := h.hp q (by rw [List.take_length]; exact hq)
  obtain ⟨F, o⟩ := q
  simp only at e1
  subst e1
  rw [inP_some, decide_eq_false (show ¬ d ≤ e by omega), Bool.and_false]⟩
theorem go_zero {g : Int → Bool} {ps : List Pz} {s m : Int} (m1 : 1 ≤ m) : Go g ps s m 0 (s + 1) m := ⟨Int.le_refl _, m1, by omega, fun p hp => by rw [List.take_zero] at hp; cases hp⟩
structure Wk (g : Int → Bool) (ps : List Pz) (s m day left : Int) : Prop where
 hs : s ≤ day
 h0 : 0 ≤ left
 he : cn (gst g ps) (day + 1) = cn (gst g ps) (s + 1) + m - left
 hz : left = 0 → s < day ∧ gst g ps day = false
theorem wk_zero {g : Int → Bool} {ps : List Pz} {s m : Int} (m1 : 1 ≤ m) : Wk g ps s m s m := ⟨Int.le_refl _, by omega, by omega, fun z => by omega⟩
theorem still_from {g : Int → Bool} {ps : List Pz} {F : Int} (hm : (F, none) ∈ ps) {x : Int} (h : F ≤ x) : gst g ps x = true := by
 unfold gst
 rw [stl_of hm (by rw [inP_none]; exact decide_eq_true h), Bool.or_true]
theorem still_in {g : Int → Bool} {ps : List Pz} {F e : Int} (hm : (F, some e) ∈ ps) {x : Int} (h : F ≤ x) (h' : x ≤ e) : gst g ps x = true := by
 unfold gst
 rw [stl_of hm (by rw [inP_some, decide_eq_true h, decide_eq_true h']; rfl), Bool.or_true]
theorem wk_free {g : Int → Bool} {ps : List Pz} {s m day left : Int} (s0 : 0 ≤ s) (h : Wk g ps s m day left) (hl : 0 < left) (hg : gst g ps (day + 1) = true) : Wk g ps s m (day + 1) left := by
 have hs := h.hs
 have he := h.he
 have st := (cn_cnt (gst g ps)).st (day + 1) (by omega)
 rw [hg, if_pos rfl] at st
 exact ⟨by omega, h.h0, by omega, fun z => by omega⟩
theorem wk_cnt {g : Int → Bool} {ps : List Pz} {s m day left : Int} (s0 : 0 ≤ s) (h : Wk g ps s m day left) (hl : 0 < left) (hg : gst g ps (day + 1) = false) : Wk g ps s m (day + 1) (left - 1) := by
 have hs := h.hs
 have he := h.he
 have st := (cn_cnt (gst g ps)).st (day + 1) (by omega)
 rw [hg, if_neg (by decide)] at st
 exact ⟨by omega, by omega, by omega, fun z => ⟨by omega, hg⟩⟩
theorem wk_end {g : Int → Bool} {ps : List Pz} {s m day left : Int} (s0 : 0 ≤ s) (h : Wk g ps s m day left) (hl : ¬ 0 < left) : Full g ps s m (some day) := by
 have h0 := h.h0
 have hs := h.hs
 have he := h.he
 obtain ⟨h1, h2⟩ := h.hz (by omega)
 have st := (cn_cnt (gst g ps)).st day (by omega)
 rw [h2, if_neg (by decide)] at st
 exact ⟨h1, h2, by omega⟩
noncomputable def Tgt (ps : List Pz) : Option Int → Int → Prop
 | some d, t => t = d
 | none, t => (t, none) ∈ ps
theorem wk_lt {g : Int → Bool} {ps : List Pz} {s m day left t : Int} {r : Option Int} (s0 : 0 ≤ s) (h : Wk g ps s m day left) (hl : 0 < left) (F : Full g ps s m r) (tg : Tgt ps r t) (no : ∀ t, (t, none) ∈ ps → day < t) : day < t := by
 cases r with
 | none => exact no t tg
 | some d =>
  obtain rfl : t = d := tg
  obtain ⟨f1, f2, f3⟩ := F
  have CC := cn_cnt (gst g ps)
  have st := CC.st t (by omega)
  rw [f2, if_neg (by decide)] at st
  have he := h.he
  have hs := h.hs
  have := CC.lt (n := day + 1) (m := t + 1) (by omega) (by omega)
  omega
noncomputable def oV : Option Int → V
 | some i => .int i
 | none => .non
noncomputable def encQ (p : Pz) : List V := [.int p.1, oV p.2]
noncomputable def AtQ (H : Hp) (p : Addr) (ps : List Pz) : Prop := ∃ us, H p = some (.lst us) ∧ Tups H us (ps.map encQ)
theorem AtQ.same {H H' : Hp} {p : Addr} {ps : List Pz} (h : AtQ H p ps) (s : Same H H') : AtQ H' p ps := by
 obtain ⟨us, h1, h2⟩ := h
 exact ⟨us, s _ _ h1, h2.same s⟩
theorem map_getQ {ps : List Pz} {i : Nat} {t : List V} (h : (ps.map encQ)[i]? = some t) : ∃ p, ps[i]? = some p ∧ t = encQ p := by
 rw [List.getElem?_map] at h
 cases e : ps[i]? with
 | none => rw [e] at h; cases h
 | some p => rw [e] at h; exact ⟨p, rfl, (Option.some.inj h).symm⟩
noncomputable def spFullD (a : Adr) : Sp := fun vs H Q _ => ∃ (x pq : Addr) (i : Three) (s u : Int) (bs : List Bool) (rs : List Rw) (ps : List Pz), vs = [.ref x, .int s, .int u, .ref pq] ∧ KindAt a H x i bs rs ∧ TabOk bs rs ∧ AtQ H pq ps ∧ PsOk ps ∧ 0 ≤ s ∧ 1 ≤ u ∧
 ∀ (H' : Hp) (r : Option Int), Same H H' → Full (kf bs rs i) ps s (sel3 u (7 * u) u i) r → Q (oV r) H'
theorem sel3_pos {u : Int} (h : 1 ≤ u) : ∀ i : Three, 1 ≤ sel3 u (7 * u) u i
 | .a => h
 | .b => by show 1 ≤ 7 * u; omega
 | .c => h
noncomputable def Fnt (ps : List Pz) : Prop := ∀ p ∈ ps, ∃ e, p.2 = some e
theorem encQ_flat (ps : List Pz) : (ps.map encQ).all (·.all flatV) = true := by
 rw [List.all_eq_true]
 intro x hx
 obtain ⟨⟨F, o⟩, _, rfl⟩ := List.mem_map.mp hx
 cases o <;> rfl
theorem fit1 (x : V) : [x].length ≤ sizeLine := fits (show 1 ≤ 100000 by decide)
theorem eqTs_nil {ps : List Pz} (h : ¬ (!eqTs (ps.map encQ) []) = true) : ps = [] := by
 cases ps with
 | nil => rfl
 | cons p ps => exact absurd rfl h
theorem snoc_of {α : Type} : ∀ (l : List α), l ≠ [] → ∃ qs p, l = qs ++ [p]
 | [], h => absurd rfl h
 | [p], _ => ⟨[], p, rfl⟩
 | p :: q :: l, _ => by
  obtain ⟨qs, z, e⟩ := snoc_of (q :: l) (List.cons_ne_nil _ _)
  exact ⟨p :: qs, z, by rw [e]; rfl⟩
theorem eqTs_cons {ps : List Pz} (h : (!eqTs (ps.map encQ) []) = true) : ∃ qs p, ps = qs ++ [p] := by
 refine snoc_of ps fun z => ?_
 rw [z] at h
 exact absurd h (by decide)
theorem tups_app {H : Hp} : ∀ {us : List V} {as : List (List V)} {b : List V}, Tups H us (as ++ [b]) → ∃ vs c, us = vs ++ [.ref c] ∧ H c = some (.tup b) ∧ Tups H vs as
 | _, [], b, .cons h .nil => ⟨[], _, rfl, h, .nil⟩
 | _, a :: as, b, .cons h t => by
  obtain ⟨vs, c, e, h1, h2⟩ := tups_app (as := as) t
  exact ⟨_ :: vs, c, by rw [e]; rfl, h1, .cons h h2⟩
theorem tups_last {H : Hp} {us : List V} {qs : List Pz} {p : Pz} (t : Tups H us ((qs ++ [p]).map encQ)) : ∃ vs c, us = vs ++ [.ref c] ∧ H c = some (.tup (encQ p)) ∧ Tups H vs (qs.map encQ) := by
 rw [List.map_append] at t
 exact tups_app t
theorem at_last (us : List V) (x : V) : atI (us ++ [x]) (-1) = some x := by
 unfold atI
 rw [ix_last, Option.bind_some, List.getElem?_concat_length]
theorem cut_last (vs : List V) (x : V) : cutV (vs ++ [x]) none (some (-1)) = vs := by
 unfold cutV
 rw [HT.sIx_none]
 have : HT.sIx (vs ++ [x]).length (vs ++ [x]).length (some (-1)) = vs.length := by
  show (if (-1 : Int) < 0 then (-1 + ((vs ++ [x]).length : Int)).toNat else min (-1 : Int).toNat (vs ++ [x]).length) = _
  rw [if_pos (by decide), List.length_append, List.length_singleton]
  omega
 rw [this, List.drop_zero, Nat.sub_zero, List.take_left']
 rfl
noncomputable def Due (g : Int → Bool) (ps : List Pz) (full : Int) : Option Int → Prop
 | some d => full ≤ d ∧ gst g ps d = false ∧ ∀ e, full ≤ e → e < d → gst g ps e = true
 | none => (∃ F, (F, none) ∈ ps) ∧ ∀ e, full ≤ e → gst g ps e = true
theorem due_uniq {g : Int → Bool} {ps : List Pz} {full : Int} {r r' : Option Int} (h : Due g ps full r) (h' : Due g ps full r') : r = r' := by
 cases r with
 | none =>
  cases r' with
  | none => rfl
  | some d => have := h.2 d h'.1; rw [h'.2.1] at this; cases this
 | some d =>
  cases r' with
  | none => have := h'.2 d h.1; rw [h.2.1] at this; cases this
  | some e =>
   rcases (by omega : d < e ∨ d = e ∨ e < d) with z | z | z
   ·have := h'.2.2 d h.1 z; rw [h.2.1] at this; cases this
   ·rw [z]
   ·have := h.2.2 e h'.1 z; rw [h'.2.1] at this; cases this
structure Gd (g : Int → Bool) (ps : List Pz) (full : Int) (j : Nat) (t : Int) : Prop where
 hf : full ≤ t
 hg : g t = false
 hh : ∀ e, full ≤ e → e < t → gst g ps e = true
 hp : ∀ p ∈ ps.take j, ∃ e, p.2 = some e ∧ e < t
theorem gst_of {g : Int → Bool} {ps : List Pz} {e : Int} (h : g e = true) : gst g ps e = true := by unfold gst; rw [h, Bool.true_or]
theorem gd_zero {f : Int → Int} {g : Int → Bool} {ps : List Pz} {full t : Int} (C : Cnt f g) (f0 : 0 ≤ full) (t0 : 0 ≤ t) (hg : g t = false) (ht : f t = f full) : Gd g ps full 0 t :=
 ⟨C.ge t0 hg (by omega), hg, fun e h1 h2 => gst_of (C.free f0 ht h1 h2), fun p hp => by rw [List.take_zero] at hp; cases hp⟩
theorem gd_not {g : Int → Bool} {ps : List Pz} {full t : Int} {j : Nat} {p : Pz} (ok : PsOk ps) (h : Gd g ps full j t) (hp : ps[j]? = some p) (c : t < p.1) : Due g ps full (some t) := by
 refine ⟨h.hf, ?_, h.hh⟩
 unfold gst
 rw [h.hg, Bool.false_or]
 refine stl_no fun q hq => ?_
 rcases take_at hq hp with z | z | z
 ·obtain ⟨e, e1, e2⟩ := h.hp q z
  obtain ⟨F, o⟩ := q
  simp only at e1
  subst e1
  rw [inP_some, decide_eq_false (show ¬ t ≤ e by omega), Bool.and_false]
 ·subst z
  unfold inP
  rw [decide_eq_false (by omega), Bool.false_and]
 ·obtain ⟨e, e1, e2⟩ := aft_drop ok.srt hp z
  have := (ok.ok p (List.mem_of_getElem? hp)).2 e e1
  unfold inP
  rw [decide_eq_false (by omega), Bool.false_and]
theorem gd_none {g : Int → Bool} {ps : List Pz} {full t F : Int} {j : Nat} (h : Gd g ps full j t) (hp : ps[j]? = some (F, none)) (c : F ≤ t) : Due g ps full none := by
 have hm := List.mem_of_getElem? hp
 refine ⟨⟨F, hm⟩, fun e he => ?_⟩
 by_cases z : e < t
 ·exact h.hh e he z
 ·exact still_from hm (by omega)
theorem gd_over {g : Int → Bool} {ps : List Pz} {full t F e : Int} {j : Nat} (h : Gd g ps full j t) (hp : ps[j]? = some (F, some e)) (c : e < t) : Gd g ps full (j + 1) t :=
 ⟨h.hf, h.hg, h.hh, fun p hpm => by
  rw [take_snoc hp] at hpm
  rcases List.mem_append.mp hpm with z | z
  ·exact h.hp p z
  ·rw [List.mem_singleton.mp z]; exact ⟨e, rfl, c⟩⟩
theorem gd_leap {f : Int → Int} {g : Int → Bool} {ps : List Pz} {full t F e t' : Int} {j : Nat} (C : Cnt f g) (f0 : 0 ≤ full) (h : Gd g ps full j t) (hp : ps[j]? = some (F, some e)) (c1 : F ≤ t) (c2 : t ≤ e) (t0 : 0 ≤ t') (hg : g t' = false) (ht : f t' = f (e + 1)) : Gd g ps full (j + 1) t' := by
 have hm := List.mem_of_getElem? hp
 have hf := h.hf
 have ge : e + 1 ≤ t' := C.ge t0 hg (by omega)
 refine ⟨by omega, hg, fun x h1 h2 => ?_, fun p hpm => ?_⟩
 ·by_cases z : x < t
  ·exact h.hh x h1 z
  ·by_cases z2 : x ≤ e
   ·exact still_in hm (by omega) z2
   ·exact gst_of (C.free (n := e + 1) (by omega) ht (by omega) h2)
 ·rw [take_snoc hp] at hpm
  rcases List.mem_append.mp hpm with z | z
  ·obtain ⟨x, x1, x2⟩ := h.hp p z
   exact ⟨x, x1, by omega⟩
  ·rw [List.mem_singleton.mp z]; exact ⟨e, rfl, by omega⟩
theorem gd_end {g : Int → Bool} {ps : List Pz} {full t : Int} (h : Gd g ps full ps.length t) : Due g ps full (some t) := by
 refine ⟨h.hf, ?_, h.hh⟩
 unfold gst
 rw [h.hg, Bool.false_or]
 refine stl_no fun q hq => ?_
 obtain ⟨e, e1, e2⟩ := h.hp q (by rw [List.take_length]; exact hq)
 obtain ⟨F, o⟩ := q
 simp only at e1
 subst e1
 rw [inP_some, decide_eq_false (show ¬ t ≤ e by omega), Bool.and_false]
theorem full_some {g : Int → Bool} {ps : List Pz} {s m : Int} {r : Option Int} (fn : ∀ p ∈ ps, ∃ e, p.2 = some e) (h : Full g ps s m r) : ∃ d, r = some d := by
 cases r with
 | some d => exact ⟨d, rfl⟩
 | none => obtain ⟨⟨F, hF⟩, _⟩ := h; obtain ⟨e, he⟩ := fn _ hF; cases he
noncomputable def Lst (g tf : Int → Bool) (ps : List Pz) (s m : Int) (r : Option Int) : Prop := (Full g ps s m none ∧ r = none) ∨ ∃ f, Full g ps s m (some f) ∧ Due tf ps f r
noncomputable def spFDue (a : Adr) : Sp := fun vs H Q _ => ∃ (tb pq : Addr) (d : Int) (bs : List Bool) (rs : List Rw) (ps : List Pz), vs = [.ref tb, .int d, .ref pq] ∧ TabAt a.cPattern a.cTable H tb bs rs ∧ TabOk bs rs ∧ AtQ H pq ps ∧ PsOk ps ∧ 0 ≤ d ∧ ∀ (H' : Hp) (r : Option Int), Same H H' → Due (tfr bs rs) ps d r → Q (oV r) H'
noncomputable def spLastD (a : Adr) : Sp := fun vs H Q _ => ∃ (x pq : Addr) (i : Three) (s u : Int) (bs : List Bool) (rs : List Rw) (ps : List Pz), vs = [.ref x, .int s, .int u, .ref pq] ∧ KindAt a H x i bs rs ∧ TabOk bs rs ∧ AtQ H pq ps ∧ PsOk ps ∧ 0 ≤ s ∧ 1 ≤ u ∧
 ∀ (H' : Hp) (r : Option Int), Same H H' → Lst (kf bs rs i) (tfr bs rs) ps s (sel3 u (7 * u) u i) r → Q (oV r) H'
theorem lst_uniq {g tf : Int → Bool} {ps : List Pz} {s m : Int} {r r' : Option Int} (s0 : 0 ≤ s) (h : Lst g tf ps s m r) (h' : Lst g tf ps s m r') : r = r' := by
 rcases h with ⟨h1, rfl⟩ | ⟨f, h1, h2⟩
 ·rcases h' with ⟨_, rfl⟩ | ⟨f', h1', _⟩
  ·rfl
  ·cases full_uniq s0 h1 h1'
 ·rcases h' with ⟨h1', rfl⟩ | ⟨f', h1', h2'⟩
  ·cases full_uniq s0 h1 h1'
  ·cases full_uniq s0 h1 h1'
   exact due_uniq h2 h2'
theorem inV_strs (x : Str) (xs : List Str) : inV (.str x) (xs.map V.str) = xs.contains x := by
 unfold inV
 rw [List.any_map, List.contains_eq_any_beq]
 congr 1
 funext y
 show (y == x) = (x == y)
 rw [Bool.eq_iff_iff, beq_iff_eq, beq_iff_eq]
 exact eq_comm
theorem flat_strs (xs : List Str) : (xs.map V.str).all flatV = true := by rw [List.all_map]; exact List.all_eq_true.mpr fun _ _ => rfl
noncomputable abbrev rlF (nm w o op b m u s pe pa pl py : V) : List (Str × V) := [(Str.ofString "name", nm), (Str.ofString "who", w), (Str.ofString "owes", o), (Str.ofString "opens", op), (Str.ofString "base", b), (Str.ofString "many", m), (Str.ofString "unit", u), (Str.ofString "still", s), (Str.ofString "ends", pe), (Str.ofString "anew", pa), (Str.ofString "longer", pl), (Str.ofString "yields", py)]
noncomputable abbrev rnF (rl cn pr ov dy b un pp pg : V) : List (Str × V) := [(Str.ofString "rule", rl), (Str.ofString "counting", cn), (Str.ofString "rows", pr), (Str.ofString "over", ov), (Str.ofString "day", dy), (Str.ofString "base", b), (Str.ofString "units", un), (Str.ofString "pauses", pp), (Str.ofString "grants", pg)]
noncomputable abbrev rn1 (a1 : V) : List (Str × V) := [(Str.ofString "rule", a1)]
noncomputable abbrev rn2 (a1 a2 : V) : List (Str × V) := rn1 a1 ++ [(Str.ofString "counting", a2)]
noncomputable abbrev rn3 (a1 a2 a3 : V) : List (Str × V) := rn2 a1 a2 ++ [(Str.ofString "rows", a3)]
noncomputable abbrev rn4 (a1 a2 a3 a4 : V) : List (Str × V) := rn3 a1 a2 a3 ++ [(Str.ofString "over", a4)]
noncomputable abbrev rn5 (a1 a2 a3 a4 a5 : V) : List (Str × V) := rn4 a1 a2 a3 a4 ++ [(Str.ofString "day", a5)]
noncomputable abbrev rn6 (a1 a2 a3 a4 a5 a6 : V) : List (Str × V) := rn5 a1 a2 a3 a4 a5 ++ [(Str.ofString "base", a6)]
noncomputable abbrev rn7 (a1 a2 a3 a4 a5 a6 a7 : V) : List (Str × V) := rn6 a1 a2 a3 a4 a5 a6 ++ [(Str.ofString "units", a7)]
noncomputable abbrev rn8 (a1 a2 a3 a4 a5 a6 a7 a8 : V) : List (Str × V) := rn7 a1 a2 a3 a4 a5 a6 a7 ++ [(Str.ofString "pauses", a8)]
noncomputable abbrev rn9 (a1 a2 a3 a4 a5 a6 a7 a8 a9 : V) : List (Str × V) := rn8 a1 a2 a3 a4 a5 a6 a7 a8 ++ [(Str.ofString "grants", a9)]
noncomputable abbrev rq1 (a1 : V) : List (Str × V) := [(Str.ofString "name", a1)]
noncomputable abbrev rq2 (a1 a2 : V) : List (Str × V) := rq1 a1 ++ [(Str.ofString "who", a2)]
noncomputable abbrev rq3 (a1 a2 a3 : V) : List (Str × V) := rq2 a1 a2 ++ [(Str.ofString "owes", a3)]
noncomputable abbrev rq4 (a1 a2 a3 a4 : V) : List (Str × V) := rq3 a1 a2 a3 ++ [(Str.ofString "opens", a4)]
noncomputable abbrev rq5 (a1 a2 a3 a4 a5 : V) : List (Str × V) := rq4 a1 a2 a3 a4 ++ [(Str.ofString "base", a5)]
noncomputable abbrev rq6 (a1 a2 a3 a4 a5 a6 : V) : List (Str × V) := rq5 a1 a2 a3 a4 a5 ++ [(Str.ofString "many", a6)]
noncomputable abbrev rq7 (a1 a2 a3 a4 a5 a6 a7 : V) : List (Str × V) := rq6 a1 a2 a3 a4 a5 a6 ++ [(Str.ofString "unit", a7)]
noncomputable abbrev rq8 (a1 a2 a3 a4 a5 a6 a7 a8 : V) : List (Str × V) := rq7 a1 a2 a3 a4 a5 a6 a7 ++ [(Str.ofString "still", a8)]
noncomputable abbrev rq9 (a1 a2 a3 a4 a5 a6 a7 a8 a9 : V) : List (Str × V) := rq8 a1 a2 a3 a4 a5 a6 a7 a8 ++ [(Str.ofString "ends", a9)]
noncomputable abbrev rq10 (a1 a2 a3 a4 a5 a6 a7 a8 a9 a10 : V) : List (Str × V) := rq9 a1 a2 a3 a4 a5 a6 a7 a8 a9 ++ [(Str.ofString "anew", a10)]
noncomputable abbrev rq11 (a1 a2 a3 a4 a5 a6 a7 a8 a9 a10 a11 : V) : List (Str × V) := rq10 a1 a2 a3 a4 a5 a6 a7 a8 a9 a10 ++ [(Str.ofString "longer", a11)]
noncomputable abbrev rq12 (a1 a2 a3 a4 a5 a6 a7 a8 a9 a10 a11 a12 : V) : List (Str × V) := rq11 a1 a2 a3 a4 a5 a6 a7 a8 a9 a10 a11 ++ [(Str.ofString "yields", a12)]
noncomputable abbrev R3 := Str × Int × Str
noncomputable def encR (r : R3) : List V := [.str r.1, .int r.2.1, .str r.2.2]
noncomputable def encL (r : Str × Int × Int) : List V := [.str r.1, .int r.2.1, .int r.2.2]
structure RD where
 owes : Str
 ends : List Str
 anew : List Str
 longer : List (Str × Int × Int)
 still : Option (Str × Str)
 many : Int
 unit : Three
structure RdOk (rd : RD) : Prop where
 m1 : 1 ≤ rd.many
 l : rd.longer.length ≤ 100
 e : rd.ends.length ≤ 100
 a : rd.anew.length ≤ 100
 u : ∀ t ∈ rd.longer, 0 ≤ t.2.1
noncomputable def StAt (H : Hp) (v : V) : Option (Str × Str) → Prop
 | none => v = .non
 | some s => ∃ p, v = .ref p ∧ H p = some (.tup [.str s.1, .str s.2])
theorem StAt.same {H H' : Hp} {v : V} {o : Option (Str × Str)} (h : StAt H v o) (z : Same H H') : StAt H' v o := by
 cases o with
 | none => exact h
 | some s => obtain ⟨p, h1, h2⟩ := h; exact ⟨p, h1, z _ _ h2⟩
noncomputable def RuleAt (a : Adr) (H : Hp) (rl : Addr) (rd : RD) : Prop := ∃ (dx pe pa pl : Addr) (nm w op b s py : V) (us : List V), H rl = some (.ins a.cRule dx (rlF nm w (.str rd.owes) op b (.int rd.many) (.str (unit3 rd.unit)) s (.ref pe) (.ref pa) (.ref pl) py)) ∧ StAt H s rd.still ∧ H pe = some (.lst (rd.ends.map V.str)) ∧ H pa = some (.lst (rd.anew.map V.str)) ∧ H pl = some (.lst us) ∧ Tups H us (rd.longer.map encL)
theorem RuleAt.same {a : Adr} {H H' : Hp} {rl : Addr} {rd : RD} (h : RuleAt a H rl rd) (z : Same H H') : RuleAt a H' rl rd := by
 obtain ⟨dx, pe, pa, pl, nm, w, op, b, s, py, us, h1, h2, h3, h4, h5, h6⟩ := h
 exact ⟨dx, pe, pa, pl, nm, w, op, b, s, py, us, z _ _ h1, h2.same z, z _ _ h3, z _ _ h4, z _ _ h5, h6.same z⟩
noncomputable def stOf (o : Option (Str × Str)) (k : Str) : Str := match o with
 | none => Str.ofString ""
 | some s => if k = s.1 then Str.ofString "still" else if k = s.2 then Str.ofString "goes on" else Str.ofString ""
noncomputable def roleOf (rd : RD) (k : Str) : Str := if k = rd.owes ∨ rd.ends.contains k = true then Str.ofString "ends" else if rd.anew.contains k = true then Str.ofString "anew" else if (rd.longer.map (·.1)).contains k = true then Str.ofString "longer" else stOf rd.still k
structure RS where
 rows : List R3
 over : Bool
 day : Int
 units : Int
 ps : List Pz
 gr : List (Key × V)
noncomputable def gv (gr : List (Key × V)) (k : Str) : Int := match valV gr (.inr k) with
 | some (.int n) => n
 | _ => 0
structure StOk (st : RS) (c : Int) : Prop where
 ps : PsOk st.ps
 d0 : 0 ≤ st.day
 u1 : 1 ≤ st.units
 pl : st.ps.length ≤ st.rows.length
 rl : st.rows.length ≤ 400
 gl : st.gr.length ≤ st.rows.length
 gi : ∀ k v, valV st.gr k = some v → ∃ n : Int, v = .int n
 cu : ∀ p ∈ st.ps, ∀ e, p.2 = some e → e < c
 r0 : st.rows ≠ []
noncomputable def need (i : Three) (u : Int) : Int := sel3 u (7 * u) u i
structure RunX (a : Adr) (B H : Hp) (x dx rl cn pr pp pg : Addr) (ur up : List V) (rd : RD) (st : RS) (bs : List Bool) (rs : List Rw) : Prop where
 ne : pr ≠ pp
 hx : H x = some (.ins a.cRun dx (rnF (.ref rl) (.ref cn) (.ref pr) (.bl st.over) (.int st.day) .non (.int st.units) (.ref pp) (.ref pg)))
 hr : H pr = some (.lst ur)
 tr : Tups H ur (st.rows.map encR)
 hp : H pp = some (.lst up)
 tp : Tups H up (st.ps.map encQ)
 hg : H pg = some (.dK st.gr)
 rl : RuleAt a B rl rd
 kd : KindAt a B cn rd.unit bs rs
 sm : Same B H
 bx : B x = none
 br : B pr = none
 bp : B pp = none
 bg : B pg = none
noncomputable def RunAt (a : Adr) (B H : Hp) (x : Addr) (S : List Addr) (rd : RD) (st : RS) (bs : List Bool) (rs : List Rw) : Prop := ∃ (dx rl cn pr pp pg : Addr) (ur up : List V), S = [x, pr, pp, pg] ∧ RunX a B H x dx rl cn pr pp pg ur up rd st bs rs
theorem ne_il {H : Hp} {x p C dx : Addr} {fs : List (Str × V)} {l : List V} (h : H x = some (.ins C dx fs)) (h' : H p = some (.lst l)) : x ≠ p := fun z => by rw [z, h'] at h; cases h
theorem ne_id {H : Hp} {x p C dx : Addr} {fs : List (Str × V)} {l : List (Key × V)} (h : H x = some (.ins C dx fs)) (h' : H p = some (.dK l)) : x ≠ p := fun z => by rw [z, h'] at h; cases h
theorem ne_ld {H : Hp} {x p : Addr} {fs : List V} {l : List (Key × V)} (h : H x = some (.lst fs)) (h' : H p = some (.dK l)) : x ≠ p := fun z => by rw [z, h'] at h; cases h
theorem tups_ins {H : Hp} {us : List V} {ts : List (List V)} {x C dx : Addr} {fs : List (Str × V)} {o : HO} (t : Tups H us ts) (h : H x = some (.ins C dx fs)) : Tups (upd H x o) us ts := by
 induction t with
 | nil => exact .nil
 | cons e _ ih => exact .cons ((qr fun z => by rw [z, h] at e; cases e).trans e) ih
theorem tups_dic {H : Hp} {us : List V} {ts : List (List V)} {x : Addr} {l : List (Key × V)} {o : HO} (t : Tups H us ts) (h : H x = some (.dK l)) : Tups (upd H x o) us ts := by
 induction t with
 | nil => exact .nil
 | cons e _ ih => exact .cons ((qr fun z => by rw [z, h] at e; cases e).trans e) ih
section
variable {a : Adr} {B H H' : Hp} {x dx rl cn pr pp pg : Addr} {ur up : List V} {rd : RD} {st : RS} {bs : List Bool} {rs : List Rw}
theorem RunX.same (h : RunX a B H x dx rl cn pr pp pg ur up rd st bs rs) (z : Same H H') : RunX a B H' x dx rl cn pr pp pg ur up rd st bs rs :=
 ⟨h.ne, z _ _ h.hx, z _ _ h.hr, h.tr.same z, z _ _ h.hp, h.tp.same z, z _ _ h.hg, h.rl, h.kd, h.sm.trans z, h.bx, h.br, h.bp, h.bg⟩
theorem RunX.setP (h : RunX a B H x dx rl cn pr pp pg ur up rd st bs rs) {up' : List V} {ps' : List Pz} (t : Tups H up' (ps'.map encQ)) : RunX a B (upd H pp (.lst up')) x dx rl cn pr pp pg ur up' rd { st with ps := ps' } bs rs :=
 ⟨h.ne, (qr (ne_il h.hx h.hp)).trans h.hx, (qr h.ne).trans h.hr, h.tr.upd h.hp, qm, t.upd h.hp, (qr (Ne.symm (ne_ld h.hp h.hg))).trans h.hg, h.rl, h.kd, same_add h.sm h.bp, h.bx, h.br, h.bp, h.bg⟩
theorem RunX.setR (h : RunX a B H x dx rl cn pr pp pg ur up rd st bs rs) {ur' : List V} {rows' : List R3} (t : Tups H ur' (rows'.map encR)) : RunX a B (upd H pr (.lst ur')) x dx rl cn pr pp pg ur' up rd { st with rows := rows' } bs rs :=
 ⟨h.ne, (qr (ne_il h.hx h.hr)).trans h.hx, qm, t.upd h.hr, (qr (Ne.symm h.ne)).trans h.hp, h.tp.upd h.hr, (qr (Ne.symm (ne_ld h.hr h.hg))).trans h.hg, h.rl, h.kd, same_add h.sm h.br, h.bx, h.br, h.bp, h.bg⟩
theorem RunX.setG (h : RunX a B H x dx rl cn pr pp pg ur up rd st bs rs) {gr' : List (Key × V)} : RunX a B (upd H pg (.dK gr')) x dx rl cn pr pp pg ur up rd { st with gr := gr' } bs rs :=
 ⟨h.ne, (qr (ne_id h.hx h.hg)).trans h.hx, (qr (ne_ld h.hr h.hg)).trans h.hr, tups_dic h.tr h.hg, (qr (ne_ld h.hp h.hg)).trans h.hp, tups_dic h.tp h.hg, qm, h.rl, h.kd, same_add h.sm h.bg, h.bx, h.br, h.bp, h.bg⟩
theorem RunX.setF (h : RunX a B H x dx rl cn pr pp pg ur up rd st bs rs) {o' : Bool} {u' : Int} : RunX a B (upd H x (.ins a.cRun dx (rnF (.ref rl) (.ref cn) (.ref pr) (.bl o') (.int st.day) .non (.int u') (.ref pp) (.ref pg)))) x dx rl cn pr pp pg ur up rd { st with over := o', units := u' } bs rs :=
 ⟨h.ne, qm, (qr (Ne.symm (ne_il h.hx h.hr))).trans h.hr, tups_ins h.tr h.hx, (qr (Ne.symm (ne_il h.hx h.hp))).trans h.hp, tups_ins h.tp h.hx, (qr (Ne.symm (ne_id h.hx h.hg))).trans h.hg, h.rl, h.kd, same_add h.sm h.bx, h.bx, h.br, h.bp, h.bg⟩
end
noncomputable def KeepS (S : List Addr) (H H' : Hp) : Prop := ∀ b o, b ∉ S → H b = some o → H' b = some o
theorem KeepS.of {S : List Addr} {H H' : Hp} (s : Same H H') : KeepS S H H' := fun b o _ e => s b o e
noncomputable def Fresh (H : Hp) (S S' : List Addr) : Prop := ∀ b ∈ S', b ∈ S ∨ H b = none
theorem Fresh.refl {H : Hp} {S : List Addr} : Fresh H S S := fun _ h => .inl h
theorem KeepS.trans {S S' : List Addr} {H H1 H2 : Hp} (h1 : KeepS S H H1) (f : Fresh H S S') (h2 : KeepS S' H1 H2) : KeepS S H H2 := fun b o n e => h2 b o (fun m => by
 rcases f b m with z | z
 ·exact n z
 ·rw [z] at e; cases e) (h1 b o n e)
theorem RunAt.same {a : Adr} {B H H' : Hp} {x : Addr} {S : List Addr} {rd : RD} {st : RS} {bs : List Bool} {rs : List Rw} (h : RunAt a B H x S rd st bs rs) (z : Same H H') : RunAt a B H' x S rd st bs rs := by
 obtain ⟨dx, rl, cn, pr, pp, pg, ur, up, hS, h⟩ := h
 exact ⟨dx, rl, cn, pr, pp, pg, ur, up, hS, h.same z⟩
theorem keep_upd {S : List Addr} {H : Hp} {p : Addr} {o : HO} (h : p ∈ S) : KeepS S H (upd H p o) := fun b u n e => by rw [qr (fun z : b = p => n (by rw [z]; exact h))]; exact e
noncomputable def haltedB (ps : List Pz) : Bool := match ps.getLast? with
 | some (_, none) => true
 | _ => false
noncomputable def goPs (ps : List Pz) (d : Int) : List Pz := match ps.getLast? with
 | some (F, none) => ps.dropLast ++ (if F < d then [(F, some (d - 1))] else [])
 | _ => ps
noncomputable def under (st : RS) (r : Option Int) (d : Int) : Bool := decide (st.day < d) && (match r with | none => true | some l => decide (d ≤ l))
noncomputable def lenF (rd : RD) (gr : List (Key × V)) (k : Str) : Option (Str × Int × Int) := rd.longer.find? fun t => decide (t.1 = k) && decide (gv gr k < t.2.2)
noncomputable def worksF (rd : RD) (st : RS) (r : Option Int) (w : Str) (d : Int) (k : Str) : Option RS :=
 if w = Str.ofString "ends" then some { st with ps := goPs st.ps d, over := true }
 else if under st r d = false then none
 else if w = Str.ofString "anew" then some { st with day := d, units := rd.many, ps := [], gr := [] }
 else if w = Str.ofString "longer" then (match lenF rd st.gr k with | none => none | some t => some { st with units := st.units + t.2.1, gr := putK st.gr (.inr k) (.int (gv st.gr k + 1)) })
 else if w = Str.ofString "still" then (if haltedB st.ps = true then none else some { st with ps := st.ps ++ [(d, none)] })
 else (if haltedB st.ps = true then some { st with ps := goPs st.ps d } else none)
noncomputable def feelF (rd : RD) (st : RS) (r : Option Int) (n : Str) (d : Int) (k : Str) : RS × Bool :=
 if roleOf rd k = Str.ofString "" ∨ st.over = true then (st, false)
 else match worksF rd st r (roleOf rd k) d k with
  | none => (st, false)
  | some s => ({ s with rows := s.rows ++ [(n, d, roleOf rd k)] }, true)
noncomputable def spRlInit (a : Adr) : Sp := fun vs H Q _ => ∃ (x dx : Addr) (nm w o op b m u s : V), vs = [.ref x, nm, w, o, op, b, m, u, s] ∧ H x = some (.ins a.cRule dx []) ∧
 ∀ (H' : Hp) (pe pa pl py : Addr), SameBut x H H' → H pe = none → H pa = none → H pl = none → H' x = some (.ins a.cRule dx (rlF nm w o op b m u s (.ref pe) (.ref pa) (.ref pl) (.ref py))) → H' pe = some (.lst []) → H' pa = some (.lst []) → H' pl = some (.lst []) → pe ≠ pl → pa ≠ pl → pe ≠ pa → Q .non H'
noncomputable def spStl (a : Adr) : Sp := fun vs H Q _ => ∃ (rl : Addr) (k : Str) (rd : RD), vs = [.ref rl, .str k] ∧ RuleAt a H rl rd ∧ Q (.str (stOf rd.still k)) H
noncomputable def spRole (a : Adr) : Sp := fun vs H Q _ => ∃ (rl : Addr) (k : Str) (rd : RD), vs = [.ref rl, .str k] ∧ RuleAt a H rl rd ∧ RdOk rd ∧ ∀ H', Same H H' → Q (.str (roleOf rd k)) H'
noncomputable def Msk (S : List Addr) (H : Hp) : Hp := fun b => if b ∈ S then none else H b
theorem msk_at {S : List Addr} {H : Hp} {b : Addr} (h : b ∉ S) : Msk S H b = H b := if_neg h
theorem msk_in {S : List Addr} {H : Hp} {b : Addr} (h : b ∈ S) : Msk S H b = none := if_pos h
theorem msk_same {S : List Addr} {H : Hp} : Same (Msk S H) H := fun b o e => by
 by_cases z : b ∈ S
 ·rw [msk_in z] at e; cases e
 ·rw [msk_at z] at e; exact e
theorem own_free {H : Hp} {x pr pp pg : Addr} (h1 : H x = none) (h2 : H pr = none) (h3 : H pp = none) (h4 : H pg = none) : ∀ b ∈ [x, pr, pp, pg], H b = none := fun b hb => by
 rcases List.mem_cons.mp hb with z | hb
 ·rw [z]; exact h1
 ·rcases List.mem_cons.mp hb with z | hb
  ·rw [z]; exact h2
  ·rcases List.mem_cons.mp hb with z | hb
   ·rw [z]; exact h3
   ·rw [List.mem_singleton.mp hb]; exact h4
noncomputable def LsR (bs : List Bool) (rs : List Rw) (rd : RD) (st : RS) (r : Option Int) : Prop := Lst (kf bs rs rd.unit) (tfr bs rs) st.ps st.day (need rd.unit st.units) r
noncomputable def spSetO (a : Adr) : Sp := fun vs H Q _ => ∃ (x dx rl : Addr) (cn pr ov : V) (fs : List (Str × V)) (d : Int) (rd : RD), vs = [.ref x, .int d, .non] ∧ H x = some (.ins a.cRun dx fs) ∧ (fs = [(Str.ofString "rule", .ref rl), (Str.ofString "counting", cn), (Str.ofString "rows", pr), (Str.ofString "over", ov)] ∨ ∃ dy b un pp pg, fs = rnF (.ref rl) cn pr ov dy b un pp pg) ∧ RuleAt a H rl rd ∧ rl ≠ x ∧
 ∀ (H' : Hp) (pp pg : Addr), SameBut x H H' → H pp = none → H pg = none → H' x = some (.ins a.cRun dx (rnF (.ref rl) cn pr ov (.int d) .non (.int rd.many) (.ref pp) (.ref pg))) → H' pp = some (.lst []) → H' pg = some (.dK []) → Q .non H'
noncomputable def spRnInit (a : Adr) : Sp := fun vs H Q _ => ∃ (x dx rl tb : Addr) (n : Str) (d : Int) (rd : RD) (bs : List Bool) (rs : List Rw) (Hb : Hp), vs = [.ref x, .ref rl, .ref tb, .str n, .int d, .non] ∧ H x = some (.ins a.cRun dx []) ∧ Same Hb H ∧ Hb x = none ∧ RuleAt a Hb rl rd ∧ TabAt a.cPattern a.cTable Hb tb bs rs ∧
 ∀ (H' B : Hp) (S : List Addr), Same Hb B → Same Hb H' → (∀ b ∈ S, Hb b = none) → RunAt a B H' x S rd ⟨[(n, d, Str.ofString "begins")], false, d, rd.many, [], []⟩ bs rs → Q .non H'
noncomputable def spSt (a : Adr) : Sp := fun vs H Q _ => ∃ (x : Addr) (B : Hp) (S : List Addr) (rd : RD) (st : RS) (bs : List Bool) (rs : List Rw), vs = [.ref x] ∧ RunAt a B H x S rd st bs rs ∧ Q (.int st.day) H
noncomputable def spOvr (a : Adr) : Sp := fun vs H Q _ => ∃ (x : Addr) (B : Hp) (S : List Addr) (rd : RD) (st : RS) (bs : List Bool) (rs : List Rw), vs = [.ref x] ∧ RunAt a B H x S rd st bs rs ∧ Q (.bl st.over) H
noncomputable def spHl (a : Adr) : Sp := fun vs H Q _ => ∃ (x : Addr) (B : Hp) (S : List Addr) (rd : RD) (st : RS) (bs : List Bool) (rs : List Rw), vs = [.ref x] ∧ RunAt a B H x S rd st bs rs ∧ Q (.bl (haltedB st.ps)) H
noncomputable def spLt (a : Adr) : Sp := fun vs H Q _ => ∃ (x : Addr) (B : Hp) (S : List Addr) (rd : RD) (st : RS) (bs : List Bool) (rs : List Rw) (c : Int), vs = [.ref x] ∧ RunAt a B H x S rd st bs rs ∧ TabOk bs rs ∧ StOk st c ∧ ∀ (H' : Hp) (r : Option Int), Same H H' → LsR bs rs rd st r → Q (oV r) H'
noncomputable def spUw (a : Adr) : Sp := fun vs H Q _ => ∃ (x : Addr) (B : Hp) (S : List Addr) (rd : RD) (st : RS) (bs : List Bool) (rs : List Rw) (c d : Int) (r : Option Int), vs = [.ref x, .int d] ∧ RunAt a B H x S rd st bs rs ∧ TabOk bs rs ∧ StOk st c ∧ LsR bs rs rd st r ∧ ∀ H', Same H H' → Q (.bl (under st r d)) H'
noncomputable def spGo (a : Adr) : Sp := fun vs H Q _ => ∃ (x : Addr) (B : Hp) (S : List Addr) (rd : RD) (st : RS) (bs : List Bool) (rs : List Rw) (c d : Int), vs = [.ref x, .int d] ∧ RunAt a B H x S rd st bs rs ∧ StOk st c ∧ ∀ H', KeepS S H H' → RunAt a B H' x S rd { st with ps := goPs st.ps d } bs rs → Q (.bl (haltedB st.ps)) H'
noncomputable def spFi (a : Adr) : Sp := fun vs H Q _ => ∃ (x : Addr) (B : Hp) (S : List Addr) (rd : RD) (st : RS) (bs : List Bool) (rs : List Rw) (c d : Int), vs = [.ref x, .int d] ∧ RunAt a B H x S rd st bs rs ∧ StOk st c ∧ ∀ H', KeepS S H H' → RunAt a B H' x S rd { st with ps := goPs st.ps d, over := true } bs rs → Q (.bl true) H'
noncomputable def spAn (a : Adr) : Sp := fun vs H Q _ => ∃ (x : Addr) (B : Hp) (S : List Addr) (rd : RD) (st : RS) (bs : List Bool) (rs : List Rw) (d : Int), vs = [.ref x, .int d] ∧ RunAt a B H x S rd st bs rs ∧ ∀ H' S', KeepS S H H' → Fresh H S S' → RunAt a B H' x S' rd { st with day := d, units := rd.many, ps := [], gr := [] } bs rs → Q (.bl true) H'
noncomputable def spLe (a : Adr) : Sp := fun vs H Q _ => ∃ (x : Addr) (B : Hp) (S : List Addr) (rd : RD) (st : RS) (bs : List Bool) (rs : List Rw) (c : Int) (k : Str), vs = [.ref x, .str k] ∧ RunAt a B H x S rd st bs rs ∧ StOk st c ∧ (lenF rd st.gr k = none → Q (.bl false) H) ∧
 ∀ H' t, KeepS S H H' → lenF rd st.gr k = some t → RunAt a B H' x S rd { st with units := st.units + t.2.1, gr := putK st.gr (.inr k) (.int (gv st.gr k + 1)) } bs rs → Q (.bl true) H'
noncomputable def spHa (a : Adr) : Sp := fun vs H Q _ => ∃ (x : Addr) (B : Hp) (S : List Addr) (rd : RD) (st : RS) (bs : List Bool) (rs : List Rw) (c d : Int), vs = [.ref x, .int d] ∧ RunAt a B H x S rd st bs rs ∧ StOk st c ∧ (haltedB st.ps = true → Q (.bl false) H) ∧ ∀ H', KeepS S H H' → haltedB st.ps = false → RunAt a B H' x S rd { st with ps := st.ps ++ [(d, none)] } bs rs → Q (.bl true) H'
noncomputable def spWk (a : Adr) : Sp := fun vs H Q _ => ∃ (x : Addr) (B : Hp) (S : List Addr) (rd : RD) (st : RS) (bs : List Bool) (rs : List Rw) (c d : Int) (w k : Str) (r : Option Int), vs = [.ref x, .str w, .int d, .str k] ∧ RunAt a B H x S rd st bs rs ∧ TabOk bs rs ∧ StOk st c ∧ LsR bs rs rd st r ∧
 ∀ H' S', KeepS S H H' → Fresh H S S' → (worksF rd st r w d k = none → RunAt a B H' x S' rd st bs rs → Q (.bl false) H') ∧ ∀ s, worksF rd st r w d k = some s → RunAt a B H' x S' rd s bs rs → Q (.bl true) H'
noncomputable def spFe (a : Adr) : Sp := fun vs H Q _ => ∃ (x : Addr) (B : Hp) (S : List Addr) (rd : RD) (st : RS) (bs : List Bool) (rs : List Rw) (c d : Int) (n k : Str) (r : Option Int), vs = [.ref x, .str n, .int d, .str k] ∧ RunAt a B H x S rd st bs rs ∧ TabOk bs rs ∧ RdOk rd ∧ StOk st c ∧ LsR bs rs rd st r ∧
 ∀ H' S', KeepS S H H' → Fresh H S S' → RunAt a B H' x S' rd (feelF rd st r n d k).1 bs rs → Q (.bl (feelF rd st r n d k).2) H'
noncomputable def swd (o : Bool) (r : Option Int) : Str := if o = true then Str.ofString "over" else if r = none then Str.ofString "stands" else Str.ofString "runs"
noncomputable def spSw (a : Adr) : Sp := fun vs H Q _ => ∃ (x : Addr) (B : Hp) (S : List Addr) (rd : RD) (st : RS) (bs : List Bool) (rs : List Rw) (r : Option Int), vs = [.ref x, oV r] ∧ RunAt a B H x S rd st bs rs ∧ Q (.str (swd st.over r)) H
noncomputable def AtR (H : Hp) (p : Addr) (rows : List R3) : Prop := ∃ us, H p = some (.lst us) ∧ Tups H us (rows.map encR)
theorem AtR.same {H H' : Hp} {p : Addr} {rows : List R3} (h : AtR H p rows) (z : Same H H') : AtR H' p rows := by
 obtain ⟨us, h1, h2⟩ := h; exact ⟨us, z _ _ h1, h2.same z⟩
noncomputable def AccAt (H : Hp) (q p4 p6 : Addr) (n : Str) (st : RS) (r : Option Int) : Prop := H q = some (.tup [.str n, .str (swd st.over r), .int st.day, .int st.units, .ref p4, oV r, .ref p6]) ∧ AtQ H p4 st.ps ∧ AtR H p6 st.rows
noncomputable def spAc (a : Adr) : Sp := fun vs H Q _ => ∃ (x : Addr) (B : Hp) (S : List Addr) (rd : RD) (st : RS) (bs : List Bool) (rs : List Rw) (c : Int) (r : Option Int) (n w0 : Str) (d0 : Int) (rw : List R3), vs = [.ref x] ∧ RunAt a B H x S rd st bs rs ∧ TabOk bs rs ∧ StOk st c ∧ LsR bs rs rd st r ∧ st.rows = (n, d0, w0) :: rw ∧
 ∀ (q p4 p6 : Addr) (H' : Hp), Same H H' → H q = none → H p4 = none → H p6 = none → AccAt H' q p4 p6 n st r → Q (.ref q) H'
theorem hal_ex {ps : List Pz} (h : haltedB ps = true) : ∃ qs F, ps = qs ++ [(F, none)] := by
 rcases List.eq_nil_or_concat ps with e | ⟨qs, p, e⟩
 ·rw [e] at h; cases h
 ·rw [List.concat_eq_append] at e
  subst e
  obtain ⟨F, o⟩ := p
  cases o with
  | none => exact ⟨qs, F, rfl⟩
  | some x => unfold haltedB at h; rw [List.getLast?_append] at h; cases h
theorem hal_snoc {qs : List Pz} {F : Int} {o : Option Int} : haltedB (qs ++ [(F, o)]) = decide (oV o = V.non) := by
 unfold haltedB
 rw [List.getLast?_append]
 cases o <;> rfl
theorem go_snoc {qs : List Pz} {F d : Int} : goPs (qs ++ [(F, none)]) d = qs ++ (if F < d then [(F, some (d - 1))] else []) := by
 unfold goPs
 rw [List.getLast?_append]
 show (qs ++ [(F, none)]).dropLast ++ _ = _
 rw [List.dropLast_concat]
theorem go_same {ps : List Pz} {d : Int} (h : haltedB ps = false) : goPs ps d = ps := by
 unfold goPs haltedB at *
 split at h
 ·cases h
 ·rfl
theorem last_ix (vs : List V) (x : V) : (vs ++ [x])[(vs ++ [x]).length - 1]? = some x := by rw [List.length_append, List.length_singleton, Nat.add_sub_cancel, List.getElem?_append_right (Nat.le_refl _), Nat.sub_self]; rfl
theorem fit7 (x0 x1 x2 x3 x4 x5 x6 : V) : [x0, x1, x2, x3, x4, x5, x6].length ≤ sizeLine := Nat.le_of_lt (small1000 (show 7 ≤ 1000 by decide))
theorem gv_get {gr : List (Key × V)} (h : ∀ k v, valV gr k = some v → ∃ n : Int, v = .int n) (k : Str) : (valV gr (.inr k)).getD (.int 0) = .int (gv gr k) := by
 unfold gv
 cases e : valV gr (.inr k) with
 | none => rfl
 | some v => obtain ⟨n, rfl⟩ := h _ _ e; rfl
theorem find_at {α : Type} {p : α → Bool} {l : List α} {i : Nat} {t : α} (h : (l.take i).find? p = none) (ht : l[i]? = some t) (hp : p t = true) : l.find? p = some t := by
 obtain ⟨hi, he⟩ := List.getElem?_eq_some_iff.mp ht
 have e : l = l.take i ++ t :: l.drop (i + 1) := by rw [← he, ← List.drop_eq_getElem_cons hi, List.take_append_drop]
 rw [e, List.find?_append, h, List.find?_cons, hp]
 rfl
theorem find_on {α : Type} {p : α → Bool} {l : List α} {i : Nat} {t : α} (h : (l.take i).find? p = none) (ht : l[i]? = some t) (hp : p t = false) : (l.take (i + 1)).find? p = none := by
 rw [take_snoc ht, List.find?_append, h, List.find?_cons, hp]
 rfl
theorem works_rows {rd : RD} {st s : RS} {r : Option Int} {w k : Str} {d : Int} (h : worksF rd st r w d k = some s) : s.rows = st.rows := by
 unfold worksF at h
 split at h
 ·cases h; rfl
 ·split at h
  ·cases h
  ·split at h
   ·cases h; rfl
   ·split at h
    ·split at h
     ·cases h
     ·cases h; rfl
    ·split at h
     ·split at h
      ·cases h
      ·cases h; rfl
     ·split at h
      ·cases h; rfl
      ·cases h
noncomputable abbrev az : Str := Str.ofString "abcdefghijklmnopqrstuvwxyz"
theorem az_len : az.length = 26 := by decide +kernel
theorem az_at : ∀ i : Nat, i < 26 → az.cps.toList[i]? = some (97 + i) := by decide +kernel
theorem az_ix {x : Int} : atI az.cps.toList (x % 26) = some (97 + (x % 26).toNat) := by
 obtain ⟨j, hj⟩ : ∃ j : Nat, x % 26 = (j : Int) := ⟨(x % 26).toNat, by omega⟩
 rw [hj, Int.toNat_natCast]
 exact atI_nat (az_at j (by omega))
noncomputable def wsz (c : Int) : Int := 1 + c % 8
noncomputable def wfar (c k : Int) : Int := if c / 64 % 2 = 0 then wsz c else 1 + k % wsz c
noncomputable def wmin (c k : Int) : Int := if wfar c k - 1 < c / 8 % wsz c then wfar c k - 1 else c / 8 % wsz c
noncomputable def won (c k j : Int) : Int := if j = wmin c k then c / 64 + 7 * j * j + k else c / 64 + 7 * j * j
noncomputable def wl (c k : Int) (n : Nat) : List Nat := (List.range n).map fun (j : Nat) => 97 + (won c k (j : Int) % 26).toNat
noncomputable def wdS (c : Int) (k : Nat) : Str := ⟨(wl c (k : Int) (wfar c (k : Int)).toNat).toArray⟩
theorem wsz_in (c : Int) : 1 ≤ wsz c ∧ wsz c ≤ 8 := by unfold wsz; omega
theorem wfar_in (c k : Int) : 1 ≤ wfar c k ∧ wfar c k ≤ 8 := by
 have := wsz_in c
 unfold wfar
 split
 ·exact this
 ·have := Int.emod_nonneg k (show wsz c ≠ 0 by omega)
  have := Int.emod_lt_of_pos k (show 0 < wsz c by omega)
  omega
theorem wmin_in (c k : Int) : 0 ≤ wmin c k ∧ wmin c k < wfar c k := by
 have h := wsz_in c
 have := wfar_in c k
 have := Int.emod_nonneg (c / 8) (show wsz c ≠ 0 by omega)
 unfold wmin
 split <;> omega
theorem wl_succ (c k : Int) (n : Nat) : wl c k (n + 1) = wl c k n ++ [97 + (won c k (n : Int) % 26).toNat] := by
 unfold wl
 rw [List.range_succ, List.map_append]
 rfl
theorem str_ext2 {x y : Str} (h : x.cps.toList = y.cps.toList) : x = y := by
 obtain ⟨⟨x⟩⟩ := x
 obtain ⟨⟨y⟩⟩ := y
 have h : x = y := h
 rw [h]
theorem str_snoc (l : List Nat) (x : Nat) : (⟨l.toArray⟩ : Str) ++ (⟨#[x]⟩ : Str) = ⟨(l ++ [x]).toArray⟩ := by
 refine str_ext2 ?_
 rw [Str.cps_append, Array.toList_append]
theorem wd_inj {c : Int} {k k' : Nat} (hk : k < 26) (hk' : k' < 26) (e : wdS c k = wdS c k') : k = k' := by
 have e1 : wl c (k : Int) (wfar c (k : Int)).toNat = wl c (k' : Int) (wfar c (k' : Int)).toNat := by
  have := congrArg (fun s : Str => s.cps.toList) e
  simpa [wdS] using this
 have el := congrArg List.length e1
 unfold wl at el
 rw [List.length_map, List.length_map, List.length_range, List.length_range] at el
 have f1 := wfar_in c (k : Int)
 have f2 := wfar_in c (k' : Int)
 have ef : wfar c (k : Int) = wfar c (k' : Int) := by omega
 have em : wmin c (k : Int) = wmin c (k' : Int) := by unfold wmin; rw [ef]
 have m1 := wmin_in c (k : Int)
 obtain ⟨m, hm⟩ : ∃ m : Nat, wmin c (k : Int) = (m : Int) := ⟨(wmin c (k : Int)).toNat, by omega⟩
 have g : ∀ q : Nat, wmin c (q : Int) = (m : Int) → m < (wfar c (q : Int)).toNat → (wl c (q : Int) (wfar c (q : Int)).toNat)[m]? = some (97 + ((c / 64 + 7 * (m : Int) * (m : Int) + (q : Int)) % 26).toNat) := fun q h1 h2 => by
  unfold wl
  rw [List.getElem?_map, List.getElem?_range h2]
  show some (97 + (won c (q : Int) (m : Int) % 26).toNat) = _
  unfold won
  rw [if_pos h1.symm]
 have a := g k hm (by omega)
 have b := g k' (em ▸ hm) (by omega)
 rw [e1, b] at a
 have a := Option.some.inj a
 generalize c / 64 + 7 * (m : Int) * (m : Int) = z at a
 omega
noncomputable def wds (c : Int) (m : Nat) : List Str := (List.range m).map (wdS c)
theorem wds_at {c : Int} {m k : Nat} (h : k < m) : (wds c m)[k]? = some (wdS c k) := by unfold wds; rw [List.getElem?_map, List.getElem?_range h]; rfl
theorem wds_len (c : Int) (m : Nat) : (wds c m).length = m := by unfold wds; rw [List.length_map, List.length_range]
theorem wds_succ (c : Int) (m : Nat) : wds c (m + 1) = wds c m ++ [wdS c m] := by unfold wds; rw [List.range_succ, List.map_append]; rfl
noncomputable def spWords : Sp := fun vs H Q _ => ∃ (c : Int) (m : Nat), vs = [.int c, .int (m : Int)] ∧ m ≤ 26 ∧ ∀ (q : Addr) (H' : Hp), H q = none → Same H H' → H' q = some (.lst ((wds c m).map V.str)) → Q (.ref q) H'
theorem far_at (c k : Int) : atI [V.int (wsz c), V.int (1 + k % wsz c)] (c / 64 % 2) = some (V.int (wfar c k)) := by
 unfold wfar
 rcases (by omega : c / 64 % 2 = 0 ∨ c / 64 % 2 = 1) with e | e
 ·rw [e, if_pos rfl]; rfl
 ·rw [e, if_neg (by decide)]; rfl
noncomputable def sclV : V → Bool
 | .non => true
 | .str _ => true
 | .int _ => true
 | _ => false
noncomputable def Alk : Nat → Hp → V → V → Prop
 | 0, _, v, u => v = u ∧ sclV v = true
 | n + 1, H, v, u => (v = u ∧ sclV v = true) ∨ ∃ (p q : Addr) (xs ys : List V), v = .ref p ∧ u = .ref q ∧ ((H p = some (.lst xs) ∧ H q = some (.lst ys)) ∨ (H p = some (.tup xs) ∧ H q = some (.tup ys))) ∧ xs.length = ys.length ∧ xs.length ≤ 1000 ∧ ∀ (i : Nat) (x y : V), xs[i]? = some x → ys[i]? = some y → Alk n H x y
theorem Alk.same {H H' : Hp} (z : Same H H') : ∀ {n : Nat} {v u : V}, Alk n H v u → Alk n H' v u
 | 0, _, _, h => h
 | n + 1, _, _, h => by
  rcases h with h | ⟨p, q, xs, ys, h1, h2, h3, h4, h5, h6⟩
  ·exact .inl h
  ·exact .inr ⟨p, q, xs, ys, h1, h2, h3.imp (fun a => ⟨z _ _ a.1, z _ _ a.2⟩) (fun a => ⟨z _ _ a.1, z _ _ a.2⟩), h4, h5, fun i x y a b => (h6 i x y a b).same z⟩
theorem alk_sc {H : Hp} {v : V} (h : sclV v = true) : ∀ {n : Nat}, Alk n H v v
 | 0 => ⟨rfl, h⟩
 | _ + 1 => .inl ⟨rfl, h⟩
theorem alk_tup {H : Hp} {p q : Addr} {xs : List V} {n : Nat} (hp : H p = some (.tup xs)) (hq : H q = some (.tup xs)) (hl : xs.length ≤ 1000) (h : xs.all sclV = true) : Alk (n + 1) H (.ref p) (.ref q) :=
 .inr ⟨p, q, xs, xs, rfl, rfl, .inr ⟨hp, hq⟩, rfl, hl, fun i x y a b => by
  rw [a] at b
  cases b
  exact alk_sc (List.all_eq_true.mp h x (List.mem_of_getElem? a))⟩
theorem alk_lst {H : Hp} {p q : Addr} {us ws : List V} {ts : List (List V)} {n : Nat} (hp : H p = some (.lst us)) (hq : H q = some (.lst ws)) (tu : Tups H us ts) (tw : Tups H ws ts) (hl : ts.length ≤ 1000) (hs : ∀ t ∈ ts, t.length ≤ 1000 ∧ t.all sclV = true) : Alk (n + 2) H (.ref p) (.ref q) :=
 .inr ⟨p, q, us, ws, rfl, rfl, .inl ⟨hp, hq⟩, by rw [tu.length, tw.length], by rw [tu.length]; exact hl, fun i x y a b => by
  obtain ⟨c, t, rfl, g1, g2⟩ := tu.get' a
  obtain ⟨c', t', rfl, g3, g4⟩ := tw.get' b
  rw [g1] at g3
  cases g3
  have z := hs t (List.mem_of_getElem? g1)
  exact alk_tup g2 g4 z.1 z.2⟩
theorem oV_scl (o : Option Int) : sclV (oV o) = true := by cases o <;> rfl
theorem encQ_scl (ps : List Pz) : ∀ t ∈ ps.map encQ, t.length ≤ 1000 ∧ t.all sclV = true := fun t ht => by
 obtain ⟨p, _, rfl⟩ := List.mem_map.mp ht
 refine ⟨(show 2 ≤ 1000 by decide), ?_⟩
 show (sclV (V.int p.1) && (sclV (oV p.2) && true)) = true
 rw [oV_scl]; rfl
theorem encR_scl (ps : List R3) : ∀ t ∈ ps.map encR, t.length ≤ 1000 ∧ t.all sclV = true := fun t ht => by
 obtain ⟨p, _, rfl⟩ := List.mem_map.mp ht
 exact ⟨(show 3 ≤ 1000 by decide), rfl⟩
theorem alk_acc {H : Hp} {q p4 p6 q' p4' p6' : Addr} {n : Str} {st : RS} {r : Option Int} (h : AccAt H q p4 p6 n st r) (h' : AccAt H q' p4' p6' n st r) (l1 : st.ps.length ≤ 1000) (l2 : st.rows.length ≤ 1000) : Alk 3 H (.ref q) (.ref q') := by
 obtain ⟨a1, ⟨u4, a2, a3⟩, ⟨u6, a4, a5⟩⟩ := h
 obtain ⟨b1, ⟨w4, b2, b3⟩, ⟨w6, b4, b5⟩⟩ := h'
 have x4 : Alk 2 H (.ref p4) (.ref p4') := alk_lst a2 b2 a3 b3 (by rw [List.length_map]; exact l1) (encQ_scl _)
 have x6 : Alk 2 H (.ref p6) (.ref p6') := alk_lst a4 b4 a5 b5 (by rw [List.length_map]; exact l2) (encR_scl _)
 refine .inr ⟨q, q', _, _, rfl, rfl, .inr ⟨a1, b1⟩, rfl, (show 7 ≤ 1000 by decide), fun i x y a b => ?_⟩
 match i, a, b with
 | 0, a, b => cases a; cases b; exact alk_sc rfl
 | 1, a, b => cases a; cases b; exact alk_sc rfl
 | 2, a, b => cases a; cases b; exact alk_sc rfl
 | 3, a, b => cases a; cases b; exact alk_sc rfl
 | 4, a, b => cases a; cases b; exact x4
 | 5, a, b => cases a; cases b; exact alk_sc (oV_scl r)
 | 6, a, b => cases a; cases b; exact x6
 | n + 7, a, b => simp at a
noncomputable def spAl (n : Nat) : Sp := fun vs H Q _ => ∃ (v u : V), vs = [v, u] ∧ Alk n H v u ∧ ∀ H', Same H H' → Q (.bl true) H'
section
variable {K : PySem.W.Frag}
theorem kit_lst_tup : PySem.W.kitOne K (.type "list") (.type "tuple") = some false := by kernel_rfl
theorem kit_tup_lst : PySem.W.kitOne K (.type "tuple") (.type "list") = some false := by kernel_rfl
theorem kitA_int : PySem.W.kitAny K (.type "int") (["list", "tuple"].map Value.type) = some false := by kernel_rfl
theorem kitA_lst : PySem.W.kitAny K (.type "list") (["list", "tuple"].map Value.type) = some true := by kernel_rfl
theorem kitA_tup : PySem.W.kitAny K (.type "tuple") (["list", "tuple"].map Value.type) = some true := by kernel_rfl
end
theorem scl_cases {v : V} (h : sclV v = true) : v = .non ∨ (∃ x, v = .str x) ∨ ∃ i, v = .int i := by
 cases v with
 | non => exact .inl rfl
 | str x => exact .inr (.inl ⟨x, rfl⟩)
 | int i => exact .inr (.inr ⟨i, rfl⟩)
 | _ => cases h
noncomputable def uix (c : Int) : Three := if c % 3 = 0 then .a else if c % 3 = 1 then .b else .c
theorem uix_at (c : Int) : atI [V.str (Str.ofString "days"), V.str (Str.ofString "weeks"), V.str (Str.ofString "court")] (c % 3) = some (V.str (unit3 (uix c))) := by
 unfold uix
 rcases (by omega : c % 3 = 0 ∨ c % 3 = 1 ∨ c % 3 = 2) with e | e | e <;> rw [e] <;> rfl
theorem usz_at (c : Int) : ∃ w : Int, atI [V.int 1, V.int 7, V.int 1] (c % 3) = some (V.int w) ∧ (0 ≤ w ∧ w ≤ 7) ∧ ∀ u, w * u = need (uix c) u := by
 unfold uix
 rcases (by omega : c % 3 = 0 ∨ c % 3 = 1 ∨ c % 3 = 2) with e | e | e <;> rw [e]
 ·exact ⟨1, rfl, by decide, fun u => by show 1 * u = u; omega⟩
 ·exact ⟨7, rfl, by decide, fun u => rfl⟩
 ·exact ⟨1, rfl, by decide, fun u => by show 1 * u = u; omega⟩
theorem made_keep2 {H : Hp} {x dx : Addr} {o u : HO} (nx : H x = none) (nd : H dx = none) : Same H (upd (upd H dx u) x o) := fun b v e => by rw [qr (ne_of_none e nx), qr (ne_of_none e nd)]; exact e
theorem okW0 : OkW [] := ⟨Nat.zero_le _, List.nodup_nil, fun _ h => absurd h List.not_mem_nil⟩
theorem pok0 : PartsOk [] [] [] := ⟨okW0, okY0, Nat.zero_le _, okR0⟩
noncomputable abbrev bs0 : List Bool := fdL [] []
noncomputable abbrev rs0 : List Rw := ov []
theorem tfr0 {n : Int} (h : 0 ≤ n) : tfr bs0 rs0 n = false := by rw [tfr_lfr okR0 h]; rfl
theorem kf0 {n : Int} (h : 0 ≤ n) : ∀ i : Three, kf bs0 rs0 i n = false
 | .a => rfl
 | .b => rfl
 | .c => tfr0 h
theorem need1 {u : Int} (h : 1 ≤ u) (i : Three) : 1 ≤ need i u := sel3_pos h i
section
variable {c1 c3 c4 c5 : Int}
noncomputable def tm (c : Int) : Int := 1 + c / 20 % 3
noncomputable def ad (c : Int) : Int := 1 + c % 20
end
theorem gv_put {gr : List (Key × V)} {k j : Str} {n : Int} : gv (putK gr (.inr k) (.int n)) j = if j = k then n else gv gr j := by
 unfold gv
 rw [valV_put]
 by_cases c : j = k
 ·rw [if_pos c, if_pos (by rw [c])]
 ·rw [if_neg c, if_neg (fun z => c (Sum.inr.inj z))]
theorem tups_keep {H H' : Hp} {us : List V} {ts : List (List V)} (t : Tups H us ts) (k : ∀ b t, H b = some (.tup t) → H' b = some (.tup t)) : Tups H' us ts := by
 induction t with
 | nil => exact .nil
 | cons e _ ih => exact .cons (k _ _ e) ih
noncomputable def But2 (p q : Addr) (H H' : Hp) : Prop := ∀ b o, b ≠ p → b ≠ q → H b = some o → H' b = some o
theorem RunX.but2 {a : Adr} {B H H' : Hp} {x dx rl cn pr pp pg p q : Addr} {ur up : List V} {rd : RD} {st : RS} {bs : List Bool} {rs : List Rw} {l1 l2 : List V} (h : RunX a B H x dx rl cn pr pp pg ur up rd st bs rs) (k : But2 p q H H') (hp : H p = some (.lst l1)) (hq : H q = some (.lst l2)) (np : p ∉ [x, pr, pp, pg]) (nq : q ∉ [x, pr, pp, pg]) (bp : B p = none) (bq : B q = none) : RunX a B H' x dx rl cn pr pp pg ur up rd st bs rs := by
 have kk : ∀ b o, b ∈ [x, pr, pp, pg] → H b = some o → H' b = some o := fun b o hb e => k b o (fun z => np (z ▸ hb)) (fun z => nq (z ▸ hb)) e
 have kt : ∀ b t, H b = some (.tup t) → H' b = some (.tup t) := fun b t e => k b _ (fun z => by rw [z, hp] at e; cases e) (fun z => by rw [z, hq] at e; cases e) e
 exact ⟨h.ne, kk _ _ (by simp) h.hx, kk _ _ (by simp) h.hr, tups_keep h.tr kt, kk _ _ (by simp) h.hp, tups_keep h.tp kt, kk _ _ (by simp) h.hg, h.rl, h.kd, fun b o e => k b o (ne_of_none e bp) (ne_of_none e bq) (h.sm b o e), h.bx, h.br, h.bp, h.bg⟩
theorem own_tup {a : Adr} {B H H' : Hp} {x dx rl cn pr pp pg : Addr} {ur up : List V} {rd : RD} {st : RS} {bs : List Bool} {rs : List Rw} (R : RunX a B H x dx rl cn pr pp pg ur up rd st bs rs) (z : Same H H') {b : Addr} {t : List V} (e : H' b = some (.tup t)) : b ∉ [x, pr, pp, pg] := fun hb => by
 rcases List.mem_cons.mp hb with q | hb
 ·rw [q, z _ _ R.hx] at e; cases e
 ·rcases List.mem_cons.mp hb with q | hb
  ·rw [q, z _ _ R.hr] at e; cases e
  ·rcases List.mem_cons.mp hb with q | hb
   ·rw [q, z _ _ R.hp] at e; cases e
   ·rw [List.mem_singleton.mp hb, z _ _ R.hg] at e; cases e
theorem StOk.mono {st : RS} {c d : Int} (h : StOk st c) (cd : c ≤ d) : StOk st d := ⟨h.ps, h.d0, h.u1, h.pl, h.rl, h.gl, h.gi, fun p hp e he => by have := h.cu p hp e he; omega, h.r0⟩
theorem stok_lo {st : RS} {c d u n : Int} {k nm : Str} (h : StOk st c) (cd : c ≤ d) (u0 : 0 ≤ u) (hl : st.rows.length < 400) : StOk { st with units := st.units + u, gr := putK st.gr (.inr k) (.int n), rows := st.rows ++ [(nm, d, Str.ofString "longer")] } d := by
 have h1 := h.pl
 have h2 := h.gl
 have h3 := length_putK st.gr (.inr k) (V.int n)
 have hr : (st.rows ++ [(nm, d, Str.ofString "longer")]).length = st.rows.length + 1 := by rw [List.length_append]; rfl
 refine ⟨h.ps, h.d0, by have := h.u1; show 1 ≤ st.units + u; omega, by show st.ps.length ≤ (st.rows ++ _).length; omega, by show (st.rows ++ _).length ≤ 400; omega, by show (putK st.gr (.inr k) (V.int n)).length ≤ (st.rows ++ _).length; omega, fun k' v hv => ?_, fun p hp e he => by have := h.cu p hp e he; omega, fun z => by cases (List.append_eq_nil_iff.mp z).2⟩
 have hv : valV (putK st.gr (.inr k) (.int n)) k' = some v := hv
 rw [valV_put] at hv
 split at hv
 ·cases hv; exact ⟨n, rfl⟩
 ·exact h.gi k' v hv
theorem pick2 (k : Int) (x y : Int) (hx : 0 < x) (hy : 0 < y) : ∃ m : Int, atI [V.int x, V.int y] (k % 2) = some (V.int m) ∧ 0 < m := by
 rcases (by omega : k % 2 = 0 ∨ k % 2 = 1) with e | e <;> rw [e]
 ·exact ⟨x, rfl, hx⟩
 ·exact ⟨y, rfl, hy⟩
noncomputable def Near (g : Int → Bool) : Prop := ∀ n, 0 ≤ n → ∃ e, n ≤ e ∧ e ≤ n + 2000 ∧ g e = false
noncomputable def Ends (ps : List Pz) (E : Int) : Prop := ∀ p ∈ ps, ∀ e, p.2 = some e → e ≤ E
theorem not_still {ps : List Pz} {E d : Int} (hE : Ends ps E) (h : E < d) (hn : ∀ F, (F, none) ∈ ps → d < F) : stl ps d = false := stl_no fun p hp => by
 obtain ⟨F, o⟩ := p
 cases o with
 | none => rw [inP_none]; exact decide_eq_false (by have := hn F hp; omega)
 | some e => rw [inP_some, decide_eq_false (show ¬ d ≤ e by have := hE _ hp e rfl; omega), Bool.and_false]
theorem ends_ex : ∀ (ps : List Pz) (s : Int), ∃ E, s ≤ E ∧ Ends ps E
 | [], s => ⟨s, Int.le_refl _, fun _ h => absurd h List.not_mem_nil⟩
 | (F, o) :: ps, s => by
  obtain ⟨E, h1, h2⟩ := ends_ex ps s
  cases o with
  | none =>
   refine ⟨E, h1, fun p hp e he => ?_⟩
   rcases List.mem_cons.mp hp with z | z
   ·rw [z] at he; cases he
   ·exact h2 p z e he
  | some x =>
   refine ⟨if E < x then x else E, by split <;> omega, fun p hp e he => ?_⟩
   rcases List.mem_cons.mp hp with z | z
   ·rw [z] at he; cases he; split <;> omega
   ·have := h2 p z e he; split <;> omega
theorem cn_grow {g : Int → Bool} {ps : List Pz} {E B : Int} (nr : Near g) (E0 : 0 ≤ E) (hs : ∀ e, E < e → e < B → stl ps e = false) : ∀ k : Nat, E + 1 + 2001 * (k : Int) ≤ B → ∃ d, E < d ∧ d ≤ E + 1 + 2001 * (k : Int) ∧ cn (gst g ps) (E + 1) + (k : Int) ≤ cn (gst g ps) d
 | 0, _ => ⟨E + 1, by omega, by omega, by omega⟩
 | k + 1, h => by
  obtain ⟨d, h1, h2, h3⟩ := cn_grow nr E0 hs k (by omega)
  obtain ⟨e, e1, e2, e3⟩ := nr d (by omega)
  have C := cn_cnt (gst g ps)
  have st := C.st e (by omega)
  have hg : gst g ps e = false := by unfold gst; rw [e3, hs e (by omega) (by omega)]; rfl
  rw [hg, if_neg (by decide)] at st
  have := C.le (n := d) (m := e) (by omega) e1
  exact ⟨e + 1, by omega, by omega, by omega⟩
theorem cn_ivt {G : Int → Bool} {s m : Int} (s0 : 0 ≤ s) (m1 : 1 ≤ m) : ∀ k : Nat, cn G (s + 1) + m ≤ cn G (s + 1 + (k : Int)) → ∃ d, s < d ∧ G d = false ∧ cn G d = cn G (s + 1) + m - 1
 | 0, h => by rw [Int.natCast_zero, Int.add_zero] at h; omega
 | k + 1, h => by
  by_cases z : cn G (s + 1) + m ≤ cn G (s + 1 + (k : Int))
  ·exact cn_ivt s0 m1 k z
  ·have st := (cn_cnt G).st (s + 1 + (k : Int)) (by omega)
   rw [show s + 1 + ((k + 1 : Nat) : Int) = s + 1 + (k : Int) + 1 by omega, st] at h
   cases e : G (s + 1 + (k : Int)) with
   | true => rw [e, if_pos rfl] at h; omega
   | false => rw [e, if_neg (by decide)] at h; exact ⟨_, by omega, e, by omega⟩
theorem full_ex {g : Int → Bool} {ps : List Pz} {s m : Int} (nr : Near g) (s0 : 0 ≤ s) (m1 : 1 ≤ m) : ∃ r, Full g ps s m r := by
 by_cases h : ∃ d, s < d ∧ cn (gst g ps) (s + 1) + m ≤ cn (gst g ps) d
 ·obtain ⟨d, h1, h2⟩ := h
  obtain ⟨e, e1, e2, e3⟩ := cn_ivt s0 m1 (d - s - 1).toNat (by rw [show s + 1 + ((d - s - 1).toNat : Int) = d by omega]; exact h2)
  exact ⟨some e, e1, e2, e3⟩
 ·have no : ∀ d, s < d → cn (gst g ps) d < cn (gst g ps) (s + 1) + m := fun d hd => Int.not_le.mp fun z => h ⟨d, hd, z⟩
  refine ⟨none, ?_, no⟩
  by_cases hF : ∃ F, (F, none) ∈ ps
  ·exact hF
  ·exfalso
   obtain ⟨E, E1, E2⟩ := ends_ex ps s
   obtain ⟨d, d1, d2, d3⟩ := cn_grow (B := E + 1 + 2001 * (m.toNat : Int)) nr (by omega) (fun e h1 _ => not_still E2 h1 fun F hm => absurd ⟨F, hm⟩ hF) m.toNat (Int.le_refl _)
   have := no d (by omega)
   have := (cn_cnt (gst g ps)).le (n := s + 1) (m := E + 1) (by omega) (by omega)
   omega
theorem near_tab {wk : List Int} {yr : List S2} {rs : List Rw} (h : PartsOk wk yr rs) : Near (tfr (fdL wk yr) (ov rs)) := fun n n0 => by
 obtain ⟨e, e1, e2, e3⟩ := near_open h.w h.y h.l h.r n0
 exact ⟨e, e1, e2, (tfr_lfr h.r (by omega)).trans e3⟩
theorem near_kf {wk : List Int} {yr : List S2} {rs : List Rw} (h : PartsOk wk yr rs) : ∀ i : Three, Near (kf (fdL wk yr) (ov rs) i)
 | .a => fun n _ => ⟨n, Int.le_refl _, by omega, rfl⟩
 | .b => fun n _ => ⟨n, Int.le_refl _, by omega, rfl⟩
 | .c => near_tab h
noncomputable def wy : Three → Int := sel3 1 0 2
theorem psok_fin {ps : List Pz} (ok : PsOk ps) (h : haltedB ps = false) : Fnt ps := by
 rcases List.eq_nil_or_concat ps with e | ⟨qs, p, e⟩
 ·rw [e]; exact fun _ h => absurd h List.not_mem_nil
 ·rw [List.concat_eq_append] at e
  subst e
  obtain ⟨F, o⟩ := p
  obtain ⟨_, _, h3⟩ := List.pairwise_append.mp ok.srt
  intro q hq
  rcases List.mem_append.mp hq with z | z
  ·obtain ⟨e, he, _⟩ := h3 q z (F, o) (List.mem_singleton.mpr rfl); exact ⟨e, he⟩
  ·rw [List.mem_singleton.mp z]
   cases o with
   | none => rw [hal_snoc] at h; cases h
   | some x => exact ⟨x, rfl⟩
theorem psok_pre {qs : List Pz} {p : Pz} (ok : PsOk (qs ++ [p])) : PsOk qs := ⟨(List.pairwise_append.mp ok.srt).1, fun q hq => ok.ok q (List.mem_append.mpr (.inl hq))⟩
theorem psok_go {ps : List Pz} {d : Int} (ok : PsOk ps) : PsOk (goPs ps d) := by
 cases eh : haltedB ps with
 | false => rw [go_same eh]; exact ok
 | true =>
  obtain ⟨qs, F, rfl⟩ := hal_ex eh
  rw [go_snoc]
  by_cases c : F < d
  ·rw [if_pos c]
   obtain ⟨h1, _, h3⟩ := List.pairwise_append.mp ok.srt
   have l := ok.ok (F, none) (List.mem_append.mpr (.inr (List.mem_singleton.mpr rfl)))
   refine ⟨List.pairwise_append.mpr ⟨h1, List.pairwise_singleton _ _, fun p hp q hq => ?_⟩, fun p hp => ?_⟩
   ·rw [List.mem_singleton.mp hq]; exact h3 p hp (F, none) (List.mem_singleton.mpr rfl)
   ·rcases List.mem_append.mp hp with z | z
    ·exact ok.ok p (List.mem_append.mpr (.inl z))
    ·rw [List.mem_singleton.mp z]
     exact ⟨l.1, fun e he => by cases he; show F ≤ d - 1; omega⟩
  ·rw [if_neg c, List.append_nil]; exact psok_pre ok
theorem psok_op {ps : List Pz} {d : Int} (ok : PsOk ps) (h : haltedB ps = false) (cu : ∀ p ∈ ps, ∀ e, p.2 = some e → e < d) (d0 : 0 ≤ d) : PsOk (ps ++ [(d, none)]) := by
 have fn := psok_fin ok h
 refine ⟨List.pairwise_append.mpr ⟨ok.srt, List.pairwise_singleton _ _, fun p hp q hq => ?_⟩, fun p hp => ?_⟩
 ·rw [List.mem_singleton.mp hq]
  obtain ⟨e, he⟩ := fn p hp
  exact ⟨e, he, cu p hp e he⟩
 ·rcases List.mem_append.mp hp with z | z
  ·exact ok.ok p z
  ·rw [List.mem_singleton.mp z]; exact ⟨d0, fun e he => nomatch he⟩
theorem gst_kf {i : Three} {ps : List Pz} {d : Int} (h : 0 ≤ d) : gst (kf bs0 rs0 i) ps d = stl ps d := by unfold gst; rw [kf0 h i, Bool.false_or]
theorem gst_tf {ps : List Pz} {d : Int} (h : 0 ≤ d) : gst (tfr bs0 rs0) ps d = stl ps d := by unfold gst; rw [tfr0 h, Bool.false_or]
theorem lst_full {i : Three} {ps : List Pz} {s m f : Int} (s0 : 0 ≤ s) (F : Full (kf bs0 rs0 i) ps s m (some f)) : Lst (kf bs0 rs0 i) (tfr bs0 rs0) ps s m (some f) := by
 have f1 := F.1
 have f2 := F.2.1
 rw [gst_kf (by omega)] at f2
 exact .inr ⟨f, F, Int.le_refl _, by rw [gst_tf (by omega)]; exact f2, fun e h1 h2 => by omega⟩
noncomputable def LsX (rd : RD) (st : RS) (r : Option Int) : Prop := LsR bs0 rs0 rd st r ∧ (haltedB st.ps = true → r = none) ∧ (haltedB st.ps = false → ∃ f, r = some f ∧ Full (kf bs0 rs0 rd.unit) st.ps st.day (need rd.unit st.units) (some f))
theorem lsx_ex {rd : RD} {st : RS} {c : Int} (ok : StOk st c) (h : haltedB st.ps = true → LsR bs0 rs0 rd st none) : ∃ r, LsX rd st r := by
 cases e : haltedB st.ps with
 | true => exact ⟨none, h e, fun _ => rfl, fun z => by rw [e] at z; cases z⟩
 | false =>
  obtain ⟨r, hr⟩ := full_ex (ps := st.ps) (near_kf pok0 rd.unit) ok.d0 (need1 ok.u1 rd.unit)
  obtain ⟨f, rfl⟩ := full_some (psok_fin ok.ps e) hr
  exact ⟨some f, lst_full ok.d0 hr, (fun z => by rw [e] at z; cases z), fun _ => ⟨f, rfl, hr⟩⟩
theorem stl_app {ps : List Pz} {d y : Int} (h : y < d) : stl (ps ++ [(d, none)]) y = stl ps y := by
 unfold stl
 rw [List.any_append]
 show (_ || (inP (d, none) y || false)) = _
 rw [inP_none, decide_eq_false (by omega), Bool.or_false, Bool.or_false]
theorem open_full {i : Three} {ps : List Pz} {s m f d : Int} (s0 : 0 ≤ s) (F : Full (kf bs0 rs0 i) ps s m (some f)) (sd : s < d) (df : d ≤ f) : Full (kf bs0 rs0 i) (ps ++ [(d, none)]) s m none := by
 have hm : (d, none) ∈ ps ++ [(d, none)] := List.mem_append.mpr (.inr (List.mem_singleton.mpr rfl))
 have C := cn_cnt (gst (kf bs0 rs0 i) (ps ++ [(d, none)]))
 have C0 := cn_cnt (gst (kf bs0 rs0 i) ps)
 have e : ∀ x, s + 1 ≤ x → x ≤ d → cn (gst (kf bs0 rs0 i) (ps ++ [(d, none)])) x - cn (gst (kf bs0 rs0 i) (ps ++ [(d, none)])) (s + 1) = cn (gst (kf bs0 rs0 i) ps) x - cn (gst (kf bs0 rs0 i) ps) (s + 1) := fun x h1 h2 => cntq_eq C C0 (by omega) h1 fun y y1 y2 => by rw [gst_kf (by omega), gst_kf (by omega), stl_app (by omega)]
 have hf := F.2.2
 refine ⟨⟨d, hm⟩, fun x hx => ?_⟩
 by_cases c : x ≤ d
 ·have := e x (by omega) c
  have := C0.le (n := x) (m := f) (by omega) (by omega)
  omega
 ·have := e d (by omega) (Int.le_refl _)
  have := C0.le (n := d) (m := f) (by omega) (by omega)
  have := cnt_st C (a := d) (b := x) (by omega) (by omega) fun y y1 y2 => still_from hm y1
  omega
theorem eqTs_q : ∀ {ps qs : List Pz}, eqTs (ps.map encQ) (qs.map encQ) = true → ps = qs
 | [], [], _ => rfl
 | [], _ :: _, h => by cases h
 | _ :: _, [], h => by cases h
 | (a, o) :: ps, (b, o') :: qs, h => by
  have h : (eqVs (encQ (a, o)) (encQ (b, o')) && eqTs (ps.map encQ) (qs.map encQ)) = true := h
  rw [Bool.and_eq_true] at h
  have h1 : ((a == b) && (eqV (oV o) (oV o') && true)) = true := h.1
  rw [Bool.and_true, Bool.and_eq_true, beq_iff_eq] at h1
  obtain ⟨rfl, h2⟩ := h1
  rw [eqTs_q h.2]
  cases o with
  | none =>
   cases o' with
   | none => rfl
   | some y => cases h2
  | some x =>
   cases o' with
   | none => cases h2
   | some y =>
    have h2 : (x == y) = true := h2
    rw [beq_iff_eq] at h2
    rw [h2]
theorem go_ne {ps : List Pz} {d : Int} (h : haltedB ps = true) : goPs ps d ≠ ps := fun z => by
 obtain ⟨qs, F, rfl⟩ := hal_ex h
 rw [go_snoc] at z
 have z := List.append_cancel_left z
 split at z
 ·cases z
 ·cases z
theorem hal_go {ps : List Pz} {d : Int} (ok : PsOk ps) : haltedB (goPs ps d) = false := by
 cases eh : haltedB ps with
 | false => rw [go_same eh]; exact eh
 | true =>
  obtain ⟨qs, F, rfl⟩ := hal_ex eh
  rw [go_snoc]
  by_cases c : F < d
  ·rw [if_pos c, hal_snoc]; rfl
  ·rw [if_neg c, List.append_nil]
   cases e2 : haltedB qs with
   | false => rfl
   | true =>
    obtain ⟨qs', G, rfl⟩ := hal_ex e2
    obtain ⟨_, _, h3⟩ := List.pairwise_append.mp ok.srt
    obtain ⟨e, he, _⟩ := h3 (G, none) (List.mem_append.mpr (.inr (List.mem_singleton.mpr rfl))) (F, none) (List.mem_singleton.mpr rfl)
    cases he
theorem go_len {ps : List Pz} {d : Int} : (goPs ps d).length ≤ ps.length := by
 cases eh : haltedB ps with
 | false => rw [go_same eh]; exact Nat.le_refl _
 | true =>
  obtain ⟨qs, F, rfl⟩ := hal_ex eh
  rw [go_snoc, List.length_append, List.length_append]
  split
  ·exact Nat.le_refl _
  ·simp
theorem go_cu {ps : List Pz} {c d : Int} (cd : c ≤ d) (cu : ∀ p ∈ ps, ∀ e, p.2 = some e → e < c) : ∀ p ∈ goPs ps d, ∀ e, p.2 = some e → e < d := fun p hp e he => by
 cases eh : haltedB ps with
 | false => rw [go_same eh] at hp; have := cu p hp e he; omega
 | true =>
  obtain ⟨qs, F, rfl⟩ := hal_ex eh
  rw [go_snoc] at hp
  rcases List.mem_append.mp hp with z | z
  ·have := cu p (List.mem_append.mpr (.inl z)) e he; omega
  ·split at z
   ·rw [List.mem_singleton.mp z] at he; cases he; omega
   ·cases z
theorem go_fst {ps : List Pz} {d : Int} (h : ∀ p ∈ ps, p.1 ≤ d) : ∀ p ∈ goPs ps d, p.1 ≤ d := fun p hp => by
 cases eh : haltedB ps with
 | false => rw [go_same eh] at hp; exact h p hp
 | true =>
  obtain ⟨qs, F, rfl⟩ := hal_ex eh
  rw [go_snoc] at hp
  rcases List.mem_append.mp hp with z | z
  ·exact h p (List.mem_append.mpr (.inl z))
  ·split at z
   ·rw [List.mem_singleton.mp z]; exact h (F, none) (List.mem_append.mpr (.inr (List.mem_singleton.mpr rfl)))
   ·cases z
theorem stok_ps {st : RS} {c d : Int} {ps' : List Pz} {n w : Str} {o' : Bool} (h : StOk st c) (ok' : PsOk ps') (hl : ps'.length ≤ st.ps.length + 1) (cu : ∀ p ∈ ps', ∀ e, p.2 = some e → e < d) (hr : st.rows.length < 400) : StOk { st with ps := ps', over := o', rows := st.rows ++ [(n, d, w)] } d := by
 have e : (st.rows ++ [(n, d, w)]).length = st.rows.length + 1 := by rw [List.length_append]; rfl
 have h1 := h.pl
 have h2 := h.gl
 exact ⟨ok', h.d0, h.u1, by show ps'.length ≤ (st.rows ++ _).length; omega, by show (st.rows ++ _).length ≤ 400; omega, by show st.gr.length ≤ (st.rows ++ _).length; omega, h.gi, cu, fun z => by cases (List.append_eq_nil_iff.mp z).2⟩
section
variable {c1 c3 : Int}
theorem feel_over {rd : RD} {st : RS} {r : Option Int} {n k : Str} {d : Int} (ov : st.over = true) : feelF rd st r n d k = (st, false) := by unfold feelF; rw [if_pos (.inr ov)]
end
noncomputable def stE (st : RS) (n : Str) (d : Int) : RS := { st with ps := goPs st.ps d, over := true, rows := st.rows ++ [(n, d, Str.ofString "ends")] }
theorem stE_ok {st : RS} {c d : Int} {n : Str} (ok : StOk st c) (cd : c ≤ d) (hr : st.rows.length < 400) : StOk (stE st n d) d := stok_ps ok (psok_go ok.ps) (Nat.le_succ_of_le go_len) (go_cu cd ok.cu) hr
theorem start18 {N : List Str} {v : V} (h : N.length = 18) : L2.start N [v] = [some v, none, none, none, none, none, none, none, none, none, none, none, none, none, none, none, none, none] := by unfold L2.start; rw [h]; rfl
theorem oV_none {r : Option Int} (h : oV r = V.non) : r = none := by
 cases r with
 | none => rfl
 | some x => cases h
theorem oV_some {r : Option Int} (h : ¬ oV r = V.non) : ∃ f, r = some f := by
 cases r with
 | none => exact absurd rfl h
 | some x => exact ⟨x, rfl⟩
theorem not_own {a : Adr} {B H : Hp} {x p : Addr} {S : List Addr} {rd : RD} {st : RS} {bs : List Bool} {rs : List Rw} (h : RunAt a B H x S rd st bs rs) (n : H p = none) : p ∉ S := fun hb => by
 obtain ⟨_, _, _, _, _, _, _, _, rfl, R⟩ := h
 rcases List.mem_cons.mp hb with z | hb
 ·rw [z, R.hx] at n; cases n
 ·rcases List.mem_cons.mp hb with z | hb
  ·rw [z, R.hr] at n; cases n
  ·rcases List.mem_cons.mp hb with z | hb
   ·rw [z, R.hp] at n; cases n
   ·rw [List.mem_singleton.mp hb, R.hg] at n; cases n
structure HS where
 s : Int
 u : Int
 ps : List Pz
 g : Int
noncomputable def HeldAt (H : Hp) (q pq : Addr) (h : HS) (z : Int) : Prop := H q = some (.tup [.int h.s, .int h.u, .ref pq, .int h.g, .int z]) ∧ AtQ H pq h.ps
theorem HeldAt.same {H H' : Hp} {q pq : Addr} {h : HS} {z : Int} (x : HeldAt H q pq h z) (s : Same H H') : HeldAt H' q pq h z := ⟨s _ _ x.1, x.2.same s⟩
noncomputable def hsO (st : RS) (k : Str) : HS := ⟨st.day, st.units, st.ps, gv st.gr k⟩
noncomputable def undS (s : Int) (r : Option Int) (d : Int) : Bool := decide (s < d) && (match r with | none => true | some l => decide (d ≤ l))
noncomputable def rlw (j : Nat) : Str := match j with
 | 0 => Str.ofString "due" | 1 => Str.ofString "ends" | 2 => Str.ofString "anew" | 3 => Str.ofString "longer" | 4 => Str.ofString "still" | 5 => Str.ofString "goes on" | 6 => Str.ofString "from" | _ => Str.ofString "none"
theorem rlw_inj : ∀ j < 8, ∀ i < 8, rlw j = rlw i → j = i := by decide +kernel
theorem rl_ed : ∀ j < 8, inV (.str (rlw j)) [V.str (Str.ofString "ends"), V.str (Str.ofString "due")] = decide (j < 2) := by decide +kernel
theorem rl_de : ∀ j < 8, inV (.str (rlw j)) [V.str (Str.ofString "due"), V.str (Str.ofString "ends")] = decide (j < 2) := by decide +kernel
theorem rl_ea : ∀ j < 8, inV (.str (rlw j)) [V.str (Str.ofString "ends"), V.str (Str.ofString "anew")] = decide (j = 1 ∨ j = 2) := by decide +kernel
noncomputable def tuF (mn ad tm : Int) (h : HS) (r : Option Int) (j : Nat) (d : Int) : HS :=
 if j < 2 then { h with ps := goPs h.ps d }
 else if undS h.s r d = false then h
 else if j = 2 then ⟨d, mn, [], 0⟩
 else if j = 3 ∧ h.g < tm then { h with u := h.u + ad, g := h.g + 1 }
 else if j = 4 ∧ r ≠ none then { h with ps := h.ps ++ [(d, none)] }
 else if j = 5 then { h with ps := goPs h.ps d }
 else h
structure LaP (h : HS) (z : Int) (i : Three) (r : Option Int) : Prop where
 ok : PsOk h.ps
 s0 : 0 ≤ h.s
 z7 : 0 ≤ z ∧ z ≤ 7
 m1 : 1 ≤ h.u * z
 r1 : haltedB h.ps = true → r = none
 r2 : haltedB h.ps = false → ∃ f, r = some f ∧ Full (kf bs0 rs0 i) h.ps h.s (h.u * z) (some f)
noncomputable def spLa53 : Sp := fun vs H Q _ => ∃ (q pq : Addr) (z : Int) (h : HS) (i : Three) (r : Option Int), vs = [.ref q] ∧ HeldAt H q pq h z ∧ LaP h z i r ∧ h.ps.length ≤ 1000 ∧ ∀ H', Same H H' → Q (oV r) H'
noncomputable def spSh53 : Sp := fun vs H Q _ => ∃ (p : Addr) (d : Int) (ps : List Pz), vs = [.ref p, .int d] ∧ AtQ H p ps ∧ ps.length ≤ 1000 ∧ (∀ z ∈ ps, z.1 ≤ d) ∧ ∀ (q : Addr) (H' : Hp), Same H H' → (q = p ∨ H q = none) → AtQ H' q (goPs ps d) → Q (.ref q) H'
noncomputable def spTu53 (a : Adr) : Sp := fun vs H Q _ => ∃ (q pq rl : Addr) (j : Nat) (d z : Int) (h : HS) (i : Three) (r : Option Int) (rd : RD) (k3 : Str) (ad tm : Int), vs = [.ref q, .str (rlw j), .int d, .ref rl] ∧ j < 8 ∧ HeldAt H q pq h z ∧ LaP h z i r ∧ h.ps.length ≤ 1000 ∧ (∀ z ∈ h.ps, z.1 ≤ d) ∧ RuleAt a H rl rd ∧ rd.longer = [(k3, ad, tm)] ∧
 ∀ (q' pq' : Addr) (H' : Hp), Same H H' → (pq' = pq ∨ H pq' = none) → HeldAt H' q' pq' (tuF rd.many ad tm h r j d) z → Q (.ref q') H'
noncomputable def spDu53 : Sp := fun vs H Q _ => ∃ (q pq pw : Addr) (v : V) (z g d0 : Int) (st : RS) (i : Three) (r : Option Int) (n w0 : Str) (rw : List R3), vs = [.ref q, v, .bl st.over, .ref pw] ∧ HeldAt H q pq ⟨st.day, st.units, st.ps, g⟩ z ∧ LaP ⟨st.day, st.units, st.ps, g⟩ z i r ∧ st.ps.length ≤ 1000 ∧ AtR H pw st.rows ∧ st.rows = (n, d0, w0) :: rw ∧
 ∀ (q' p4 p6 : Addr) (H' : Hp), Same H H' → H q' = none → H p4 = none → H p6 = none → AccAt H' q' p4 p6 n st r → Q (.ref q') H'
noncomputable def spTo53 (a : Adr) : Sp := fun vs H Q _ => ∃ (x q p4 p6 : Addr) (B : Hp) (S : List Addr) (rd : RD) (st : RS) (bs : List Bool) (rs : List Rw) (c d0 : Int) (r : Option Int) (n w0 : Str) (rw : List R3), vs = [.ref x, .ref q, .bl st.over] ∧ RunAt a B H x S rd st bs rs ∧ TabOk bs rs ∧ StOk st c ∧ LsR bs rs rd st r ∧ st.rows = (n, d0, w0) :: rw ∧ AccAt H q p4 p6 n st r ∧ ∀ H', Same H H' → Q (.bl true) H'
noncomputable def spRo53 : Sp := fun vs H Q _ => ∃ (c : Int), vs = [.int c] ∧ 0 ≤ c ∧ c < 24 ∧ ∀ (j : Nat) (H' : Hp), j < 8 → Same H H' → Q (.str (rlw j)) H'
noncomputable def lo53 (m : Int) (k : Str) : Str × Int × Int := (k, 1 + m % 4, 1 + m / 4 % 3)
noncomputable def rd53 (c1 c3 c4 : Int) : RD := { owes := wdS c4 0, ends := [wdS c4 1, wdS c4 8], anew := [wdS c4 2, wdS c4 9], longer := [lo53 c3 (wdS c4 3)], still := some (wdS c4 4, wdS c4 5), many := 1 + c1 / 3 % 6, unit := uix c1 }
theorem rd53_ok (c1 c3 c4 : Int) : RdOk (rd53 c1 c3 c4) := ⟨by show 1 ≤ 1 + c1 / 3 % 6; omega, (show 1 ≤ 100 by decide), (show 2 ≤ 100 by decide), (show 2 ≤ 100 by decide), fun t ht => by rw [List.mem_singleton.mp ht]; show 0 ≤ 1 + c3 % 4; omega⟩
noncomputable def spRl53 (a : Adr) (K : PySem.W.Frag) : Sp := fun vs H Q _ => ∃ (l pk pn : Addr) (ns : List Int) (c4 : Int) (nm : List Str), vs = [.ref l, .ref pk, .ref pn] ∧ SqL K H l (ns.map V.int) ∧ H pk = some (.lst ((wds c4 10).map V.str)) ∧ H pn = some (.lst (nm.map V.str)) ∧ nm.length = 26 ∧
 ∀ (q : Addr) (H' : Hp), Same H H' → H q = none → RuleAt a H' q (rd53 (cell ns 1) (cell ns 3) c4) → Q (.ref q) H'
theorem eqTs_nil1 {ts : List (List V)} (h : eqTs ts [] = true) : ts = [] := by
 cases ts with
 | nil => rfl
 | cons _ _ => cases h
theorem fit5 (x y z w v : V) : [x, y, z, w, v].length ≤ sizeLine := fits (show 5 ≤ 100000 by decide)
theorem tup1 {H : Hp} {us : List V} {t : List V} (h : Tups H us [t]) : ∃ b, us = [.ref b] ∧ H b = some (.tup t) := by
 cases h with
 | cons e r => cases r; exact ⟨_, rfl, e⟩
theorem rl_at {j : Nat} {w : Str} {i : Nat} (hj : j < 8) (hi : i < 8) (e : rlw i = w) : decide (V.str (rlw j) = V.str w) = decide (j = i) := by
 by_cases c : j = i
 ·rw [decide_eq_true c, decide_eq_true (by rw [c, e])]
 ·rw [decide_eq_false c, decide_eq_false (fun z => c (rlw_inj j hj i hi (by rw [e]; exact V.str.inj z)))]
theorem useS {p G : Str → Prop} {R : Prop} (m : (∀ F, p F → G F) → R) (l : ∀ F, p F → G F) : R := m l
noncomputable def rlx : List Str := [rlw 2, rlw 3, rlw 4, rlw 5, rlw 6, rlw 7, rlw 4, rlw 5, rlw 3, rlw 5, rlw 4]
theorem rlx_at : ∀ i < 11, ∃ j < 8, rlx[i]? = some (rlw j) := by
 intro i hi
 match i, hi with
 | 0, _ => exact ⟨2, by decide, rfl⟩
 | 1, _ => exact ⟨3, by decide, rfl⟩
 | 2, _ => exact ⟨4, by decide, rfl⟩
 | 3, _ => exact ⟨5, by decide, rfl⟩
 | 4, _ => exact ⟨6, by decide, rfl⟩
 | 5, _ => exact ⟨7, by decide, rfl⟩
 | 6, _ => exact ⟨4, by decide, rfl⟩
 | 7, _ => exact ⟨5, by decide, rfl⟩
 | 8, _ => exact ⟨3, by decide, rfl⟩
 | 9, _ => exact ⟨5, by decide, rfl⟩
 | 10, _ => exact ⟨4, by decide, rfl⟩
theorem rl2_at {c : Int} (h0 : 0 ≤ c) (h2 : c < 2) : ∃ j < 8, atI [V.str (Str.ofString "due"), V.str (Str.ofString "ends")] c = some (V.str (rlw j)) := by
 rcases (by omega : c = 0 ∨ c = 1) with rfl | rfl
 ·exact ⟨0, by decide, rfl⟩
 ·exact ⟨1, by decide, rfl⟩
noncomputable def ro (k : Nat) : Str := if k = 0 ∨ k = 1 ∨ k = 8 then Str.ofString "ends" else if k = 2 ∨ k = 9 then Str.ofString "anew" else if k = 3 then Str.ofString "longer" else if k = 4 then Str.ofString "still" else if k = 5 then Str.ofString "goes on" else Str.ofString ""
noncomputable def w2 (j : Nat) : Str := if j = 0 then Str.ofString "ends" else rlw j
noncomputable def eqH (h h' : HS) (z : Int) : Bool := ([h.s == h'.s, h.u == h'.u, eqTs (h.ps.map encQ) (h'.ps.map encQ), h.g == h'.g, z == z] : List Bool).all id
theorem eqH_self (h : HS) (z : Int) : eqH h h z = true := by
 unfold eqH
 rw [beq_self_eq_true, beq_self_eq_true, beq_self_eq_true, beq_self_eq_true, eqTs_self (encQ_flat h.ps)]
 rfl
theorem eqH_eq {h h' : HS} {z : Int} (e : eqH h h' z = true) : h = h' := by
 unfold eqH at e
 simp only [List.all_cons, List.all_nil, id, Bool.and_eq_true, beq_iff_eq] at e
 obtain ⟨e1, e2, e3, e4, _⟩ := e
 obtain ⟨s, u, ps, g⟩ := h
 obtain ⟨s', u', ps', g'⟩ := h'
 simp only at e1 e2 e3 e4
 rw [e1, e2, eqTs_q e3, e4]
theorem eqH_ne {h h' : HS} {z : Int} (e : h ≠ h') : eqH h h' z = false := by
 cases q : eqH h h' z with
 | false => rfl
 | true => exact absurd (eqH_eq q) e
section
variable {c1 c3 c4 : Int}
theorem role53 {k : Nat} (hk : k < 10) : roleOf (rd53 c1 c3 c4) (wdS c4 k) = ro k := by
 have e : ∀ i, i < 10 → (wdS c4 k = wdS c4 i ↔ k = i) := fun i hi => ⟨fun z => wd_inj (by omega) (by omega) z, fun z => by rw [z]⟩
 have c2 : ∀ i j, i < 10 → j < 10 → ([wdS c4 i, wdS c4 j].contains (wdS c4 k) = true ↔ k = i ∨ k = j) := fun i j hi hj => by
  rw [List.contains_iff_mem, List.mem_cons, List.mem_singleton, e i hi, e j hj]
 have c1' : ∀ i, i < 10 → ([wdS c4 i].contains (wdS c4 k) = true ↔ k = i) := fun i hi => by
  rw [List.contains_iff_mem, List.mem_singleton, e i hi]
 unfold roleOf ro
 show (if wdS c4 k = wdS c4 0 ∨ [wdS c4 1, wdS c4 8].contains (wdS c4 k) = true then _ else if [wdS c4 2, wdS c4 9].contains (wdS c4 k) = true then _ else if [wdS c4 3].contains (wdS c4 k) = true then _ else if wdS c4 k = wdS c4 4 then _ else if wdS c4 k = wdS c4 5 then _ else _) = _
 simp only [c2 1 8 (by decide) (by decide), c2 2 9 (by decide) (by decide), c1' 3 (by decide), e 0 (by decide), e 4 (by decide), e 5 (by decide)]
theorem feel_w {rd : RD} {st : RS} {r : Option Int} {n k w : Str} {d : Int} (hw : roleOf rd k = w) (nw : w ≠ Str.ofString "") (ov : st.over = false) : feelF rd st r n d k = match worksF rd st r w d k with | none => (st, false) | some s => ({ s with rows := s.rows ++ [(n, d, w)] }, true) := by
 unfold feelF
 rw [hw, if_neg]
 rintro (z | z)
 ·exact nw z
 ·rw [ov] at z; cases z
structure Nxt (rd : RD) (k3 : Str) (ad tm z : Int) (st : RS) (r : Option Int) (n : Str) (d : Int) (j : Nat) (st' : RS) (dn : Bool) : Prop where
 hs : hsO st' k3 = (if st.over = true then hsO st k3 else tuF rd.many ad tm (hsO st k3) r j d)
 ov : st'.over = (st.over || decide (j < 2))
 rows : st'.rows = if dn = true then st.rows ++ [(n, d, w2 j)] else st.rows
 dn : dn = (!st.over && (decide (j < 2) || !eqH (hsO st' k3) (hsO st k3) z))
 ok : StOk st' d
 fs : ∀ z ∈ st'.ps, z.1 ≤ d
 no : haltedB st'.ps = true → Full (kf bs0 rs0 rd.unit) st'.ps st'.day (need rd.unit st'.units) none
theorem need_mono {i : Three} {u v : Int} (h : u ≤ v) : need i u ≤ need i v := by
 cases i
 ·exact h
 ·show 7 * u ≤ 7 * v; omega
 ·exact h
theorem nxt53 {st : RS} {r : Option Int} {n : Str} {c d z : Int} {j kk : Nat} (j8 : j < 8) (hk : kk = j ∨ (kk = j + 7 ∧ (j = 1 ∨ j = 2))) (ok : StOk st c) (cd : c ≤ d) (rl : st.rows.length < 400) (lsx : LsX (rd53 c1 c3 c4) st r) (hfs : ∀ z ∈ st.ps, z.1 ≤ c)
  (hno : haltedB st.ps = true → Full (kf bs0 rs0 (rd53 c1 c3 c4).unit) st.ps st.day (need (rd53 c1 c3 c4).unit st.units) none) :
  ∃ st' dn, feelF (rd53 c1 c3 c4) st r n d (wdS c4 kk) = (st', dn) ∧ Nxt (rd53 c1 c3 c4) (wdS c4 3) (1 + c3 % 4) (1 + c3 / 4 % 3) z st r n d j st' dn := by
 have k10 : kk < 10 := by omega
 have fs' : ∀ z ∈ st.ps, z.1 ≤ d := fun z hz => by have := hfs z hz; omega
 cases ov : st.over with
 | true => exact ⟨st, false, feel_over ov, by rw [ov]; rfl, by rw [ov]; rfl, rfl, by rw [ov]; rfl, ok.mono cd, fs', hno⟩
 | false =>
  have er := role53 (c1 := c1) (c3 := c3) (c4 := c4) k10
  have same : feelF (rd53 c1 c3 c4) st r n d (wdS c4 kk) = (st, false) → 2 ≤ j → tuF (rd53 c1 c3 c4).many (1 + c3 % 4) (1 + c3 / 4 % 3) (hsO st (wdS c4 3)) r j d = hsO st (wdS c4 3) → ∃ st' dn, feelF (rd53 c1 c3 c4) st r n d (wdS c4 kk) = (st', dn) ∧ Nxt (rd53 c1 c3 c4) (wdS c4 3) (1 + c3 % 4) (1 + c3 / 4 % 3) z st r n d j st' dn := fun h1 h2 h3 =>
   ⟨st, false, h1, by rw [ov, if_neg (by decide), h3], by rw [ov, decide_eq_false (by omega)]; rfl, rfl, by rw [ov, decide_eq_false (by omega), eqH_self]; rfl, ok.mono cd, fs', hno⟩
  have other : ∀ {st' : RS}, feelF (rd53 c1 c3 c4) st r n d (wdS c4 kk) = ({ st' with rows := st.rows ++ [(n, d, w2 j)] }, true) → 2 ≤ j → st'.over = false → tuF (rd53 c1 c3 c4).many (1 + c3 % 4) (1 + c3 / 4 % 3) (hsO st (wdS c4 3)) r j d = hsO st' (wdS c4 3) → hsO st' (wdS c4 3) ≠ hsO st (wdS c4 3) → StOk { st' with rows := st.rows ++ [(n, d, w2 j)] } d → (∀ z ∈ st'.ps, z.1 ≤ d) → (haltedB st'.ps = true → Full (kf bs0 rs0 (rd53 c1 c3 c4).unit) st'.ps st'.day (need (rd53 c1 c3 c4).unit st'.units) none) → ∃ st' dn, feelF (rd53 c1 c3 c4) st r n d (wdS c4 kk) = (st', dn) ∧ Nxt (rd53 c1 c3 c4) (wdS c4 3) (1 + c3 % 4) (1 + c3 / 4 % 3) z st r n d j st' dn := fun {st'} h1 h2 h3 h4 h5 h6 h7 h8 =>
   ⟨_, true, h1, by rw [ov, if_neg (by decide), h4]; rfl, by rw [ov, decide_eq_false (by omega)]; exact h3, rfl, by rw [ov, decide_eq_false (by omega), show hsO { st' with rows := st.rows ++ [(n, d, w2 j)] } (wdS c4 3) = hsO st' (wdS c4 3) from rfl, eqH_ne h5]; rfl, h6, h7, h8⟩
  have uu : under st r d = undS (hsO st (wdS c4 3)).s r d := rfl
  by_cases jl : j < 2
  ·have e1 : ro kk = Str.ofString "ends" := by unfold ro; rw [if_pos (by omega)]
   have e2 : w2 j = Str.ofString "ends" := by
    rcases (by omega : j = 0 ∨ j = 1) with rfl | rfl <;> rfl
   have ef : feelF (rd53 c1 c3 c4) st r n d (wdS c4 kk) = (stE st n d, true) := by
    rw [feel_w (er.trans e1) (by decide +kernel) ov]
    unfold worksF
    rw [if_pos rfl]
    rfl
   exact ⟨_, _, ef, by rw [ov, if_neg (by decide)]; unfold tuF; rw [if_pos jl]; rfl, by rw [ov, decide_eq_true jl]; rfl, by rw [if_pos rfl, e2]; rfl, by rw [ov, decide_eq_true jl]; rfl, stE_ok ok cd rl, go_fst fs', fun q => by rw [show (stE st n d).ps = goPs st.ps d from rfl, hal_go ok.ps] at q; cases q⟩
  ·have j2 : 2 ≤ j := by omega
   by_cases j6 : 5 < j
   ·have e1 : ro kk = Str.ofString "" := by unfold ro; rw [if_neg (by omega), if_neg (by omega), if_neg (by omega), if_neg (by omega), if_neg (by omega)]
    refine same (by unfold feelF; rw [if_pos (.inl (er.trans e1))]) j2 ?_
    unfold tuF
    rw [if_neg jl, if_neg (show ¬ j = 2 by omega), if_neg (show ¬ (j = 3 ∧ _) by omega), if_neg (show ¬ (j = 4 ∧ _) by omega), if_neg (show ¬ j = 5 by omega)]
    split <;> rfl
   ·have nw : ro kk ≠ Str.ofString "" ∧ ro kk = w2 j ∧ ro kk ≠ Str.ofString "ends" := by
     rcases hk with rfl | ⟨rfl, rfl | rfl⟩
     ·rcases (by omega : kk = 2 ∨ kk = 3 ∨ kk = 4 ∨ kk = 5) with rfl | rfl | rfl | rfl <;> decide +kernel
     ·omega
     ·decide +kernel
    have fw := feel_w (n := n) (d := d) (r := r) er nw.1 ov
    rw [nw.2.1] at fw
    unfold worksF at fw
    rw [if_neg (by rw [← nw.2.1]; exact nw.2.2)] at fw
    cases eu : under st r d with
    | false =>
     rw [if_pos eu] at fw
     exact same fw j2 (by unfold tuF; rw [if_neg jl, ← uu, if_pos eu])
    | true =>
     have tu : ∀ {h : HS}, (if j = 2 then (⟨d, (rd53 c1 c3 c4).many, [], 0⟩ : HS) else if j = 3 ∧ (hsO st (wdS c4 3)).g < 1 + c3 / 4 % 3 then { hsO st (wdS c4 3) with u := (hsO st (wdS c4 3)).u + (1 + c3 % 4), g := (hsO st (wdS c4 3)).g + 1 } else if j = 4 ∧ r ≠ none then { hsO st (wdS c4 3) with ps := (hsO st (wdS c4 3)).ps ++ [(d, none)] } else if j = 5 then { hsO st (wdS c4 3) with ps := goPs (hsO st (wdS c4 3)).ps d } else hsO st (wdS c4 3)) = h → tuF (rd53 c1 c3 c4).many (1 + c3 % 4) (1 + c3 / 4 % 3) (hsO st (wdS c4 3)) r j d = h := fun e => by
      unfold tuF
      rw [if_neg jl, ← uu, if_neg (by rw [eu]; decide)]
      exact e
     rw [if_neg (by rw [eu]; decide)] at fw
     unfold under at eu
     rw [Bool.and_eq_true] at eu
     have sd := of_decide_eq_true eu.1
     have d0 := ok.d0
     rcases (by omega : j = 2 ∨ j = 3 ∨ j = 4 ∨ j = 5) with rfl | rfl | rfl | rfl
     ·rw [show w2 2 = Str.ofString "anew" from rfl, if_pos rfl] at fw
      refine other (st' := { st with day := d, units := (rd53 c1 c3 c4).many, ps := [], gr := [] }) fw j2 ov (tu (by rw [if_pos rfl]; rfl)) (fun q => ?_) ?_ (fun _ h => absurd h List.not_mem_nil) (fun q => by cases q)
      ·have : d = st.day := congrArg HS.s q
       omega
      ·have hr : (st.rows ++ [(n, d, w2 2)]).length = st.rows.length + 1 := by rw [List.length_append]; rfl
       exact ⟨⟨.nil, fun _ h => absurd h List.not_mem_nil⟩, by show 0 ≤ d; omega, (rd53_ok c1 c3 c4).m1, Nat.zero_le _, by show (st.rows ++ _).length ≤ 400; omega, Nat.zero_le _, (fun k v h => by cases h), (fun _ h => absurd h List.not_mem_nil), fun q => by cases (List.append_eq_nil_iff.mp q).2⟩
     ·rw [show w2 3 = Str.ofString "longer" from rfl, if_neg (by decide +kernel), if_pos rfl] at fw
      have hkk : kk = 3 := by omega
      subst hkk
      have el : lenF (rd53 c1 c3 c4) st.gr (wdS c4 3) = if gv st.gr (wdS c4 3) < 1 + c3 / 4 % 3 then some (lo53 c3 (wdS c4 3)) else none := by
       unfold lenF
       show [lo53 c3 (wdS c4 3)].find? _ = _
       rw [List.find?_cons]
       show (match decide (wdS c4 3 = wdS c4 3) && decide (gv st.gr (wdS c4 3) < 1 + c3 / 4 % 3) with | true => _ | false => _) = _
       rw [decide_eq_true rfl, Bool.true_and]
       by_cases q : gv st.gr (wdS c4 3) < 1 + c3 / 4 % 3
       ·rw [decide_eq_true q, if_pos q]
       ·rw [decide_eq_false q, if_neg q]; rfl
      rw [el] at fw
      by_cases q : gv st.gr (wdS c4 3) < 1 + c3 / 4 % 3
      ·rw [if_pos q] at fw
       refine other (st' := { st with units := st.units + (1 + c3 % 4), gr := putK st.gr (.inr (wdS c4 3)) (.int (gv st.gr (wdS c4 3) + 1)) }) fw j2 ov (tu ?_) (fun p => ?_) (stok_lo ok cd (by omega) rl) fs' (fun p => ?_)
       ·rw [if_neg (by decide), if_pos ⟨rfl, q⟩]
        unfold hsO
        rw [gv_put, if_pos rfl]
       ·have : st.units + (1 + c3 % 4) = st.units := congrArg HS.u p
        omega
       ·obtain ⟨p1, p2⟩ := hno p
        exact ⟨p1, fun x hx => Int.lt_of_lt_of_le (p2 x hx) (Int.add_le_add_left (need_mono (show st.units ≤ st.units + (1 + c3 % 4) by omega)) _)⟩
      ·rw [if_neg q] at fw
       exact same fw j2 (tu (by rw [if_neg (by decide), if_neg (fun p => q p.2), if_neg (fun p => absurd p.1 (by decide)), if_neg (by decide)]))
     ·rw [show w2 4 = Str.ofString "still" from rfl, if_neg (by decide +kernel), if_neg (by decide +kernel), if_pos rfl] at fw
      cases eh : haltedB st.ps with
      | true =>
       rw [if_pos eh] at fw
       exact same fw j2 (tu (by rw [if_neg (by decide), if_neg (fun p => absurd p.1 (by decide)), if_neg (fun p => p.2 (lsx.2.1 eh)), if_neg (by decide)]))
      | false =>
       rw [if_neg (by rw [eh]; decide)] at fw
       obtain ⟨f, hf, ff⟩ := lsx.2.2 eh
       have cu : ∀ p ∈ st.ps, ∀ e, p.2 = some e → e < d := fun p hp e he => by have := ok.cu p hp e he; omega
       refine other (st' := { st with ps := st.ps ++ [(d, none)] }) fw j2 ov (tu (by rw [if_neg (by decide), if_neg (fun p => absurd p.1 (by decide)), if_pos ⟨rfl, by rw [hf]; exact fun p => nomatch p⟩]; rfl)) (fun p => ?_) ?_ (fun p hp => ?_) (fun _ => ?_)
       ·have := congrArg (fun h : HS => h.ps.length) p
        simp only [hsO, List.length_append, List.length_singleton] at this
        omega
       ·exact stok_ps (o' := st.over) ok (psok_op ok.ps eh cu (by omega)) (by rw [List.length_append]; exact Nat.le_refl _) (fun p hp e he => by
         rcases List.mem_append.mp hp with q | q
         ·exact cu p q e he
         ·rw [List.mem_singleton.mp q] at he; cases he) rl
       ·rcases List.mem_append.mp hp with q | q
        ·exact fs' p q
        ·rw [List.mem_singleton.mp q]; exact Int.le_refl _
       ·rw [hf] at eu
        exact open_full ok.d0 ff sd (of_decide_eq_true eu.2)
     ·rw [show w2 5 = Str.ofString "goes on" from rfl, if_neg (by decide +kernel), if_neg (by decide +kernel), if_neg (by decide +kernel)] at fw
      have t5 : ∀ {h : HS}, { hsO st (wdS c4 3) with ps := goPs st.ps d } = h → tuF (rd53 c1 c3 c4).many (1 + c3 % 4) (1 + c3 / 4 % 3) (hsO st (wdS c4 3)) r 5 d = h := fun e => tu (by rw [if_neg (by decide), if_neg (fun p => absurd p.1 (by decide)), if_neg (fun p => absurd p.1 (by decide)), if_pos rfl]; exact e)
      cases eh : haltedB st.ps with
      | false =>
       rw [if_neg (by rw [eh]; decide)] at fw
       exact same fw j2 (t5 (by rw [go_same eh]; rfl))
      | true =>
       rw [if_pos eh] at fw
       refine other (st' := { st with ps := goPs st.ps d }) fw j2 ov (t5 rfl) (fun p => go_ne eh (congrArg HS.ps p)) ?_ (go_fst fs') (fun p => by rw [hal_go ok.ps] at p; cases p)
       exact stok_ps (o' := st.over) ok (psok_go ok.ps) (Nat.le_succ_of_le go_len) (go_cu cd ok.cu) rl
end
theorem AtQ.keep {H H' : Hp} {p : Addr} {ps : List Pz} (h : AtQ H p ps) (kt : ∀ b t, H b = some (.tup t) → H' b = some (.tup t)) (kl : ∀ l, H p = some (.lst l) → H' p = some (.lst l)) : AtQ H' p ps := by
 obtain ⟨us, h1, h2⟩ := h
 exact ⟨us, kl _ h1, tups_keep h2 kt⟩
theorem AtR.keep {H H' : Hp} {p : Addr} {rows : List R3} (h : AtR H p rows) (kt : ∀ b t, H b = some (.tup t) → H' b = some (.tup t)) (kl : ∀ l, H p = some (.lst l) → H' p = some (.lst l)) : AtR H' p rows := by
 obtain ⟨us, h1, h2⟩ := h
 exact ⟨us, kl _ h1, tups_keep h2 kt⟩
theorem AccAt.keep {H H' : Hp} {q p4 p6 : Addr} {n : Str} {st : RS} {r : Option Int} (h : AccAt H q p4 p6 n st r) (kt : ∀ b t, H b = some (.tup t) → H' b = some (.tup t)) (k4 : ∀ l, H p4 = some (.lst l) → H' p4 = some (.lst l)) (k6 : ∀ l, H p6 = some (.lst l) → H' p6 = some (.lst l)) : AccAt H' q p4 p6 n st r := ⟨kt _ _ h.1, h.2.1.keep kt k4, h.2.2.keep kt k6⟩
theorem AccAt.same {H H' : Hp} {q p4 p6 : Addr} {n : Str} {st : RS} {r : Option Int} (h : AccAt H q p4 p6 n st r) (z : Same H H') : AccAt H' q p4 p6 n st r := ⟨z _ _ h.1, h.2.1.same z, h.2.2.same z⟩
theorem HeldAt.keep {H H' : Hp} {q pq : Addr} {h : HS} {z : Int} (x : HeldAt H q pq h z) (kt : ∀ b t, H b = some (.tup t) → H' b = some (.tup t)) (kl : ∀ l, H pq = some (.lst l) → H' pq = some (.lst l)) : HeldAt H' q pq h z := ⟨kt _ _ x.1, x.2.keep kt kl⟩
theorem la_of {rd : RD} {st : RS} {c g z : Int} {r : Option Int} (ok : StOk st c) (lsx : LsX rd st r) (hz : st.units * z = need rd.unit st.units) (z7 : 0 ≤ z ∧ z ≤ 7) : LaP ⟨st.day, st.units, st.ps, g⟩ z rd.unit r :=
 ⟨ok.ps, ok.d0, z7, by show 1 ≤ st.units * z; rw [hz]; exact need1 ok.u1 _, lsx.2.1, fun h => by show ∃ f, _ ∧ Full _ _ _ (st.units * z) _; rw [hz]; exact lsx.2.2 h⟩
theorem rs_le5 {h : Int} (hh : h ≤ 49) : (Builtin.Range.rangeSize 5 h 2) ≤ 22 := by
 unfold Builtin.Range.rangeSize
 split <;> (try split) <;> omega
noncomputable def rls : List Str := [rlw 0, rlw 1, rlw 2, rlw 3, rlw 4, rlw 5, rlw 6, rlw 7]
theorem rls_at : ∀ j < 8, rls[j]? = some (rlw j) ∧ ∀ m, m < j → rls[m]? ≠ some (rlw j) := by decide +kernel
theorem w2_at {j : Nat} (h : j < 8) : atI [V.str (rlw j), V.str (Str.ofString "ends")] (if decide (V.str (rlw j) = V.str (Str.ofString "due")) = true then 1 else 0) = some (V.str (w2 j)) := by
 rw [rl_at (w := Str.ofString "due") (i := 0) h (by decide) rfl]
 unfold w2
 by_cases c : j = 0
 ·rw [decide_eq_true c, if_pos rfl, if_pos c]; rfl
 ·rw [decide_eq_false c, if_neg (by decide), if_neg c]; rfl
theorem FuN.ls {rd : RD} {st : RS} (h : Full (kf bs0 rs0 rd.unit) st.ps st.day (need rd.unit st.units) none) : LsR bs0 rs0 rd st none := .inl ⟨h, rfl⟩
section
variable {P : Program} {w : World} {K : PySem.W.Frag} {mg : Str → Option Value} {base : Heap} {a : Adr}
set_option maxHeartbeats 4000000
theorem okCountingInit (T : Txt K mg a) : FnOk P w K mg base CX0 1 a.fCountingInit a.gCountingInit ["self", "table"] (spKInit a) := by
 refine T.dCountingInit.fn.ok scCountingInit (fun vs H Q E h => ?_) (fun cdv A outer s H vs Q E hr h => ?_)
 ·obtain ⟨_, _, _, _, rfl, _⟩ := h
  all_goals rfl
 ·obtain ⟨i, x, dx, tb, rfl, hx, k⟩ := h
  refine ⟨_, (ql (ps_fld (pv 0) (pv 1) rfl)), ?_⟩
  cases i with
  | a => exact ⟨_, rfl, _, rfl, _, _, _, _, rfl, hx, T.c_Counting, qq T.n_Counting (by decide), by decide, k⟩
  | b => exact ⟨_, rfl, _, rfl, _, _, _, _, rfl, hx, T.c_Weeks, qq T.n_Weeks (by decide), by decide, k⟩
  | c => exact ⟨_, rfl, _, rfl, _, _, _, _, rfl, hx, T.c_CourtDays, qq T.n_CourtDays (by decide), by decide, k⟩
theorem okKindOf (T : Txt K mg a) : FnOk P w K mg base CX0 3 a.fKindOf a.gKindOf ["unit", "table"] (spKind a) := by
 refine T.dKindOf.fn.ok scKindOf (fun vs H Q E h => ?_) (fun cdv A outer s H vs Q E hr h => ?_)
 ·obtain ⟨_, _, rfl, _⟩ := h
  all_goals rfl
 ·obtain ⟨i, tb, rfl, k⟩ := h
  refine ⟨_, (qi (zb (qu op_eq (pv 0) zg (nomark _)) (ql (qp (pe_make T.k_Weeks (okCountingInit T) (hr.mono (by decide)) rfl T.m_Weeks T.dCountingInit.bd .nil pass0 (qc (pv 1) qj qg)))) pss_nil)
   (qi (zb (qu op_eq (pv 0) zg (nomark _)) (ql (qp (pe_make T.k_CourtDays (okCountingInit T) (hr.mono (by decide)) rfl T.m_CourtDays T.dCountingInit.bd .nil pass0 (qc (pv 1) qj qg)))) pss_nil)
   (ql (qp (pe_make T.k_Counting (okCountingInit T) (hr.mono (by decide)) rfl T.m_Counting T.dCountingInit.bd .nil pass0 (qc (pv 1) qj qg)))))), ?_⟩
  cases i with
  | a => exact ⟨_, rfl, rfl, _, rfl, iteDn (by decide +kernel) ⟨_, rfl, rfl, _, rfl, iteDn (by decide +kernel) ⟨_, rfl, fun x dx nx nd ne => ⟨.a, x, dx, _, rfl, qm, rfl, k x dx _ (made_put nx nd) nx qm⟩⟩⟩⟩
  | b => exact ⟨_, rfl, rfl, _, rfl, iteD rfl ⟨_, rfl, fun x dx nx nd ne => ⟨.b, x, dx, _, rfl, qm, rfl, k x dx _ (made_put nx nd) nx qm⟩⟩⟩
  | c => exact ⟨_, rfl, rfl, _, rfl, iteDn (by decide +kernel) ⟨_, rfl, rfl, _, rfl, iteD rfl ⟨_, rfl, fun x dx nx nd ne => ⟨.c, x, dx, _, rfl, qm, rfl, k x dx _ (made_put nx nd) nx qm⟩⟩⟩⟩
theorem okIsWhole (T : Txt K mg a) : FnOk P w K mg base CX0 1 a.fIsWhole a.gIsWhole ["thing"] (sp1 fun _ => .bl true) := by
 refine T.dIsWhole.fn.ok scIsWhole (fun vs H Q E h => ?_) (fun cdv A outer s H vs Q E hr h => ?_)
 ·obtain ⟨_, rfl, _⟩ := h
  all_goals rfl
 ·obtain ⟨y, rfl, k⟩ := h
  refine ⟨_, (ql (qp (pe_and (zd call_isi (by rfl) T.n_isinstance boot_isinstance (qc (pv 0) (qc (pe_bltn (v := .ty "int") rfl T.n_int boot_int rfl) qj qg) qg)) (pe_one (pe_not (zd call_isi (by rfl) T.n_isinstance boot_isinstance (qc (pv 0) (qc (pe_bltn (v := .ty "bool") rfl T.n_bool boot_bool rfl) qj qg) qg))))))), ?_⟩
  exact ⟨_, rfl, _, _, _, _, rfl, .int _, kit_int_int, _, rfl, iteT ⟨_, rfl, _, _, _, _, rfl, .int _, kit_int_bool, _, rfl, k⟩⟩
theorem okIsStretchOf (T : Txt K mg a) : FnOk P w K mg base CX0 2 a.fIsStretchOf a.gIsStretchOf ["first", "last", "most"] spStr := by
 refine T.dIsStretchOf.fn.ok scIsStretchOf (fun vs H Q E h => ?_) (fun cdv A outer s H vs Q E hr h => ?_)
 ·obtain ⟨_, _, _, rfl, _⟩ := h
  all_goals rfl
 ·obtain ⟨f, l, m, rfl, h0, h1, h2, k⟩ := h
  refine ⟨_, (qi (zb (pt_not (PW.pt (pw_and (zf (zc (okIsWhole T) (hr.mono (by decide)) rfl T.dIsWhole.mgx T.dIsWhole.fn.kp T.dIsWhole.bd .nil pass0 (qc (pv 0) qj qg))) (pw_and1 (zf (zc (okIsWhole T) (hr.mono (by decide)) rfl T.dIsWhole.mgx T.dIsWhole.fn.kp T.dIsWhole.bd .nil pass0 (qc (pv 1) qj qg))))))) (ql (qp pe_bl)) pss_nil)
   (ql (qp (pe_chain3 op_le op_le op_lt qk (pv 0) (pv 1) (qx op_add (pv 0) (pv 2)))))), ?_⟩
  refine ⟨_, rfl, _, rfl, _, rfl, iteT ⟨_, rfl, _, rfl, _, rfl, iteF ?_⟩⟩
  refine ⟨_, rfl, _, _, rfl, rfl, _, rfl, iteD h0 ⟨_, rfl, _, _, rfl, rfl, _, rfl, iteD h1 ⟨_, rfl, _, rfl, _, _, rfl, rfl, _, _, rfl, rfl, ?_⟩⟩⟩
  show Q (.bl (decide (l < f + m))) H
  rw [decide_eq_true h2]
  exact k
theorem okPlace (T : Txt K mg a) : FnOk P w K mg base CX0 1 a.fPlace a.gPlace ["stretches", "day"] spPlace := by
 refine T.dPlace.fn.ok scPlace (fun vs H Q E h => ?_) (fun cdv A outer s H vs Q E hr h => ?_)
 ·obtain ⟨_, _, _, _, _, rfl, _⟩ := h
  all_goals rfl
 ·obtain ⟨p, us, ts, es, d, rfl, hp, ht, he, hl, hw, k⟩ := h
  refine ⟨_, (qi (qv (i := 2) scPlace.nd rfl (Or.inl rfl) qk)
   (qi (qv (i := 3) scPlace.nd rfl (Or.inl rfl) (zd call_len (by rfl) T.n_len boot_len (qc (pv 0) qj qg)))
   (qi (ps_while PassesOwn.never (qu op_lt (pv 2) (pv 3) (nomark _)) (qi (qv (i := 4) scPlace.nd rfl (Or.inl rfl) (qx op_fdiv (qx op_add (pv 2) (pv 3)) qk))
   (ql (zb (qu op_lt (zp zq (zp zr (pv 0) (pv 4) (fun _ _ => rfl)) qk (fun _ _ => rfl)) (pv 1) (nomark _)) (ql (qv (i := 2) scPlace.nd rfl (Or.inl rfl) (qx op_add (pv 4) qk))) (ql (qv (i := 3) scPlace.nd rfl (Or.inl rfl) (pv 4)))))))
   (ql (qp (pv 2)))))), ?_⟩
  have ul := ht.length.trans hl
  refine ⟨_, rfl, _, _, rfl, .inl ⟨_, SqL.of hp, rfl⟩, ?_⟩
  refine ⟨fun m σ' H' => H' = H ∧ ∃ (lo hi : Int) (v : Option V), σ' = [some (.ref p), some (.int d), some (.int lo), some (.int hi), v] ∧ m = (hi - lo).toNat ∧ 0 ≤ lo ∧ lo ≤ hi ∧ hi ≤ es.length ∧ (∀ (i : Nat) (e : Int), es[i]? = some e → (i : Int) < lo → e < d) ∧ (∀ (i : Nat) (e : Int), es[i]? = some e → hi ≤ (i : Int) → ¬ e < d),
   ⟨_, rfl, 0, (us.length : Int), none, rfl, rfl, Int.le_refl _, Int.natCast_nonneg _, Int.le_of_eq (congrArg (fun n : Nat => (n : Int)) ul), fun i e _ z => absurd z (Int.not_lt.mpr (Int.natCast_nonneg i)), fun i e z c => absurd (Int.ofNat_le.mp c) (Nat.not_le.mpr (ul ▸ (List.getElem?_eq_some_iff.mp z).1))⟩, ?_⟩
  rintro m σ' H' ⟨rfl, lo, hi, v, rfl, rfl, h0, h1, h2, h3, h4⟩
  refine ⟨_, rfl, _, rfl, _, _, rfl, rfl, _, rfl, ?_⟩
  refine ite2 (fun c => ?_) (fun c => ?_)
  ·have c' : lo < hi := of_decide_eq_true c
   refine ⟨fun σ2 H2 => H2 = H' ∧ ∃ (lo2 hi2 : Int) (v : Option V), σ2 = [some (.ref p), some (.int d), some (.int lo2), some (.int hi2), v] ∧ hi2 - lo2 < hi - lo ∧ 0 ≤ lo2 ∧ lo2 ≤ hi2 ∧ hi2 ≤ es.length ∧ (∀ (i : Nat) (e : Int), es[i]? = some e → (i : Int) < lo2 → e < d) ∧ (∀ (i : Nat) (e : Int), es[i]? = some e → hi2 ≤ (i : Int) → ¬ e < d), ?_, ?_⟩
   ·rintro σ2 H2 ⟨rfl, lo2, hi2, v2, rfl, g0, g1, g2, g3, g4, g5⟩
    exact ⟨_, tn_lt g0 (Int.sub_pos.mpr c'), rfl, lo2, hi2, v2, rfl, rfl, g1, g2, g3, g4, g5⟩
   ·refine ⟨_, rfl, _, rfl, _, _, rfl, rfl, _, _, rfl, rfl, ⟨by decide, by decide⟩, ?_⟩
    obtain ⟨j, ej, j1, j2⟩ := mid h0 c'
    have hj : j < es.length := Int.ofNat_lt.mp (Int.lt_of_lt_of_le j2 h2)
    have je : es[j]? = some (es[j]'hj) := List.getElem?_eq_getElem _
    obtain ⟨t, t1, t2⟩ := he j _ je
    obtain ⟨a, a1, a2⟩ := ht.get t1
    dsimp only []
    generalize (lo + hi) / 2 = mid at ej ⊢
    subst ej
    have up : ∀ {i : Nat} {e : Int}, es[i]? = some e → (i < j → e < es[j]'hj) ∧ (j < i → es[j]'hj < e) := fun {i e} z => by
     obtain ⟨zi, ze⟩ := List.getElem?_eq_some_iff.mp z
     subst ze
     exact ⟨fun q => List.pairwise_iff_getElem.mp hw i j _ _ q, fun q => List.pairwise_iff_getElem.mp hw j i _ _ q⟩
    refine ⟨_, rfl, _, rfl, _, _, _, _, rfl, rfl, SqL.of hp, (atI_nat a1), _, _, _, _, rfl, rfl, SqT.of a2, t2, _, rfl, _, _, rfl, rfl, _, rfl, ?_⟩
    refine ite2 (fun e => ?_) (fun e => ?_)
    ·have e' := of_decide_eq_true e
     refine ⟨_, rfl, _, _, rfl, rfl, rfl, (j : Int) + 1, hi, _, rfl, Int.sub_lt_sub_left (Int.lt_add_one_of_le j1) hi, Int.natCast_nonneg (j + 1), j2, h2, fun i x hx q => ?_, h4⟩
     by_cases z : i = j
     ·subst z; rw [je] at hx; cases hx; exact e'
     ·exact Int.lt_trans ((up hx).1 (Nat.lt_of_le_of_ne (Int.ofNat_le.mp (Int.le_of_lt_add_one q)) z)) e'
    ·have e' : ¬ es[j]'hj < d := fun z => e (decide_eq_true z)
     refine ⟨_, rfl, rfl, lo, (j : Int), _, rfl, Int.sub_lt_sub_right j2 lo, h0, j1, Int.ofNat_le.mpr (Nat.le_of_lt hj), h3, fun i x hx q => ?_⟩
     by_cases z : i = j
     ·subst z; rw [je] at hx; cases hx; exact e'
     ·exact fun y => e' (Int.lt_trans ((up hx).2 (Nat.lt_of_le_of_ne (Int.ofNat_le.mp q) (Ne.symm z))) y)
  ·have c' : ¬ lo < hi := fun z => c (decide_eq_true z)
   have el : (lo.toNat : Int) = lo := Int.toNat_of_nonneg h0
   have e : (cnt es d : Nat) = lo.toNat := cnt_eq (Int.ofNat_le.mp (Int.le_trans (Int.le_of_eq el) (Int.le_trans h1 h2))) (fun i x hx q => h3 i x hx (Int.lt_of_lt_of_le (Int.ofNat_lt.mpr q) (Int.le_of_eq el))) fun i x hx q => h4 i x hx (Int.le_trans (Int.not_lt.mp c') (Int.le_trans (Int.le_of_eq el.symm) (Int.ofNat_le.mpr q)))
   refine ⟨_, rfl, ?_⟩
   show Q (.int lo) H'
   rw [← el, ← e]
   exact k
theorem okJoined (T : Txt K mg a) : FnOk P w K mg base CX0 1 a.fJoined a.gJoined ["laid"] spJoin := by
 refine T.dJoined.fn.ok scJoined (fun vs H Q E h => ?_) (fun cdv A outer s H vs Q E hr h => ?_)
 ·obtain ⟨_, _, _, _, _, rfl, _⟩ := h
  all_goals rfl
 ·obtain ⟨W, dq, ec, p, rs, rfl, inj, sc, ⟨us, hp, ht⟩, hl, k⟩ := h
  refine ⟨_, (qi (qv (i := 1) scJoined.nd rfl (Or.inl rfl) (zh qj))
   (qi (ps_for PassesOwn.never rfl (pi_list (pv 0)) (pg_tup rfl (pgs_cons (pg_name (i := 2) scJoined.nd rfl (Or.inl rfl)) (pgs_cons (pg_name (i := 3) scJoined.nd rfl (Or.inl rfl)) (pgs_cons (pg_name (i := 4) scJoined.nd rfl (Or.inl rfl)) pgs_nil)))) (ql (zb (PW.pt (pw_and (pt_truth (pv 1) (fun _ => rfl)) (pw_and (qu op_eq (zp zq (zp zr (pv 1) (pe_un un_neg qk) (fun _ _ => rfl)) qk (fun _ _ => rfl)) (pv 4) (nomark _)) (pw_and1 (qu op_eq (qx op_add (zp zq (zp zr (pv 1) (pe_un un_neg qk) (fun _ _ => rfl)) qk (fun _ _ => rfl)) qk) (pv 2) (nomark _)))))) (ql (ps_asg (zj (qc (zp zq (zp zr (pv 1) (pe_un un_neg qk) (fun _ _ => rfl)) qk (fun _ _ => rfl)) (qc (pv 3) (qc (pv 4) qj qg) qg) zn)) (pg_sub (pv 1) (pe_un un_neg qk) set_list))) (ql (qz (pe_bm PySem.F.plainAttrs_list PySem.F.slot_list_append PySem.F.type_list_append mt_append (pv 1) (qc (zj (qc (pv 2) (qc (pv 3) (qc (pv 4) qj qg) qg) qg)) qj zo)))))))
   (ql (qp (pv 1))))), ?_⟩
  refine ⟨fit0, fun q hq => ?_⟩
  have lu := AtG.len ht
  refine ⟨_, rfl, _, rfl, ⟨_, SqL.of (qy hq _ _ hp)⟩, for_list (K := K) (a := p) (xs := us) (fun i σ H' => Same H H' ∧ ∃ (q : Addr) (v3 v4 v5 : Option V), σ = [some (.ref p), some (.ref q), v3, v4, v5] ∧ H q = none ∧ AtG ec H' q (jn (rs.take i)))
   ⟨qy hq, q, none, none, none, rfl, hq, [], qm, .nil⟩ (fun i σ H' _ h => SqL.of (h.1 _ _ hp)) ?_ ?_⟩
  ·rintro i x σ H' hx ⟨s0, q0, v3, v4, v5, rfl, n0, u0, h0, t0⟩
   obtain ⟨a, t, rfl, h1, h2⟩ := ht.get' hx
   obtain ⟨r, h3, rfl⟩ := map_getG h1
   have hlen : u0.length ≤ 1000 := Nat.le_trans (Nat.le_of_eq (AtG.len t0)) (Nat.le_trans (jn_len (rs.take i)) (Nat.le_trans (List.length_take_le' _ _) hl))
   refine ⟨_, _, rfl, SqT.of (s0 _ _ h2), rfl, _, _, rfl, _, _, rfl, _, _, rfl, rfl, ?_⟩
   have js : rs.take (i + 1) = rs.take i ++ [r] := take_snoc h3
   have jn' := jn_snoc (rs.take i) r
   rw [← js] at jn'
   apply use (p := jn1 (jn (rs.take i)) r = jn (rs.take i) ++ [r])
   ·intro fin
    rcases List.eq_nil_or_concat (jn (rs.take i)) with e | ⟨ts, t, e⟩
    ·have eu : u0 = [] := List.eq_nil_of_length_eq_zero (by rw [AtG.len t0, e]; rfl)
     refine ⟨_, rfl, false, .inl ⟨_, SqL.of h0, by rw [eu]; rfl⟩, iteF (iteF ?_)⟩
     exact fin (by rw [e]; rfl)
    ·rw [List.concat_eq_append] at e
     rw [e] at t0
     obtain ⟨u1, b, eu, hb⟩ : ∃ (u1 : List V) (b : Addr), u0 = u1 ++ [.ref b] ∧ H' b = some (.tup (encG ec t)) := by
      have hl0 := AtG.len t0
      rw [List.length_append, List.length_singleton] at hl0
      obtain ⟨b, hb1, hb2⟩ := AtG.row t0 (i := ts.length) (r := t) (by simp)
      refine ⟨u0.take ts.length, b, ?_, hb2⟩
      rw [← take_snoc hb1, List.take_of_length_le (Nat.le_of_eq hl0)]
     have h0' := h0
     rw [eu] at h0' t0
     refine ⟨_, rfl, true, .inl ⟨_, SqL.of h0', by simp⟩, iteT ⟨_, rfl, _, rfl, _, _, _, _, rfl, rfl, SqL.of h0', atI_last _ _, _, _, _, _, rfl, rfl, SqT.of hb, rfl, _, rfl, sc _ _, _, rfl, ?_⟩⟩
     by_cases c1 : t.2.2 = r.2.2
     ·refine iteD (congrArg ec c1) ⟨_, rfl, _, rfl, _, _, _, _, rfl, rfl, SqL.of h0', atI_last _ _, _, _, _, _, rfl, rfl, SqT.of hb, rfl, _, _, rfl, rfl, _, rfl, rfl, _, rfl, ?_⟩
      by_cases c2 : t.2.1 + 1 = r.1
      ·refine iteD (congrArg V.int c2) ⟨_, rfl, _, rfl, _, _, _, _, rfl, rfl, SqL.of h0', atI_last _ _, _, _, _, _, rfl, rfl, SqT.of hb, rfl, _, rfl, _, rfl, fit3 _ _ _, fun q2 hq2 => ⟨_, rfl, _, rfl, _, _, _, _, rfl, rfl, qy hq2 _ _ h0', ix_last _ _, ?_⟩⟩
       have z2 := qy (o := .tup [V.int t.1, V.int r.2.1, ec r.2.2]) hq2
       rw [set_last]
       refine ⟨same_add (s0.trans z2) n0, q0, _, _, _, rfl, n0, _, qm, ?_⟩
       rw [jn', e, jn1_snoc, if_pos ⟨c1, c2⟩, List.map_append]
       rw [List.map_append] at t0
       exact ((t0.same z2).setLast (qm (o := .tup (encG ec (t.1, r.2.1, r.2.2))))).upd (z2 _ _ h0')
      ·refine iteDn (fun z => c2 (V.int.inj z)) ?_
       exact fin (by rw [e, jn1_snoc, if_neg (fun z => c2 z.2)])
     ·refine iteDn (fun z => c1 (inj _ _ z)) (iteF ?_)
      exact fin (by rw [e, jn1_snoc, if_neg (fun z => c1 z.1)])
   ·intro ej
    refine ⟨_, rfl, .inl ⟨rfl, _, SqL.of h0⟩, _, rfl, _, rfl, _, rfl, fit3 _ _ _, fun q2 hq2 => ⟨_, _, _, rfl, rfl, qy hq2 _ _ h0, lt1000 (Nat.le_trans hlen (by decide)), ?_⟩⟩
    have z2 := qy (o := .tup [V.int r.1, V.int r.2.1, ec r.2.2]) hq2
    refine ⟨same_add (s0.trans z2) n0, q0, _, _, _, rfl, n0, _, qm, ?_⟩
    rw [jn', ej, List.map_append]
    exact ((t0.same z2).snoc (qm (o := .tup (encG ec r)))).upd (z2 _ _ h0)
  ·rintro σ H' ⟨s0, q0, v3, v4, v5, rfl, n0, at0⟩
   rw [lu, List.take_length] at at0
   exact ⟨_, rfl, k q0 H' n0 s0 at0⟩
theorem okLaidOver (T : Txt K mg a) : FnOk P w K mg base CX0 2 a.fLaidOver a.gLaidOver ["laid", "first", "last", "word"] spOver := by
 refine T.dLaidOver.fn.ok scLaidOver (fun vs H Q E h => ?_) (fun cdv A outer s H vs Q E hr h => ?_)
 ·obtain ⟨_, _, _, _, _, rfl, _⟩ := h
  all_goals rfl
 ·obtain ⟨p, rs, f, l, w', rfl, ⟨us, hp, ht⟩, dis, hfl, hl, k⟩ := h
  refine ⟨_, (qi (qv (i := 4) scLaidOver.nd rfl (Or.inl rfl) (zc (okPlace T) (hr.mono (by decide)) rfl T.dPlace.mgx T.dPlace.fn.kp T.dPlace.bd .nil pass0 (qc (pv 0) (qc (pv 1) qj qg) qg)))
   (qi (qv (i := 5) scLaidOver.nd rfl (Or.inl rfl) (zc (okPlace T) (hr.mono (by decide)) rfl T.dPlace.mgx T.dPlace.fn.kp T.dPlace.bd .nil pass0 (qc (pv 0) (qc (qx op_add (pv 2) qk) qj zm) qg)))
   (qi (qv (i := 6) scLaidOver.nd rfl (Or.inl rfl) (pe_slice sl_list (pv 0) po_none (po_some (pv 4))))
   (qi (zb (PW.pt (pw_and (qu op_lt (pv 4) (zd call_len (by rfl) T.n_len boot_len (qc (pv 0) qj qg)) (nomark _)) (pw_and1 (qu op_lt (zp zq (zp zr (pv 0) (pv 4) (fun _ _ => rfl)) qk (fun _ _ => rfl)) (pv 1) (nomark _))))) (ql (qz (pe_bm PySem.F.plainAttrs_list PySem.F.slot_list_append PySem.F.type_list_append mt_append (pv 6) (qc (zj (qc (zp zq (zp zr (pv 0) (pv 4) (fun _ _ => rfl)) qk (fun _ _ => rfl)) (qc (qx op_sub (pv 1) qk) (qc (zp zq (zp zr (pv 0) (pv 4) (fun _ _ => rfl)) qk (fun _ _ => rfl)) qj zn) zm) zn)) qj zo)))) pss_nil)
   (qi (qz (pe_bm PySem.F.plainAttrs_list PySem.F.slot_list_append PySem.F.type_list_append mt_append (pv 6) (qc (zj (qc (pv 1) (qc (pv 2) (qc (pv 3) qj qg) qg) qg)) qj zo)))
   (qi (zb (PW.pt (pw_and (qu op_lt (pv 5) (zd call_len (by rfl) T.n_len boot_len (qc (pv 0) qj qg)) (nomark _)) (pw_and1 (qu op_le (zp zq (zp zr (pv 0) (pv 5) (fun _ _ => rfl)) qk (fun _ _ => rfl)) (pv 2) (nomark _))))) (qi (qz (pe_bm PySem.F.plainAttrs_list PySem.F.slot_list_append PySem.F.type_list_append mt_append (pv 6) (qc (zj (qc (qx op_add (pv 2) qk) (qc (zp zq (zp zr (pv 0) (pv 5) (fun _ _ => rfl)) qk (fun _ _ => rfl)) (qc (zp zq (zp zr (pv 0) (pv 5) (fun _ _ => rfl)) qk (fun _ _ => rfl)) qj zn) zn) zm)) qj zo)))
   (ql (ps_aug (i := 5) scLaidOver.nd rfl (Or.inl rfl) qk ip_add))) pss_nil)
   (ql (qp (qx op_cat (pv 6) (pe_slice sl_list (pv 0) (po_some (pv 5)) po_none)))))))))), ?_⟩
  have lu := At.len ht
  have up := ends_up dis
  have el : (rs.map enc).length = (ends rs).length := by rw [List.length_map, List.length_map]
  refine ⟨_, rfl, _, rfl, _, _, _, _, _, rfl, hp, ht, fun i e h => enc_ends h, el, up, ?_⟩
  refine ⟨_, rfl, _, rfl, _, _, rfl, rfl, _, _, _, _, _, rfl, hp, ht, fun i e h => enc_ends h, el, up, ?_⟩
  have hb := cnt_le (ends rs) f
  rw [List.length_map] at hb
  refine ⟨_, rfl, _, rfl, _, rfl, _, _, rfl, SqL.of hp, fun q hq => ?_⟩
  rw [cut_take us (cnt (ends rs) f) (lu ▸ hb)]
  have s0 := qy (o := .lst (us.take (cnt (ends rs) f))) hq
  have lc := left_code f dis
  have lt0 : (us.take (cnt (ends rs) f)).length ≤ 1000 := Nat.le_trans (List.length_take_le' _ _) (lu ▸ hl)
  have t0 : Tups (upd H q (.lst (us.take (cnt (ends rs) f)))) (us.take (cnt (ends rs) f)) ((rs.take (cnt (ends rs) f)).map enc) := by rw [List.map_take]; exact (ht.same s0).take _
  have h0 := qm (H := H) (a := q) (o := .lst (us.take (cnt (ends rs) f)))
  generalize upd H q (.lst (us.take (cnt (ends rs) f))) = H0 at s0 t0 h0 ⊢
  generalize us.take (cnt (ends rs) f) = u0 at t0 h0 lt0
  apply useH (p := fun (H1 : Hp) => Same H H1 ∧ ∃ u1 : List V, H1 q = some (.lst u1) ∧ Tups H1 u1 ((left rs f).map enc) ∧ u1.length ≤ 1200)
  ·intro fin1
   refine ⟨_, rfl, _, rfl, _, _, rfl, .inl ⟨_, SqL.of (s0 _ _ hp), rfl⟩, _, _, rfl, rfl, _, rfl, ?_⟩
   by_cases cb : cnt (ends rs) f < rs.length
   ·obtain ⟨r1, hr1⟩ : ∃ r1, rs[cnt (ends rs) f]? = some r1 := ⟨_, List.getElem?_eq_getElem cb⟩
    obtain ⟨a1, ha1, hb1⟩ := At.row ht hr1
    rw [hr1] at lc
    refine iteD (lenI lu cb) ⟨_, rfl, _, rfl, _, _, _, _, rfl, rfl, SqL.of (s0 _ _ hp), atI_nat ha1, _, _, _, _, rfl, rfl, SqT.of (s0 _ _ hb1), rfl, _, rfl, _, _, rfl, rfl, _, rfl, ?_⟩
    by_cases cf : r1.1 < f
    ·refine iteD cf ⟨_, rfl, .inl ⟨rfl, _, SqL.of h0⟩, _, rfl, _, rfl, _, _, _, _, rfl, rfl, SqL.of (s0 _ _ hp), atI_nat ha1, _, _, _, _, rfl, rfl, SqT.of (s0 _ _ hb1), rfl, _, rfl, _, _, rfl, rfl, _, rfl, _, rfl, _, _, _, _, rfl, rfl, SqL.of (s0 _ _ hp), atI_nat ha1, _, _, _, _, rfl, rfl, SqT.of (s0 _ _ hb1), rfl, fit3 _ _ _, fun q1 hq1 => ⟨_, _, _, rfl, rfl, qy hq1 _ _ h0, lt1000 (Nat.le_trans lt0 (by decide)), ?_⟩⟩
     have z1 := qy (o := .tup [V.int r1.1, V.int (f - 1), V.str r1.2.2]) hq1
     have s1 : Same H (upd (upd H0 q1 (.tup [V.int r1.1, V.int (f - 1), V.str r1.2.2])) q (.lst (u0 ++ [.ref q1]))) := same_add (s0.trans z1) hq
     have h1 := qm (H := upd H0 q1 (.tup [V.int r1.1, V.int (f - 1), V.str r1.2.2])) (a := q) (o := .lst (u0 ++ [.ref q1]))
     have t1 : Tups (upd (upd H0 q1 (.tup [V.int r1.1, V.int (f - 1), V.str r1.2.2])) q (.lst (u0 ++ [.ref q1]))) (u0 ++ [.ref q1]) ((left rs f).map enc) := by
      rw [show left rs f = rs.take (cnt (ends rs) f) ++ [((r1.1, f - 1, r1.2.2) : Rw)] by rw [lc]; exact congrArg _ (if_pos cf), List.map_append]
      exact ((t0.same z1).snoc (qm (o := .tup (enc (r1.1, f - 1, r1.2.2))))).upd (z1 _ _ h0)
     generalize upd (upd H0 q1 (.tup [V.int r1.1, V.int (f - 1), V.str r1.2.2])) q (.lst (u0 ++ [.ref q1])) = H1 at s1 h1 t1 ⊢
     exact fin1 H1 ⟨s1, _, h1, t1, sn1 lt0⟩
    ·refine iteDn cf ?_
     exact fin1 H0 ⟨s0, _, h0, by
      rw [show left rs f = rs.take (cnt (ends rs) f) by rw [lc]; show _ ++ (if r1.1 < f then _ else []) = _; rw [if_neg cf, List.append_nil]]
      exact t0, Nat.le_trans lt0 (by decide)⟩
   ·rw [List.getElem?_eq_none (Nat.not_lt.mp cb)] at lc
    refine iteDn (fun z => cb (Int.ofNat_lt.mp (lu ▸ z))) (iteF ?_)
    exact fin1 H0 ⟨s0, _, h0, by
     rw [show left rs f = rs.take (cnt (ends rs) f) by rw [lc]; exact List.append_nil _]
     exact t0, Nat.le_trans lt0 (by decide)⟩
  ·rintro H1 ⟨s1, u1, h1, t1, l1⟩
   refine ⟨_, rfl, .inl ⟨rfl, _, SqL.of h1⟩, _, rfl, _, rfl, _, rfl, fit3 _ _ _, fun q2 hq2 => ⟨_, _, _, rfl, rfl, qy hq2 _ _ h1, lt1000 (Nat.le_trans l1 (by decide)), ?_⟩⟩
   have z2 := qy (o := .tup [V.int f, V.int l, V.str w']) hq2
   have s2 : Same H (upd (upd H1 q2 (.tup [V.int f, V.int l, V.str w'])) q (.lst (u1 ++ [.ref q2]))) := same_add (s1.trans z2) hq
   have h2 := qm (H := upd H1 q2 (.tup [V.int f, V.int l, V.str w'])) (a := q) (o := .lst (u1 ++ [.ref q2]))
   have t2 : Tups (upd (upd H1 q2 (.tup [V.int f, V.int l, V.str w'])) q (.lst (u1 ++ [.ref q2]))) (u1 ++ [.ref q2]) ((left rs f ++ [((f, l, w') : Rw)]).map enc) := by
    rw [List.map_append]
    exact ((t1.same z2).snoc (qm (o := .tup (enc (f, l, w'))))).upd (z2 _ _ h1)
   generalize upd (upd H1 q2 (.tup [V.int f, V.int l, V.str w'])) q (.lst (u1 ++ [.ref q2])) = H2 at s2 h2 t2 ⊢
   have l2 : (u1 ++ [V.ref q2]).length ≤ 1500 := sn15 l1
   generalize u1 ++ [V.ref q2] = u2 at h2 t2 l2 ⊢
   apply use2 (p := fun (H3 : Hp) (N : Nat) => Same H H3 ∧ ∃ (u3 : List V) (X : List Rw), H3 q = some (.lst u3) ∧ Tups H3 u3 (X.map enc) ∧ u3.length ≤ 2000 ∧ over rs f l w' = X ++ rs.drop N ∧ N ≤ rs.length)
   ·intro fin2
    refine ⟨_, rfl, _, rfl, _, _, rfl, .inl ⟨_, SqL.of (s2 _ _ hp), rfl⟩, _, _, rfl, rfl, _, rfl, ?_⟩
    have rc := right_code l dis
    by_cases ce : cnt (ends rs) (l + 1) < rs.length
    ·obtain ⟨r2, hr2⟩ : ∃ r2, rs[cnt (ends rs) (l + 1)]? = some r2 := ⟨_, List.getElem?_eq_getElem ce⟩
     obtain ⟨a2, ha2, hb2⟩ := At.row ht hr2
     rw [hr2] at rc
     dsimp only at rc
     refine iteD (lenI lu ce) ⟨_, rfl, _, rfl, _, _, _, _, rfl, rfl, SqL.of (s2 _ _ hp), atI_nat ha2, _, _, _, _, rfl, rfl, SqT.of (s2 _ _ hb2), rfl, _, rfl, _, _, rfl, rfl, _, rfl, ?_⟩
     by_cases cl : r2.1 ≤ l
     ·refine iteD cl ⟨_, rfl, .inl ⟨rfl, _, SqL.of h2⟩, _, rfl, _, _, rfl, rfl, _, rfl, _, rfl, _, _, _, _, rfl, rfl, SqL.of (s2 _ _ hp), atI_nat ha2, _, _, _, _, rfl, rfl, SqT.of (s2 _ _ hb2), rfl, _, rfl, _, rfl, _, _, _, _, rfl, rfl, SqL.of (s2 _ _ hp), atI_nat ha2, _, _, _, _, rfl, rfl, SqT.of (s2 _ _ hb2), rfl, fit3 _ _ _, fun q3 hq3 => ⟨_, _, _, rfl, rfl, qy hq3 _ _ h2, lt1000 (Nat.le_trans l2 (by decide)), ?_⟩⟩
      have z3 := qy (o := .tup [V.int (l + 1), V.int r2.2.1, V.str r2.2.2]) hq3
      have s3 : Same H (upd (upd H2 q3 (.tup [V.int (l + 1), V.int r2.2.1, V.str r2.2.2])) q (.lst (u2 ++ [.ref q3]))) := same_add (s2.trans z3) hq
      have h3 := qm (H := upd H2 q3 (.tup [V.int (l + 1), V.int r2.2.1, V.str r2.2.2])) (a := q) (o := .lst (u2 ++ [.ref q3]))
      have t3 : Tups (upd (upd H2 q3 (.tup [V.int (l + 1), V.int r2.2.1, V.str r2.2.2])) q (.lst (u2 ++ [.ref q3]))) (u2 ++ [.ref q3]) (((left rs f ++ [(f, l, w')]) ++ [((l + 1, r2.2.1, r2.2.2) : Rw)]).map enc) := by
       rw [List.map_append]
       exact ((t2.same z3).snoc (qm (o := .tup (enc (l + 1, r2.2.1, r2.2.2))))).upd (z3 _ _ h2)
      generalize upd (upd H2 q3 (.tup [V.int (l + 1), V.int r2.2.1, V.str r2.2.2])) q (.lst (u2 ++ [.ref q3])) = H3 at s3 h3 t3 ⊢
      rw [if_pos cl] at rc
      have ov : over rs f l w' = ((left rs f ++ [(f, l, w')]) ++ [((l + 1, r2.2.1, r2.2.2) : Rw)]) ++ rs.drop (cnt (ends rs) (l + 1) + 1) := by unfold over; rw [rc]; simp
      have hN : cnt (ends rs) (l + 1) + 1 ≤ rs.length := ce
      refine ⟨_, rfl, _, _, rfl, rfl, ?_⟩
      dsimp only []
      rw [show ((cnt (ends rs) (l + 1) : Nat) : Int) + 1 = ((cnt (ends rs) (l + 1) + 1 : Nat) : Int) from rfl]
      generalize cnt (ends rs) (l + 1) + 1 = N at ov hN ⊢
      exact fin2 H3 N ⟨s3, _, _, h3, t3, sn2 l2, ov, hN⟩
     ·rw [if_neg cl] at rc
      refine iteDn cl ?_
      exact fin2 H2 (cnt (ends rs) (l + 1)) ⟨s2, _, _, h2, t2, Nat.le_trans l2 (by decide), by unfold over; rw [rc]; simp, Nat.le_of_lt ce⟩
    ·rw [List.getElem?_eq_none (Nat.not_lt.mp ce)] at rc
     dsimp only at rc
     refine iteDn (fun z => ce (Int.ofNat_lt.mp (lu ▸ z))) (iteF ?_)
     have hce := cnt_le (ends rs) (l + 1)
     rw [List.length_map] at hce
     exact fin2 H2 (cnt (ends rs) (l + 1)) ⟨s2, _, _, h2, t2, Nat.le_trans l2 (by decide), by unfold over; rw [rc, List.drop_of_length_le (Nat.not_lt.mp ce)]; simp, hce⟩
   ·rintro H3 N ⟨s3, u3, X, h3, t3, l3, ov, hN⟩
    refine ⟨_, rfl, _, rfl, _, rfl, _, rfl, _, _, rfl, SqL.of (s3 _ _ hp), fun q5 hq5 => ?_⟩
    dsimp only []
    rw [cut_drop us N (lu ▸ hN)]
    have s5 := qy (o := .lst (us.drop N)) hq5
    refine ⟨_, _, _, _, rfl, rfl, s5 _ _ h3, qm, fits (by rw [List.length_drop]; exact Nat.le_trans (Nat.add_le_add l3 (Nat.le_trans (Nat.sub_le _ _) (lu ▸ hl))) (by decide)), fun q6 hq6 => ?_⟩
    have s6 := qy (o := .lst (u3 ++ us.drop N)) hq6
    refine k q6 _ (s3.free (s5.free hq6)) ((s3.trans s5).trans s6) ⟨_, qm, ?_⟩
    have tt := ((t3.same (s5.trans s6)).app ((ht.same ((s3.trans s5).trans s6)).drop N))
    rw [← List.map_drop, ← List.map_append] at tt
    rw [ov]
    exact tt
theorem okOverlay (T : Txt K mg a) : FnOk P w K mg base CX0 3 a.fOverlay a.gOverlay ["rows"] spOv := by
 refine T.dOverlay.fn.ok scOverlay (fun vs H Q E h => ?_) (fun cdv A outer s H vs Q E hr h => ?_)
 ·obtain ⟨_, _, rfl, _⟩ := h
  all_goals rfl
 ·obtain ⟨p, rs, rfl, ⟨us, hp, ht⟩, ok, hl, k⟩ := h
  refine ⟨_, (qi (qv (i := 1) scOverlay.nd rfl (Or.inl rfl) (zh qj))
   (qi (ps_for PassesOwn.never rfl (pi_list (pv 0)) (pg_tup rfl (pgs_cons (pg_name (i := 2) scOverlay.nd rfl (Or.inl rfl)) (pgs_cons (pg_name (i := 3) scOverlay.nd rfl (Or.inl rfl)) (pgs_cons (pg_name (i := 4) scOverlay.nd rfl (Or.inl rfl)) pgs_nil)))) (ql (qv (i := 1) scOverlay.nd rfl (Or.inl rfl) (zc (okLaidOver T) (hr.mono (by decide)) rfl T.dLaidOver.mgx T.dLaidOver.fn.kp T.dLaidOver.bd .nil pass0 (qc (pv 1) (qc (pv 2) (qc (pv 3) (qc (pv 4) qj qg) qg) qg) qg)))))
   (ql (qp (zc (okJoined T) (hr.mono (by decide)) rfl T.dJoined.mgx T.dJoined.fn.kp T.dJoined.bd .nil pass0 (qc (pv 1) qj qg)))))), ?_⟩
  refine ⟨fit0, fun q hq => ?_⟩
  have lu := At.len ht
  refine ⟨_, rfl, _, rfl, ⟨_, SqL.of (qy hq _ _ hp)⟩, for_list (K := K) (a := p) (xs := us) (fun i σ H' => Same H H' ∧ ∃ (q : Addr) (v3 v4 v5 : Option V), σ = [some (.ref p), some (.ref q), v3, v4, v5] ∧ H q = none ∧ At H' q (lay (rs.take i)))
   ⟨qy hq, q, none, none, none, rfl, hq, [], qm, .nil⟩ (fun i σ H' _ h => SqL.of (h.1 _ _ hp)) ?_ ?_⟩
  ·rintro i x σ H' hx ⟨s0, q0, v3, v4, v5, rfl, n0, at0⟩
   obtain ⟨a, t, rfl, h1, h2⟩ := ht.get' hx
   obtain ⟨r, h3, rfl⟩ := map_get h1
   have okt := lay_take ok i
   have hd := (lay_ok okt).1
   have hlen := lay_len okt
   have hr := ok r (List.mem_of_getElem? h3)
   refine ⟨_, _, rfl, SqT.of (s0 _ _ h2), rfl, _, _, rfl, _, _, rfl, _, _, rfl, rfl, ?_⟩
   refine ⟨_, rfl, _, rfl, _, rfl, _, rfl, _, _, _, _, _, rfl, at0, hd, hr, Nat.le_trans hlen (Nat.le_trans (Nat.mul_le_mul_left 3 (Nat.le_trans (List.length_take_le' _ _) hl)) (by decide)), fun q1 H1 n1 s1 at1 => ?_⟩
   refine ⟨s0.trans s1, q1, _, _, _, rfl, s0.free n1, ?_⟩
   rw [take_snoc h3, lay_snoc]
   exact at1
  ·rintro σ H' ⟨s0, q0, v3, v4, v5, rfl, n0, at0⟩
   rw [lu, List.take_length] at at0
   have hlen := lay_len ok
   exact ⟨_, rfl, _, _, V.str, _, _, rfl, fun _ _ z => V.str.inj z, fun _ _ => rfl, at0, Nat.le_trans hlen (Nat.le_trans (Nat.mul_le_mul_left 3 hl) (by decide)), fun q1 H1 n1 s1 at1 => k q1 H1 (s0.free n1) (s0.trans s1) at1⟩
theorem okCountingDaysFor (T : Txt K mg a) : FnOk P w K mg base CX0 1 a.fCountingDaysFor a.gCountingDaysFor ["self", "units"] (spKOne fun u => .int u) := by
 refine T.dCountingDaysFor.fn.ok scCountingDaysFor (fun vs H Q E h => ?_) (fun cdv A outer s H vs Q E hr h => ?_)
 ·obtain ⟨_, _, rfl, _⟩ := h
  all_goals rfl
 ·obtain ⟨x, u, rfl, k⟩ := h
  refine ⟨_, (ql (qp (pv 1))), ?_⟩
  exact ⟨_, rfl, k⟩
theorem okWeeksDaysFor (T : Txt K mg a) : FnOk P w K mg base CX0 1 a.fWeeksDaysFor a.gWeeksDaysFor ["self", "units"] (spKOne fun u => .int (7 * u)) := by
 refine T.dWeeksDaysFor.fn.ok scWeeksDaysFor (fun vs H Q E h => ?_) (fun cdv A outer s H vs Q E hr h => ?_)
 ·obtain ⟨_, _, rfl, _⟩ := h
  all_goals rfl
 ·obtain ⟨x, u, rfl, k⟩ := h
  refine ⟨_, (ql (qp (qx op_mul (pe_glob (v := .int 7) rfl T.g_DAYS_OF_A_WEEK.choose_spec ⟨_, rfl⟩) (pv 1)))), ?_⟩
  exact ⟨_, rfl, _, _, rfl, rfl, .inl ⟨by decide, by decide⟩, k⟩
theorem okCountingReach (T : Txt K mg a) : FnOk P w K mg base CX0 1 a.fCountingReach a.gCountingReach ["self", "first", "many"] (spKTwo fun f m => .int (f + m - 1)) := by
 refine T.dCountingReach.fn.ok scCountingReach (fun vs H Q E h => ?_) (fun cdv A outer s H vs Q E hr h => ?_)
 ·obtain ⟨_, _, _, rfl, _⟩ := h
  all_goals rfl
 ·obtain ⟨x, u, v, rfl, k⟩ := h
  refine ⟨_, (ql (qp (qx op_sub (qx op_add (pv 1) (pv 2)) qk))), ?_⟩
  exact ⟨_, rfl, _, rfl, _, _, rfl, rfl, _, _, rfl, rfl, k⟩
theorem okLongBefore (T : Txt K mg a) : FnOk P w K mg base CX0 1 a.fLongBefore a.gLongBefore ["year"] (sp1 fun y => .int ((3 * y + 14) / 17)) := by
 refine T.dLongBefore.fn.ok scLongBefore (fun vs H Q E h => ?_) (fun cdv A outer s H vs Q E hr h => ?_)
 ·obtain ⟨_, rfl, _⟩ := h
  all_goals rfl
 ·obtain ⟨y, rfl, k⟩ := h
  refine ⟨_, (ql (qp (qx op_fdiv (qx op_add (qx op_mul qk (pv 0)) qk) qk))), ?_⟩
  exact ⟨_, rfl, _, _, rfl, rfl, mulL (by decide) (by decide), _, _, rfl, rfl, _, _, rfl, rfl, ⟨by decide, by decide⟩, k⟩
theorem okPatternBeforeYear (T : Txt K mg a) : FnOk P w K mg base CX0 2 a.fPatternBeforeYear a.gPatternBeforeYear ["self", "year"] (spPBy a) := by
 refine T.dPatternBeforeYear.fn.ok scPatternBeforeYear (fun vs H Q E h => ?_) (fun cdv A outer s H vs Q E hr h => ?_)
 ·obtain ⟨_, _, _, rfl, _⟩ := h
  all_goals rfl
 ·obtain ⟨x, bs, y, rfl, hx, k⟩ := h
  refine ⟨_, (qi (qv (i := 2) scPatternBeforeYear.nd rfl (Or.inl rfl) (qx op_sub (zp zr (pe_fld (pv 0) rfl) (pe_glob (v := .int 371) rfl T.g_LONG_YEAR.choose_spec ⟨_, rfl⟩) (fun _ _ => rfl)) (zp zr (pe_fld (pv 0) rfl) (pe_glob (v := .int 364) rfl T.g_SHORT_YEAR.choose_spec ⟨_, rfl⟩) (fun _ _ => rfl))))
   (ql (qp (qx op_add (qx op_mul (pv 1) (zp zr (pe_fld (pv 0) rfl) (pe_glob (v := .int 364) rfl T.g_SHORT_YEAR.choose_spec ⟨_, rfl⟩) (fun _ _ => rfl))) (qx op_mul (zc (okLongBefore T) (hr.mono (by decide)) rfl T.dLongBefore.mgx T.dLongBefore.fn.kp T.dLongBefore.bd .nil pass0 (qc (pv 1) qj qg)) (pv 2)))))), ?_⟩
  obtain ⟨dx, a1, a2, a3, h1, e1, e2, e3, hl⟩ := hx
  have c1 : atI ((cuL bs).map V.int) 371 = some (.int (opn bs 371)) := atI_of (j := 371) (by rw [List.getElem?_map, cuL_at bs (by rw [hl]; decide)]; rfl) rfl
  have c2 : atI ((cuL bs).map V.int) 364 = some (.int (opn bs 364)) := atI_of (j := 364) (by rw [List.getElem?_map, cuL_at bs (by rw [hl]; decide)]; rfl) rfl
  refine ⟨_, rfl, _, _, _, _, _, rfl, h1, T.c_Pattern, qq T.n_Pattern (by decide), rfl, _, _, _, _, rfl, rfl, SqL.of e3, c1, _, rfl, _, _, _, _, _, rfl, h1, T.c_Pattern, qq T.n_Pattern (by decide), rfl, _, _, _, _, rfl, rfl, SqL.of e3, c2, _, _, rfl, rfl, ?_⟩
  exact ⟨_, rfl, _, rfl, _, _, _, _, _, rfl, h1, T.c_Pattern, qq T.n_Pattern (by decide), rfl, _, _, _, _, rfl, rfl, SqL.of e3, c2, _, _, rfl, rfl, .inr (opB hl), _, rfl, _, rfl, _, rfl, _, _, rfl, rfl, .inr (opD hl), _, _, rfl, rfl, k⟩
theorem okPatternYearWith (T : Txt K mg a) : FnOk P w K mg base CX0 3 a.fPatternYearWith a.gPatternYearWith ["self", "many"] (spYw a) := by
 refine T.dPatternYearWith.fn.ok scPatternYearWith (fun vs H Q E h => ?_) (fun cdv A outer s H vs Q E hr h => ?_)
 ·obtain ⟨_, _, _, rfl, _⟩ := h
  all_goals rfl
 ·obtain ⟨x, bs, m, rfl, hx, h0, ho, k⟩ := h
  refine ⟨_, (qi (qv (i := 2) scPatternYearWith.nd rfl (Or.inl rfl) (qx op_mul (pe_glob (v := .int 17) rfl T.g_TURN.choose_spec ⟨_, rfl⟩) (qx op_fdiv (pv 1) (pe_meth (pv 0) T.c_Pattern T.t_dPatternBeforeYear (okPatternBeforeYear T) (hr.mono (by decide)) T.dPatternBeforeYear.bd .nil pass0 (qc (pe_glob (v := .int 17) rfl T.g_TURN.choose_spec ⟨_, rfl⟩) qj qg)))))
   (qi (ps_while PassesOwn.never (qu op_le (pe_meth (pv 0) T.c_Pattern T.t_dPatternBeforeYear (okPatternBeforeYear T) (hr.mono (by decide)) T.dPatternBeforeYear.bd .nil pass0 (qc (qx op_add (pv 2) qk) qj zm)) (pv 1) (nomark _)) (ql (ps_aug (i := 2) scPatternYearWith.nd rfl (Or.inl rfl) qk ip_add)))
   (ql (qp (pv 2))))), ?_⟩
  have hx0 := hx
  obtain ⟨dx, a1, a2, a3, h1, e1, e2, e3, hl⟩ := hx
  have tb := pby_17B hl ho
  refine ⟨_, rfl, _, rfl, _, _, _, rfl, h1, rfl, _, _, _, rfl, hx0, _, _, rfl, rfl, ⟨tb.1, tb.2⟩, _, _, rfl, rfl, .inl ⟨by decide, by decide⟩, ?_⟩
  have q0 : 0 ≤ m / pby bs 17 := Int.ediv_nonneg h0 (Int.le_of_lt tb.1)
  have q1 : pby bs (17 * (m / pby bs 17)) ≤ m := by rw [pby_17]; exact Int.ediv_mul_le m (Int.ne_of_gt tb.1)
  dsimp only []
  have q2 : 0 ≤ 17 * (m / pby bs 17) := by omega
  generalize 17 * (m / pby bs 17) = y0 at q1 q2 ⊢
  refine ⟨fun z σ' H' => H' = H ∧ ∃ y : Int, σ' = [some (.ref x), some (.int m), some (.int y)] ∧ z = (m - pby bs y).toNat ∧ 0 ≤ y ∧ pby bs y ≤ m, ⟨_, rfl, y0, rfl, rfl, q2, q1⟩, ?_⟩
  rintro z σ' H' ⟨rfl, y, rfl, rfl, g0, g1⟩
  refine ⟨_, rfl, _, _, _, rfl, h1, rfl, _, rfl, _, _, rfl, rfl, _, _, _, rfl, hx0, _, rfl, _, _, rfl, rfl, _, rfl, ite2 (fun c => ?_) (fun c => ?_)⟩
  ·have c' : pby bs (y + 1) ≤ m := of_decide_eq_true c
   have lt := pby_lt hl ho y
   exact ⟨fun σ2 H2 => H2 = H' ∧ σ2 = [some (.ref x), some (.int m), some (.int (y + 1))], fun σ2 H2 ⟨z1, z2⟩ => ⟨(m - pby bs (y + 1)).toNat, by omega, z1, y + 1, z2, rfl, by omega, c'⟩, _, rfl, _, _, rfl, rfl, rfl, rfl⟩
  ·have c' : ¬ pby bs (y + 1) ≤ m := fun z => c (decide_eq_true z)
   exact ⟨_, rfl, k y g0 g1 (Int.not_le.mp c')⟩
theorem okFirstWeek (T : Txt K mg a) : FnOk P w K mg base CX0 2 a.fFirstWeek a.gFirstWeek ["year"] (sp1 fun y => .int (fw y)) := by
 refine T.dFirstWeek.fn.ok scFirstWeek (fun vs H Q E h => ?_) (fun cdv A outer s H vs Q E hr h => ?_)
 ·obtain ⟨_, rfl, _⟩ := h
  all_goals rfl
 ·obtain ⟨y, rfl, k⟩ := h
  refine ⟨_, (ql (qp (qx op_add (qx op_mul qk (pv 0)) (zc (okLongBefore T) (hr.mono (by decide)) rfl T.dLongBefore.mgx T.dLongBefore.fn.kp T.dLongBefore.bd .nil pass0 (qc (pv 0) qj qg))))), ?_⟩
  exact ⟨_, rfl, _, _, rfl, rfl, mulL (by decide) (by decide), _, rfl, _, rfl, _, _, rfl, rfl, k⟩
theorem okPatternNth (T : Txt K mg a) : FnOk P w K mg base CX0 4 a.fPatternNth a.gPatternNth ["self", "many"] (spPNth a) := by
 refine T.dPatternNth.fn.ok scPatternNth (fun vs H Q E h => ?_) (fun cdv A outer s H vs Q E hr h => ?_)
 ·obtain ⟨_, _, _, rfl, _⟩ := h
  all_goals rfl
 ·obtain ⟨x, bs, m, rfl, hx, h0, ho, k⟩ := h
  refine ⟨_, (qi (qv (i := 2) scPatternNth.nd rfl (Or.inl rfl) (pe_meth (pv 0) T.c_Pattern T.t_dPatternYearWith (okPatternYearWith T) (hr.mono (by decide)) T.dPatternYearWith.bd .nil pass0 (qc (pv 1) qj qg)))
   (ql (qp (qx op_add (qx op_mul qk (zc (okFirstWeek T) (hr.mono (by decide)) rfl T.dFirstWeek.mgx T.dFirstWeek.fn.kp T.dFirstWeek.bd .nil pass0 (qc (pv 2) qj qg))) (zp zr (pe_fld (pv 0) rfl) (qx op_sub (pv 1) (pe_meth (pv 0) T.c_Pattern T.t_dPatternBeforeYear (okPatternBeforeYear T) (hr.mono (by decide)) T.dPatternBeforeYear.bd .nil pass0 (qc (pv 2) qj qg))) (fun _ _ => rfl)))))), ?_⟩
  have hx0 := hx
  obtain ⟨dx, a1, a2, a3, h1, e1, e2, e3, hl⟩ := hx
  refine ⟨_, rfl, _, _, _, rfl, h1, rfl, _, rfl, _, _, _, rfl, hx0, h0, ho, fun y y0 y1 y2 => ?_⟩
  obtain ⟨w, w1, w2, w3, w4⟩ := pn_day hl y0 y1 y2
  exact ⟨_, rfl, _, rfl, _, _, rfl, rfl, .inl ⟨by decide, by decide⟩, _, rfl, _, _, _, _, _, rfl, h1, T.c_Pattern, qq T.n_Pattern (by decide), rfl, _, rfl, _, rfl, _, _, _, rfl, h1, rfl, _, rfl, _, _, _, rfl, hx0, _, _, rfl, rfl, _, _, _, _, rfl, rfl, SqL.of e2, atI_of (j := (m - pby bs y).toNat) (by rw [List.getElem?_map, w1]; rfl) (Int.toNat_of_nonneg (Int.sub_nonneg_of_le y1)).symm, _, _, rfl, rfl, k _ w2 w3 w4⟩
theorem okYearOf (T : Txt K mg a) : FnOk P w K mg base CX0 1 a.fYearOf a.gYearOf ["week"] (sp1 fun y => .int (yo y)) := by
 refine T.dYearOf.fn.ok scYearOf (fun vs H Q E h => ?_) (fun cdv A outer s H vs Q E hr h => ?_)
 ·obtain ⟨_, rfl, _⟩ := h
  all_goals rfl
 ·obtain ⟨y, rfl, k⟩ := h
  refine ⟨_, (ql (qp (qx op_fdiv (qx op_add (qx op_mul qk (pv 0)) qk) qk))), ?_⟩
  exact ⟨_, rfl, _, _, rfl, rfl, mulL (by decide) (by decide), _, _, rfl, rfl, _, _, rfl, rfl, ⟨by decide, by decide⟩, k⟩
theorem okWeekday (T : Txt K mg a) : FnOk P w K mg base CX0 2 a.fWeekday a.gWeekday ["day"] spWeekday := by
 refine T.dWeekday.fn.ok scWeekday (fun vs H Q E h => ?_) (fun cdv A outer s H vs Q E hr h => ?_)
 ·obtain ⟨_, rfl, _⟩ := h
  all_goals rfl
 ·obtain ⟨n, rfl, h0, k⟩ := h
  refine ⟨_, (qi (zb (pt_not (PW.pt (pw_and (zf (zc (okIsWhole T) (hr.mono (by decide)) rfl T.dIsWhole.mgx T.dIsWhole.fn.kp T.dIsWhole.bd .nil pass0 (qc (pv 0) qj qg))) (pw_and1 (qu op_ge (pv 0) qk (nomark _)))))) (ql ps_never) pss_nil)
   (ql (qp (qx op_add (qx op_mod (pv 0) qk) qk)))), ?_⟩
  refine ⟨_, rfl, _, rfl, _, rfl, iteT ⟨_, rfl, _, _, rfl, rfl, _, rfl, iteNS h0 ?_⟩⟩
  exact ⟨_, rfl, _, _, rfl, rfl, (pos (by decide)), _, _, rfl, rfl, k⟩
theorem okDateOf (T : Txt K mg a) : FnOk P w K mg base CX0 3 a.fDateOf a.gDateOf ["day"] spDateOf := by
 refine T.dDateOf.fn.ok scDateOf (fun vs H Q E h => ?_) (fun cdv A outer s H vs Q E hr h => ?_)
 ·obtain ⟨_, rfl, _⟩ := h
  all_goals rfl
 ·obtain ⟨n, rfl, h0, k⟩ := h
  refine ⟨_, (qi (qv (i := 1) scDateOf.nd rfl (Or.inl rfl) (zc (okWeekday T) (hr.mono (by decide)) rfl T.dWeekday.mgx T.dWeekday.fn.kp T.dWeekday.bd .nil pass0 (qc (pv 0) qj qg)))
   (qi (qv (i := 2) scDateOf.nd rfl (Or.inl rfl) (qx op_fdiv (pv 0) qk))
   (qi (qv (i := 3) scDateOf.nd rfl (Or.inl rfl) (zc (okYearOf T) (hr.mono (by decide)) rfl T.dYearOf.mgx T.dYearOf.fn.kp T.dYearOf.bd .nil pass0 (qc (pv 2) qj qg)))
   (ql (qp (zj (qc (pv 3) (qc (qx op_add (qx op_sub (pv 2) (zc (okFirstWeek T) (hr.mono (by decide)) rfl T.dFirstWeek.mgx T.dFirstWeek.fn.kp T.dFirstWeek.bd .nil pass0 (qc (pv 3) qj qg))) qk) (qc (pv 1) qj qg) zm) qg))))))), ?_⟩
  exact ⟨_, rfl, _, rfl, h0, _, rfl, _, _, rfl, rfl, ⟨by decide, by decide⟩, _, rfl, _, rfl, _, rfl, _, rfl, _, rfl, _, rfl, _, _, rfl, rfl, _, _, rfl, rfl, _, rfl, fit3 _ _ _, fun p hp => k p hp⟩
theorem okDayOfYear (T : Txt K mg a) : FnOk P w K mg base CX0 4 a.fDayOfYear a.gDayOfYear ["day"] spDoy := by
 refine T.dDayOfYear.fn.ok scDayOfYear (fun vs H Q E h => ?_) (fun cdv A outer s H vs Q E hr h => ?_)
 ·obtain ⟨_, rfl, _⟩ := h
  all_goals rfl
 ·obtain ⟨n, rfl, h0, k⟩ := h
  refine ⟨_, (qi (qv (i := 1) scDayOfYear.nd rfl (Or.inl rfl) (zc (okDateOf T) (hr.mono (by decide)) rfl T.dDateOf.mgx T.dDateOf.fn.kp T.dDateOf.bd .nil pass0 (qc (pv 0) qj qg)))
   (ql (qp (qx op_sub (qx op_add (qx op_mul qk (qx op_sub (zp zq (pv 1) qk (fun _ _ => rfl)) qk)) (zp zq (pv 1) qk (fun _ _ => rfl))) qk)))), ?_⟩
  refine ⟨_, rfl, _, rfl, h0, fun p hp => ?_⟩
  have k1 := k _ (qy (o := .tup [V.int (yo (n / 7)), V.int (n / 7 - fw (yo (n / 7)) + 1), V.int (n % 7 + 1)]) hp)
  refine ⟨_, rfl, _, _, _, _, rfl, rfl, SqT.of qm, rfl, _, _, rfl, rfl, _, _, rfl, rfl, mulL (by decide) (by decide), _, rfl, _, _, _, _, rfl, rfl, SqT.of qm, rfl, _, _, rfl, rfl, _, _, rfl, rfl, ?_⟩
  have e : 7 * (n / 7 - fw (yo (n / 7)) + 1 - 1) + (n % 7 + 1) - 1 = doy n := by unfold doy; omega
  show Q (.int (7 * (n / 7 - fw (yo (n / 7)) + 1 - 1) + (n % 7 + 1) - 1)) _
  rw [e]
  exact k1
theorem okPatternBefore (T : Txt K mg a) : FnOk P w K mg base CX0 5 a.fPatternBefore a.gPatternBefore ["self", "day"] (spPBef a) := by
 refine T.dPatternBefore.fn.ok scPatternBefore (fun vs H Q E h => ?_) (fun cdv A outer s H vs Q E hr h => ?_)
 ·obtain ⟨_, _, _, rfl, _⟩ := h
  all_goals rfl
 ·obtain ⟨x, bs, n, rfl, hx, h0, k⟩ := h
  refine ⟨_, (qi (qv (i := 2) scPatternBefore.nd rfl (Or.inl rfl) (zc (okYearOf T) (hr.mono (by decide)) rfl T.dYearOf.mgx T.dYearOf.fn.kp T.dYearOf.bd .nil pass0 (qc (qx op_fdiv (pv 1) qk) qj zm)))
   (ql (qp (qx op_add (pe_meth (pv 0) T.c_Pattern T.t_dPatternBeforeYear (okPatternBeforeYear T) (hr.mono (by decide)) T.dPatternBeforeYear.bd .nil pass0 (qc (pv 2) qj qg)) (zp zr (pe_fld (pv 0) rfl) (zc (okDayOfYear T) (hr.mono (by decide)) rfl T.dDayOfYear.mgx T.dDayOfYear.fn.kp T.dDayOfYear.bd .nil pass0 (qc (pv 1) qj qg)) (fun _ _ => rfl)))))), ?_⟩
  have hx0 := hx
  obtain ⟨dx, a1, a2, a3, h1, e1, e2, e3, hl⟩ := hx
  obtain ⟨d0, d1⟩ := doy_in h0
  refine ⟨_, rfl, _, _, rfl, rfl, ⟨by decide, by decide⟩, _, rfl, ?_⟩
  refine ⟨_, rfl, _, _, _, rfl, h1, rfl, _, rfl, _, _, _, rfl, hx0, _, rfl, _, _, _, _, _, rfl, h1, T.c_Pattern, qq T.n_Pattern (by decide), rfl, _, rfl, _, rfl, h0, fun H' s => ?_⟩
  exact ⟨_, _, _, _, rfl, rfl, SqL.of (s _ _ e3), atI_of (j := (doy n).toNat) (by rw [List.getElem?_map, cuL_at bs (by rw [hl]; exact Nat.le_of_lt ((Int.toNat_lt d0).mpr d1))]; rfl) (Int.toNat_of_nonneg d0).symm, _, _, rfl, rfl, k H' s⟩
theorem okTableShift (T : Txt K mg a) : FnOk P w K mg base CX0 6 a.fTableShift a.gTableShift ["self", "row", "end"] (spShift a) := by
 refine T.dTableShift.fn.ok scTableShift (fun vs H Q E h => ?_) (fun cdv A outer s H vs Q E hr h => ?_)
 ·obtain ⟨_, _, _, _, _, _, _, _, _, rfl, _⟩ := h
  all_goals rfl
 ·obtain ⟨x, p, q, z, y, dx, bs, r, e, rfl, hx, hpt, hy, h0, h1, k⟩ := h
  refine ⟨_, (qi (qv (i := 3) scTableShift.nd rfl (Or.inl rfl) (qx op_sub (pe_meth (pe_fld (pv 0) rfl) T.c_Pattern T.t_dPatternBefore (okPatternBefore T) (hr.mono (by decide)) T.dPatternBefore.bd .nil pass0 (qc (pv 2) qj qg)) (pe_meth (pe_fld (pv 0) rfl) T.c_Pattern T.t_dPatternBefore (okPatternBefore T) (hr.mono (by decide)) T.dPatternBefore.bd .nil pass0 (qc (zp zq (pv 1) qk (fun _ _ => rfl)) qj zn))))
   (qi (qv (i := 4) scTableShift.nd rfl (Or.inl rfl) (pe_ifExp (qu op_eq (zp zq (pv 1) qk (fun _ _ => rfl)) zg (nomark _)) (qx op_sub (pv 2) (zp zq (pv 1) qk (fun _ _ => rfl))) qk))
   (ql (qp (qx op_sub (pv 4) (pv 3)))))), ?_⟩
  have hpt0 := hpt
  obtain ⟨dp, a1, a2, a3, p1, _⟩ := hpt
  refine ⟨_, rfl, _, _, _, _, _, rfl, hx, T.c_Table, qq T.n_Table (by decide), rfl, _, _, _, rfl, p1, rfl, _, rfl, _, _, _, rfl, hpt0, h1, fun H1 s1 => ?_⟩
  refine ⟨_, rfl, _, _, _, _, _, rfl, s1 _ _ hx, T.c_Table, qq T.n_Table (by decide), rfl, _, _, _, rfl, s1 _ _ p1, rfl, _, rfl, _, _, _, _, rfl, rfl, SqT.of (s1 _ _ hy), rfl, _, _, _, rfl, hpt0.same s1, h0, fun H2 s2 => ?_⟩
  have s12 := s1.trans s2
  have hy2 := s12 _ _ hy
  refine ⟨_, _, rfl, rfl, _, rfl, _, _, _, _, rfl, rfl, SqT.of hy2, rfl, rfl, _, rfl, ?_⟩
  have k2 := k H2 s12
  unfold shf at k2
  by_cases c : r.2.2 = Str.ofString "open"
  ·rw [if_pos c] at k2
   exact iteD (congrArg V.str c) ⟨_, rfl, _, rfl, _, _, _, _, rfl, rfl, SqT.of hy2, rfl, _, _, rfl, rfl, _, rfl, _, rfl, _, _, rfl, rfl, k2⟩
  ·rw [if_neg c] at k2
   exact iteDn (fun z => c (V.str.inj z)) ⟨_, rfl, _, rfl, _, _, rfl, rfl, k2⟩
theorem okTableBefore (T : Txt K mg a) : FnOk P w K mg base CX0 7 a.fTableBefore a.gTableBefore ["self", "day"] (spTBef a) := by
 refine T.dTableBefore.fn.ok scTableBefore (fun vs H Q E h => ?_) (fun cdv A outer s H vs Q E hr h => ?_)
 ·obtain ⟨_, _, _, _, rfl, _⟩ := h
  all_goals rfl
 ·obtain ⟨x, bs, rs, n, rfl, hx, ap, nn, h0, k⟩ := h
  refine ⟨_, (qi (qv (i := 2) scTableBefore.nd rfl (Or.inl rfl) (zc (okPlace T) (hr.mono (by decide)) rfl T.dPlace.mgx T.dPlace.fn.kp T.dPlace.bd .nil pass0 (qc (pe_fld (pv 0) rfl) (qc (pv 1) qj qg) star_att)))
   (qi (qv (i := 3) scTableBefore.nd rfl (Or.inl rfl) (qx op_add (pe_meth (pe_fld (pv 0) rfl) T.c_Pattern T.t_dPatternBefore (okPatternBefore T) (hr.mono (by decide)) T.dPatternBefore.bd .nil pass0 (qc (pv 1) qj qg)) (zp zr (pe_fld (pv 0) rfl) (pv 2) (fun _ _ => rfl))))
   (qi (zb (PW.pt (pw_and (qu op_lt (pv 2) (zd call_len (by rfl) T.n_len boot_len (qc (pe_fld (pv 0) rfl) qj star_att)) (nomark _)) (pw_and1 (qu op_lt (zp zq (zp zr (pe_fld (pv 0) rfl) (pv 2) (fun _ _ => rfl)) qk (fun _ _ => rfl)) (pv 1) (nomark _))))) (ql (ps_aug (i := 3) scTableBefore.nd rfl (Or.inl rfl) (pe_meth (pv 0) T.c_Table T.t_dTableShift (okTableShift T) (hr.mono (by decide)) T.dTableShift.bd .nil pass0 (qc (zp zr (pe_fld (pv 0) rfl) (pv 2) (fun _ _ => rfl)) (qc (pv 1) qj qg) zn)) ip_add)) pss_nil)
   (ql (qp (pv 3)))))), ?_⟩
  obtain ⟨dx, p, q, z, h1, hpt, ⟨us, hq, hu⟩, hz⟩ := hx
  have dis := ap_dis ap
  have lu := At.len hu
  have hc := cnt_le (ends rs) n
  rw [List.length_map] at hc
  refine ⟨_, rfl, _, _, _, _, _, rfl, h1, T.c_Table, qq T.n_Table (by decide), rfl, _, rfl, _, _, _, _, _, rfl, hq, hu, fun i e h => enc_ends h, by rw [List.length_map, List.length_map], ends_up dis, ?_⟩
  have hpt0 := hpt
  obtain ⟨dp, a1, a2, a3, p1, _⟩ := hpt
  refine ⟨_, rfl, _, _, _, _, _, rfl, h1, T.c_Table, qq T.n_Table (by decide), rfl, _, _, _, rfl, p1, rfl, _, rfl, _, _, _, rfl, hpt0, h0, fun H1 s1 => ?_⟩
  have h1 := s1 _ _ h1
  have hq := s1 _ _ hq
  have hu := hu.same s1
  have hz := s1 _ _ hz
  have hpt0 := hpt0.same s1
  refine ⟨_, rfl, _, _, _, _, _, rfl, h1, T.c_Table, qq T.n_Table (by decide), rfl, _, rfl, _, _, _, _, rfl, rfl, SqL.of hz, atI_nat (by rw [List.getElem?_map, shL_at bs rs hc]; rfl), _, _, rfl, rfl, ?_⟩
  refine ⟨_, rfl, _, rfl, _, _, _, _, _, rfl, h1, T.c_Table, qq T.n_Table (by decide), rfl, _, _, rfl, .inl ⟨_, SqL.of hq, rfl⟩, _, _, rfl, rfl, _, rfl, ?_⟩
  by_cases ce : cnt (ends rs) n < rs.length
  ·obtain ⟨r, hr'⟩ : ∃ r, rs[cnt (ends rs) n]? = some r := ⟨_, List.getElem?_eq_getElem ce⟩
   obtain ⟨b, ha, hb⟩ := At.row hu hr'
   refine iteD (lenI lu ce) ⟨_, rfl, _, _, _, _, _, rfl, h1, T.c_Table, qq T.n_Table (by decide), rfl, _, rfl, _, _, _, _, rfl, rfl, SqL.of hq, atI_nat ha, _, _, _, _, rfl, rfl, SqT.of hb, rfl, _, rfl, _, _, rfl, rfl, _, rfl, ?_⟩
   by_cases cl : r.1 < n
   ·refine iteD cl ⟨_, rfl, _, rfl, _, _, _, rfl, h1, rfl, _, rfl, _, _, _, _, _, rfl, h1, T.c_Table, qq T.n_Table (by decide), rfl, _, rfl, _, _, _, _, rfl, rfl, SqL.of hq, atI_nat ha, _, rfl, _, _, _, _, _, _, _, _, _, rfl, h1, hpt0, hb, nn r (List.mem_of_getElem? hr'), h0, fun H2 s2 => ⟨_, _, rfl, rfl, _, rfl, ?_⟩⟩
    have k2 := k H2 (s1.trans s2)
    rw [← tb_some dis hr' cl] at k2
    exact k2
   ·have k1 := k H1 s1
    rw [← tb_late dis hr' cl] at k1
    exact iteDn cl ⟨_, rfl, k1⟩
  ·have k1 := k H1 s1
   rw [← tb_none dis (List.getElem?_eq_none (Nat.not_lt.mp ce))] at k1
   exact iteDn (fun z => ce (Int.ofNat_lt.mp (lu ▸ z))) (iteF ⟨_, rfl, k1⟩)
theorem okTableNth (T : Txt K mg a) : FnOk P w K mg base CX0 8 a.fTableNth a.gTableNth ["self", "many"] (spTNth a) := by
 refine T.dTableNth.fn.ok scTableNth (fun vs H Q E h => ?_) (fun cdv A outer s H vs Q E hr h => ?_)
 ·obtain ⟨_, _, _, _, rfl, _⟩ := h
  all_goals rfl
 ·obtain ⟨x, bs, rs, m, rfl, hx, ap, nn, hw, ho, h0, k⟩ := h
  refine ⟨_, (qi (ps_for PassesOwn.never rfl (pi_enum rfl T.n_enumerate (qc (pe_fld (pv 0) rfl) qj star_att)) (pg_tup rfl (pgs_cons (pg_name (i := 2) scTableNth.nd rfl (Or.inl rfl)) (pgs_cons (pg_name (i := 3) scTableNth.nd rfl (Or.inl rfl)) pgs_nil))) (qi (qv (i := 4) scTableNth.nd rfl (Or.inl rfl) (pe_meth (pv 0) T.c_Table T.t_dTableBefore (okTableBefore T) (hr.mono (by decide)) T.dTableBefore.bd .nil pass0 (qc (zp zq (pv 3) qk (fun _ _ => rfl)) qj zn)))
   (qi (zb (qu op_lt (pv 1) (pv 4) (nomark _)) (ql (qp (pe_meth (pe_fld (pv 0) rfl) T.c_Pattern T.t_dPatternNth (okPatternNth T) (hr.mono (by decide)) T.dPatternNth.bd .nil pass0 (qc (qx op_sub (pv 1) (zp zr (pe_fld (pv 0) rfl) (pv 2) (fun _ _ => rfl))) qj zm)))) pss_nil)
   (ql (zb (qu op_lt (pv 1) (pe_meth (pv 0) T.c_Table T.t_dTableBefore (okTableBefore T) (hr.mono (by decide)) T.dTableBefore.bd .nil pass0 (qc (qx op_add (zp zq (pv 3) qk (fun _ _ => rfl)) qk) qj zm)) (nomark _)) (ql (qp (qx op_sub (qx op_add (zp zq (pv 3) qk (fun _ _ => rfl)) (pv 1)) (pv 4)))) pss_nil)))))
   (ql (qp (pe_meth (pe_fld (pv 0) rfl) T.c_Pattern T.t_dPatternNth (okPatternNth T) (hr.mono (by decide)) T.dPatternNth.bd .nil pass0 (qc (qx op_sub (pv 1) (zp zr (pe_fld (pv 0) rfl) (pe_un un_neg qk) (fun _ _ => rfl))) qj zm))))), ?_⟩
  have hx0 := hx
  obtain ⟨dx, p, q, z, h1, hpt, ⟨us, hq, hu⟩, hz⟩ := hx
  have dis := ap_dis ap
  have lu := At.len hu
  have hpt0 := hpt
  obtain ⟨dp, a1, a2, a3, p1, _, _, _, hl⟩ := hpt
  have C := tcnt hl ap hw
  refine ⟨_, rfl, _, _, _, _, _, rfl, h1, T.c_Table, qq T.n_Table (by decide), rfl, _, _, rfl, hq, for_enum (K := K) (a := q) (xs := us) (fun i σ H' => Same H H' ∧ tbef bs rs (lo rs i) ≤ m ∧ ∃ v2 v3 v4 : Option V, σ = [some (.ref x), some (.int m), v2, v3, v4]) ⟨Same.refl H, by rw [show lo rs 0 = 0 from rfl, tb_zero nn ap.ok]; exact h0, none, none, none, rfl⟩ (fun i σ H' _ h => SqL.of (h.1 _ _ hq)) ?_ ?_⟩
  ·rintro i y t σ H' hy ⟨s0, b0, v2, v3, v4, rfl⟩ hn
   obtain ⟨b, t1, rfl, g1, g2⟩ := hu.get' hy
   obtain ⟨r, g3, rfl⟩ := map_get g1
   have hi : i < rs.length := (List.getElem?_eq_some_iff.mp g3).1
   have r0 := nn r (List.mem_of_getElem? g3)
   have rk := ap.ok r (List.mem_of_getElem? g3)
   have s1 := s0.trans (qy (o := .tup [V.int (i : Int), V.ref b]) hn)
   refine ⟨_, _, rfl, SqT.of qm, rfl, _, _, rfl, _, _, rfl, rfl, ?_⟩
   generalize upd H' t _ = H1 at s1 ⊢
   refine ⟨_, rfl, _, _, _, rfl, s1 _ _ h1, rfl, _, rfl, _, _, _, _, rfl, rfl, SqT.of (s1 _ _ g2), rfl, _, _, _, _, rfl, hx0.same s1, ap, nn, r0, fun H2 z2 => ?_⟩
   have s2 := s1.trans z2
   refine ⟨_, rfl, _, rfl, _, _, rfl, rfl, _, rfl, ite2 (fun c => ?_) (fun c => ?_)⟩
   ·have c' : m < tbef bs rs r.1 := of_decide_eq_true c
    obtain ⟨u0, u1⟩ := gap_use hl ap nn (Nat.le_of_lt hi) b0 fun s hs => Int.lt_of_lt_of_le c' (C.le r0 (drop_late dis g3 s hs))
    exact ⟨_, rfl, _, _, _, _, _, rfl, (s2 _ _ h1), T.c_Table, qq T.n_Table (by decide), rfl, _, _, _, rfl, s2 _ _ p1, rfl, _, rfl, _, rfl, _, _, _, _, _, rfl, (s2 _ _ h1), T.c_Table, qq T.n_Table (by decide), rfl, _, rfl, _, _, _, _, rfl, rfl, SqL.of (s2 _ _ hz), atI_nat (by rw [List.getElem?_map, shL_at bs rs (Nat.le_of_lt hi)]; rfl), _, _, rfl, rfl, _, _, _, rfl, hpt0.same s2, u0, ho, fun d d0 dF dM => k d H2 s2 d0 (u1 d d0 dF dM).1 (u1 d d0 dF dM).2⟩
   ·have c' : tbef bs rs r.1 ≤ m := Int.not_lt.mp fun z => c (decide_eq_true z)
    refine ⟨_, rfl, _, rfl, _, _, _, rfl, s2 _ _ h1, rfl, _, rfl, _, _, _, _, rfl, rfl, SqT.of (s2 _ _ g2), rfl, _, _, rfl, rfl, _, _, _, _, rfl, hx0.same s2, ap, nn, Int.le_add_one (Int.le_trans r0 rk), fun H3 z3 => ?_⟩
    have s3 := s2.trans z3
    refine ⟨_, _, rfl, rfl, _, rfl, ite2 (fun e => ?_) (fun e => ?_)⟩
    ·obtain ⟨u0, u1, u2⟩ := row_use ap g3 (hw r (List.mem_of_getElem? g3)) c' (of_decide_eq_true e)
     exact ⟨_, rfl, _, _, _, _, rfl, rfl, SqT.of (s3 _ _ g2), rfl, _, rfl, _, _, rfl, rfl, _, rfl, _, _, rfl, rfl, k _ H3 s3 (Int.le_trans r0 u0) u1 u2⟩
    ·exact ⟨s3, by rw [lo_next g3]; exact Int.not_lt.mp fun z => e (decide_eq_true z), _, _, _, rfl⟩
  ·rintro σ H' ⟨s0, b0, v2, v3, v4, rfl⟩
   rw [lu] at b0
   obtain ⟨u0, u1⟩ := gap_use hl ap nn (Nat.le_refl _) b0 fun s hs => by rw [List.drop_length] at hs; cases hs
   have el : (shL bs rs).map V.int = ((List.range rs.length).map fun k => V.int ((rs.take k).map fun r => shf bs r (r.2.1 + 1)).sum) ++ [V.int ((rs.take rs.length).map fun r => shf bs r (r.2.1 + 1)).sum] := by
    unfold shL
    rw [List.range_succ, List.map_append, List.map_append, List.map_map]
    rfl
   have hz' := s0 _ _ hz
   rw [el] at hz'
   exact ⟨_, rfl, _, _, _, _, _, rfl, (s0 _ _ h1), T.c_Table, qq T.n_Table (by decide), rfl, _, _, _, rfl, s0 _ _ p1, rfl, _, rfl, _, rfl, _, _, _, _, _, rfl, (s0 _ _ h1), T.c_Table, qq T.n_Table (by decide), rfl, _, rfl, _, _, _, _, rfl, rfl, SqL.of hz', atI_last _ _, _, _, rfl, rfl, _, _, _, rfl, hpt0.same s0, u0, ho, fun d d0 dF dM => k d H' s0 d0 (u1 d d0 dF dM).1 (u1 d d0 dF dM).2⟩
theorem okCourtDaysReach (T : Txt K mg a) : FnOk P w K mg base CX0 9 a.fCourtDaysReach a.gCourtDaysReach ["self", "first", "many"] (spCReach a) := by
 refine T.dCourtDaysReach.fn.ok scCourtDaysReach (fun vs H Q E h => ?_) (fun cdv A outer s H vs Q E hr h => ?_)
 ·obtain ⟨_, _, _, _, _, rfl, _⟩ := h
  all_goals rfl
 ·obtain ⟨x, bs, rs, f, m, rfl, ⟨dx, tb, hx, ht⟩, ok, h0, h1, k⟩ := h
  refine ⟨_, (ql (qp (pe_meth (pe_fld (pv 0) rfl) T.c_Table T.t_dTableNth (okTableNth T) (hr.mono (by decide)) T.dTableNth.bd .nil pass0 (qc (qx op_sub (qx op_add (pe_meth (pe_fld (pv 0) rfl) T.c_Table T.t_dTableBefore (okTableBefore T) (hr.mono (by decide)) T.dTableBefore.bd .nil pass0 (qc (pv 1) qj qg)) (pv 2)) qk) qj zm)))), ?_⟩
  obtain ⟨_, _, _, _, i2⟩ := ht.ins
  have t0 := (tcnt ok.hl ok.ap ok.wd).le (n := 0) (m := f) (Int.le_refl _) h0
  rw [tb_zero ok.nn ok.ap.ok] at t0
  refine ⟨_, rfl, _, _, _, _, _, rfl, hx, T.c_CourtDays, qq T.n_CourtDays (by decide), rfl, _, _, _, rfl, i2, rfl, _, rfl, _, _, _, _, _, rfl, hx, T.c_CourtDays, qq T.n_CourtDays (by decide), rfl, _, _, _, rfl, i2, rfl, _, rfl, _, _, _, _, rfl, ht, ok.ap, ok.nn, h0, fun H1 s1 => ⟨_, rfl, _, _, rfl, rfl, _, _, rfl, rfl, _, _, _, _, rfl, ht.same s1, ok.ap, ok.nn, ok.wd, ok.op, by omega, fun d H2 s2 d0 dF dM => k d H2 (s1.trans s2) d0 dF dM⟩⟩
theorem okCountingCountedIn (T : Txt K mg a) : FnOk P w K mg base CX0 1 a.fCountingCountedIn a.gCountingCountedIn ["self", "first", "last"] (spKTwo fun f l => .int (if l - f + 1 > 0 then l - f + 1 else 0)) := by
 refine T.dCountingCountedIn.fn.ok scCountingCountedIn (fun vs H Q E h => ?_) (fun cdv A outer s H vs Q E hr h => ?_)
 ·obtain ⟨_, _, _, rfl, _⟩ := h
  all_goals rfl
 ·obtain ⟨x, u, v, rfl, k⟩ := h
  refine ⟨_, (ql (qp (zd (call_max2 rfl) (by rfl) T.n_max boot_max (qc qk (qc (qx op_add (qx op_sub (pv 2) (pv 1)) qk) qj zm) qo)))), ?_⟩
  exact ⟨_, rfl, _, rfl, _, _, rfl, rfl, _, _, rfl, rfl, _, _, rfl, k⟩
theorem okCourtDaysCountedIn (T : Txt K mg a) : FnOk P w K mg base CX0 8 a.fCourtDaysCountedIn a.gCourtDaysCountedIn ["self", "first", "last"] (spCIn a) := by
 refine T.dCourtDaysCountedIn.fn.ok scCourtDaysCountedIn (fun vs H Q E h => ?_) (fun cdv A outer s H vs Q E hr h => ?_)
 ·obtain ⟨_, _, _, _, _, rfl, _⟩ := h
  all_goals rfl
 ·obtain ⟨x, bs, rs, f, l, rfl, ⟨dx, tb, hx, ht⟩, ok, h0, k⟩ := h
  refine ⟨_, (qi (zb (qu op_lt (pv 2) (pv 1) (nomark _)) (ql (qp qk)) pss_nil)
   (ql (qp (qx op_sub (pe_meth (pe_fld (pv 0) rfl) T.c_Table T.t_dTableBefore (okTableBefore T) (hr.mono (by decide)) T.dTableBefore.bd .nil pass0 (qc (qx op_add (pv 2) qk) qj zm)) (pe_meth (pe_fld (pv 0) rfl) T.c_Table T.t_dTableBefore (okTableBefore T) (hr.mono (by decide)) T.dTableBefore.bd .nil pass0 (qc (pv 1) qj qg)))))), ?_⟩
  obtain ⟨_, _, _, _, i2⟩ := ht.ins
  refine ⟨_, rfl, _, rfl, _, _, rfl, rfl, _, rfl, ite2 (fun c => ?_) (fun c => ?_)⟩
  ·have kk := k H (Same.refl H)
   rw [if_pos (of_decide_eq_true c)] at kk
   exact kk
  ·have c' : ¬ l < f := fun z => c (decide_eq_true z)
   refine ⟨_, rfl, _, _, _, _, _, rfl, hx, T.c_CourtDays, qq T.n_CourtDays (by decide), rfl, _, _, _, rfl, i2, rfl, _, rfl, _, _, rfl, rfl, _, _, _, _, rfl, ht, ok.ap, ok.nn, by omega, fun H1 s1 => ⟨_, rfl, _, _, _, _, _, rfl, (s1 _ _ hx), T.c_CourtDays, qq T.n_CourtDays (by decide), rfl, _, _, _, rfl, s1 _ _ i2, rfl, _, rfl, _, _, _, _, rfl, ht.same s1, ok.ap, ok.nn, h0, fun H2 s2 => ⟨_, _, rfl, rfl, ?_⟩⟩⟩
   have kk := k H2 (s1.trans s2)
   rw [if_neg c'] at kk
   exact kk
theorem okFullDay (T : Txt K mg a) : FnOk P w K mg base CX0 10 a.fFullDay a.gFullDay ["kind", "start", "units", "pauses"] (spFullD a) := by
 refine T.dFullDay.fn.ok scFullDay (fun vs H Q E h => ?_) (fun cdv A outer s H vs Q E hr h => ?_)
 ·obtain ⟨_, _, _, _, _, _, _, _, rfl, _⟩ := h
  all_goals rfl
 ·obtain ⟨x, pq, i, st, u, bs, rs, ps, rfl, hk, tok, hq, ok, s0, u1, k⟩ := h
  refine ⟨_, (qi (qv (i := 4) scFullDay.nd rfl (Or.inl rfl) (pe_methF (ι := Three) (C := (sel3 a.cCounting a.cWeeks a.cCourtDays)) (f := (sel3 a.fCountingDaysFor a.fWeeksDaysFor a.fCountingDaysFor)) (fd := (sel3 a.gCountingDaysFor a.gWeeksDaysFor a.gCountingDaysFor)) (ps := (sel3 (["self", "units"] : List Str) (["self", "units"] : List Str) (["self", "units"] : List Str))) (sp := (sel3 (spKOne fun u => .int u) (spKOne fun u => .int (7 * u)) (spKOne fun u => .int u))) (k := (sel3 1 1 1)) (pv 0) (all3 T.c_Counting T.c_Weeks T.c_CourtDays) (all3 T.ti_Counting_days_for T.ti_Weeks_days_for T.ti_CourtDays_days_for) (all3 (okCountingDaysFor T) (okWeeksDaysFor T) (okCountingDaysFor T)) (all3 (hr.mono (by decide)) (hr.mono (by decide)) (hr.mono (by decide))) (all3 T.dCountingDaysFor.bd T.dWeeksDaysFor.bd T.dCountingDaysFor.bd) .nil pass0 (qc (pv 2) qj qg)))
   (qi (qv (i := 5) scFullDay.nd rfl (Or.inl rfl) (qx op_add (pv 1) qk))
   (qi (ps_for PassesOwn.never rfl (pi_list (pv 3)) (pg_tup rfl (pgs_cons (pg_name (i := 6) scFullDay.nd rfl (Or.inl rfl)) (pgs_cons (pg_name (i := 7) scFullDay.nd rfl (Or.inl rfl)) pgs_nil))) (qi (qv (i := 8) scFullDay.nd rfl (Or.inl rfl) (pe_methF (ι := Three) (C := (sel3 a.cCounting a.cWeeks a.cCourtDays)) (f := (sel3 a.fCountingCountedIn a.fCountingCountedIn a.fCourtDaysCountedIn)) (fd := (sel3 a.gCountingCountedIn a.gCountingCountedIn a.gCourtDaysCountedIn)) (ps := (sel3 (["self", "first", "last"] : List Str) (["self", "first", "last"] : List Str) (["self", "first", "last"] : List Str))) (sp := (sel3 (spKTwo fun f l => .int (if l - f + 1 > 0 then l - f + 1 else 0)) (spKTwo fun f l => .int (if l - f + 1 > 0 then l - f + 1 else 0)) (spCIn a))) (k := (sel3 1 1 8)) (pv 0) (all3 T.c_Counting T.c_Weeks T.c_CourtDays) (all3 T.ti_Counting_counted_in T.ti_Weeks_counted_in T.ti_CourtDays_counted_in) (all3 (okCountingCountedIn T) (okCountingCountedIn T) (okCourtDaysCountedIn T)) (all3 (hr.mono (by decide)) (hr.mono (by decide)) (hr.mono (by decide))) (all3 T.dCountingCountedIn.bd T.dCountingCountedIn.bd T.dCourtDaysCountedIn.bd) .nil pass0 (qc (pv 5) (qc (qx op_sub (pv 6) qk) qj zm) qg)))
   (qi (zb (qu op_ge (pv 8) (pv 4) (nomark _)) (ql ps_break) pss_nil)
   (qi (zb (qu op_isN (pv 7) pe_non (nomark _)) (ql (qp pe_non)) pss_nil)
   (qi (ps_aug (i := 4) scFullDay.nd rfl (Or.inl rfl) (pv 8) ip_sub)
   (ql (qv (i := 5) scFullDay.nd rfl (Or.inl rfl) (zd (call_max2 rfl) (by rfl) T.n_max boot_max (qc (pv 5) (qc (qx op_add (pv 7) qk) qj zm) qg)))))))))
   (ql (qp (pe_methF (ι := Three) (C := (sel3 a.cCounting a.cWeeks a.cCourtDays)) (f := (sel3 a.fCountingReach a.fCountingReach a.fCourtDaysReach)) (fd := (sel3 a.gCountingReach a.gCountingReach a.gCourtDaysReach)) (ps := (sel3 (["self", "first", "many"] : List Str) (["self", "first", "many"] : List Str) (["self", "first", "many"] : List Str))) (sp := (sel3 (spKTwo fun f m => .int (f + m - 1)) (spKTwo fun f m => .int (f + m - 1)) (spCReach a))) (k := (sel3 1 1 9)) (pv 0) (all3 T.c_Counting T.c_Weeks T.c_CourtDays) (all3 T.ti_Counting_reach T.ti_Weeks_reach T.ti_CourtDays_reach) (all3 (okCountingReach T) (okCountingReach T) (okCourtDaysReach T)) (all3 (hr.mono (by decide)) (hr.mono (by decide)) (hr.mono (by decide))) (all3 T.dCountingReach.bd T.dCountingReach.bd T.dCourtDaysReach.bd) .nil pass0 (qc (pv 5) (qc (pv 4) qj qg) qg))))))), ?_⟩
  obtain ⟨dx, tb, hx, ht⟩ := id hk
  obtain ⟨us, hq1, ty⟩ := hq
  have CT := kcnt tok i
  have m1 := sel3_pos u1 i
  have lu : us.length = ps.length := by rw [ty.length, List.length_map]
  refine ⟨_, rfl, i, x, dx, _, rfl, hx, rfl, _, rfl, kfor ⟨_, rfl, _, _, rfl, rfl, _, rfl, ?_⟩⟩
  refine ⟨_, rfl, ⟨_, SqL.of hq1⟩, for_list (K := K) (a := pq) (xs := us) (fun j σ H' => Same H H' ∧ ∃ (b L : Int) (v6 v7 v8 : Option V), σ = [some (.ref x), some (.int st), some (.int u), some (.ref pq), some (.int L), some (.int b), v6, v7, v8] ∧ Go (kf bs rs i) ps st (sel3 u (7 * u) u i) j b L)
   ⟨Same.refl H, _, _, none, none, none, rfl, go_zero m1⟩ (fun j σ H' _ h => SqL.of (h.1 _ _ hq1)) ?_ ?_⟩
  ·rintro j v σ H' hx' ⟨s1, b, L, v6, v7, v8, rfl, go⟩
   obtain ⟨c, t, rfl, h1, h2⟩ := ty.get' hx'
   obtain ⟨⟨F, o⟩, h3, rfl⟩ := map_getQ h1
   have h2 := s1 _ _ h2
   have hb := go.hb
   refine ⟨_, _, rfl, SqT.of h2, rfl, _, _, rfl, _, _, rfl, rfl, ?_⟩
   refine ⟨_, rfl, i, x, dx, _, rfl, s1 _ _ hx, rfl, _, rfl, _, rfl, _, _, rfl, rfl, kin (hk.same s1) tok (by omega) fun H2 s2 => ?_⟩
   have z2 := s1.trans s2
   refine ⟨_, rfl, _, rfl, _, _, rfl, rfl, _, rfl, ite2 (fun c => ?_) (fun c => ?_)⟩
   ·have fin := go_fin CT s0 ok go h3 (of_decide_eq_true c)
    exact ⟨_, rfl, i, x, dx, _, rfl, z2 _ _ hx, rfl, _, rfl, _, rfl, kreach (hk.same z2) tok (by have := fin.hb; omega) fin.hL fun d H3 s3 d0 dF dM => k H3 (some d) (z2.trans s3) (full_fin CT s0 fin d0 dF dM)⟩
   ·have c' : cin (kb bs rs i) b (F - 1) < L := Int.not_le.mp fun z => c (decide_eq_true z)
    cases o with
    | none => exact ⟨_, rfl, rfl, _, rfl, iteD rfl (k _ none z2 (go_none CT s0 ok go h3 c'))⟩
    | some e => exact ⟨_, rfl, rfl, _, rfl, iteDn (fun z => nomatch z) ⟨_, rfl, _, rfl, _, _, rfl, rfl, _, rfl, _, rfl, _, _, rfl, rfl, _, _, rfl, z2, _, _, _, _, _, rfl, go_next CT s0 ok go h3 c'⟩⟩
  ·rintro σ H' ⟨s1, b, L, v6, v7, v8, rfl, go⟩
   rw [lu] at go
   have fin := go_end (f := kb bs rs i) go
   exact ⟨_, rfl, i, x, dx, _, rfl, s1 _ _ hx, rfl, _, rfl, _, rfl, kreach (hk.same s1) tok (by have := fin.hb; omega) fin.hL fun d H3 s3 d0 dF dM => k H3 (some d) (s1.trans s3) (full_fin CT s0 fin d0 dF dM)⟩
theorem okTableNextOpen (T : Txt K mg a) : FnOk P w K mg base CX0 9 a.fTableNextOpen a.gTableNextOpen ["self", "day"] (spTNext a) := by
 refine T.dTableNextOpen.fn.ok scTableNextOpen (fun vs H Q E h => ?_) (fun cdv A outer s H vs Q E hr h => ?_)
 ·obtain ⟨_, _, _, _, rfl, _⟩ := h
  all_goals rfl
 ·obtain ⟨x, bs, rs, n, rfl, hx, ap, nn, hw, ho, h0, k⟩ := h
  refine ⟨_, (ql (qp (pe_meth (pv 0) T.c_Table T.t_dTableNth (okTableNth T) (hr.mono (by decide)) T.dTableNth.bd .nil pass0 (qc (pe_meth (pv 0) T.c_Table T.t_dTableBefore (okTableBefore T) (hr.mono (by decide)) T.dTableBefore.bd .nil pass0 (qc (pv 1) qj qg)) qj zl)))), ?_⟩
  have hx0 := hx
  obtain ⟨dx, p, q, z, h1, _⟩ := hx
  refine ⟨_, rfl, _, _, _, rfl, h1, rfl, _, rfl, _, _, _, rfl, h1, rfl, _, rfl, _, _, _, _, rfl, hx0, ap, nn, h0, fun H1 s1 => ?_⟩
  obtain ⟨dp, a1, a2, a3, p1, p2, p3, p4, hl⟩ : ∃ dp a1 a2 a3, H p = some (.ins a.cPattern dp (pfs a1 a2 a3)) ∧ H a1 = some (.lst (bs.map V.bl)) ∧ H a2 = some (.lst ((odL bs).map V.int)) ∧ H a3 = some (.lst ((cuL bs).map V.int)) ∧ bs.length = 371 := by
   obtain ⟨_, p', _, _, y1, y2, _⟩ := hx0
   rw [h1] at y1
   injection y1 with y1
   injection y1 with _ _ y1
   injection y1 with y1 _
   injection y1 with _ y1
   injection y1 with y1
   subst y1
   exact y2
  have t0 := (tcnt hl ap hw).le (n := 0) (m := n) (Int.le_refl _) h0
  rw [tb_zero nn ap.ok] at t0
  exact ⟨_, _, _, _, rfl, hx0.same s1, ap, nn, hw, ho, t0, fun d H2 s2 d0 dF dM => k d H2 (s1.trans s2) d0 dF dM⟩
theorem okFirstDue (T : Txt K mg a) : FnOk P w K mg base CX0 10 a.fFirstDue a.gFirstDue ["table", "day", "pauses"] (spFDue a) := by
 refine T.dFirstDue.fn.ok scFirstDue (fun vs H Q E h => ?_) (fun cdv A outer s H vs Q E hr h => ?_)
 ·obtain ⟨_, _, _, _, _, _, rfl, _⟩ := h
  all_goals rfl
 ·obtain ⟨tb, pq, d, bs, rs, ps, rfl, ht, tok, hq, ok, d0, k⟩ := h
  refine ⟨_, (qi (qv (i := 3) scFirstDue.nd rfl (Or.inl rfl) (pe_meth (pv 0) T.c_Table T.t_dTableNextOpen (okTableNextOpen T) (hr.mono (by decide)) T.dTableNextOpen.bd .nil pass0 (qc (pv 1) qj qg)))
   (qi (ps_for PassesOwn.never rfl (pi_list (pv 2)) (pg_tup rfl (pgs_cons (pg_name (i := 4) scFirstDue.nd rfl (Or.inl rfl)) (pgs_cons (pg_name (i := 5) scFirstDue.nd rfl (Or.inl rfl)) pgs_nil))) (qi (zb (qu op_lt (pv 3) (pv 4) (nomark _)) (ql ps_break) pss_nil)
   (qi (zb (qu op_isN (pv 5) pe_non (nomark _)) (ql (qp pe_non)) pss_nil)
   (ql (zb (qu op_le (pv 3) (pv 5) (nomark _)) (ql (qv (i := 3) scFirstDue.nd rfl (Or.inl rfl) (pe_meth (pv 0) T.c_Table T.t_dTableNextOpen (okTableNextOpen T) (hr.mono (by decide)) T.dTableNextOpen.bd .nil pass0 (qc (qx op_add (pv 5) qk) qj zm)))) pss_nil)))))
   (ql (qp (pv 3))))), ?_⟩
  obtain ⟨_, _, _, _, i2⟩ := ht.ins
  obtain ⟨us, h0, ty⟩ := hq
  have CT := tcnt tok.hl tok.ap tok.wd
  have lu : us.length = ps.length := by rw [ty.length, List.length_map]
  refine ⟨_, rfl, _, _, _, rfl, i2, rfl, _, rfl, _, _, _, _, rfl, ht, tok.ap, tok.nn, tok.wd, tok.op, d0, fun t H1 s1 t0 tF tM => ?_⟩
  refine ⟨_, rfl, _, rfl, ⟨_, SqL.of (s1 _ _ h0)⟩, for_list (K := K) (a := pq) (xs := us) (fun j σ H' => Same H H' ∧ ∃ (t : Int) (v4 v5 : Option V), σ = [some (.ref tb), some (.int d), some (.ref pq), some (.int t), v4, v5] ∧ Gd (tfr bs rs) ps d j t)
   ⟨s1, t, none, none, rfl, gd_zero CT d0 t0 tF tM⟩ (fun j σ H' _ h => SqL.of (h.1 _ _ h0)) ?_ ?_⟩
  ·clear t0 tF tM
   rintro j v σ H' hx' ⟨s1, t, v4, v5, rfl, gd⟩
   obtain ⟨c, t, rfl, h1, h2⟩ := ty.get' hx'
   obtain ⟨⟨F, o⟩, h3, rfl⟩ := map_getQ h1
   have h2 := s1 _ _ h2
   have hf := gd.hf
   refine ⟨_, _, rfl, SqT.of h2, rfl, _, _, rfl, _, _, rfl, rfl, ?_⟩
   refine ⟨_, rfl, _, rfl, _, _, rfl, rfl, _, rfl, ite2 (fun c => ?_) (fun c => ?_)⟩
   ·exact ⟨_, rfl, k _ (some _) s1 (gd_not ok gd h3 (of_decide_eq_true c))⟩
   ·have c' : F ≤ _ := Int.not_lt.mp fun z => c (decide_eq_true z)
    cases o with
    | none => exact ⟨_, rfl, rfl, _, rfl, iteD rfl (k _ none s1 (gd_none gd h3 c'))⟩
    | some e =>
     have e0 := (ok.ok _ (List.mem_of_getElem? h3)).2 e rfl
     refine ⟨_, rfl, rfl, _, rfl, iteDn (fun z => nomatch z) ⟨_, rfl, _, rfl, _, _, rfl, rfl, _, rfl, ite2 (fun c2 => ?_) (fun c2 => ?_)⟩⟩
     ·have c2 := of_decide_eq_true c2
      exact ⟨_, rfl, _, _, _, rfl, s1 _ _ i2, rfl, _, rfl, _, _, rfl, rfl, _, _, _, _, rfl, ht.same s1, tok.ap, tok.nn, tok.wd, tok.op, by omega, fun t' H2 s2 t0 tF tM => ⟨s1.trans s2, _, _, _, rfl, gd_leap CT d0 gd h3 c' c2 t0 tF tM⟩⟩
     ·exact ⟨s1, _, _, _, rfl, gd_over gd h3 (Int.not_le.mp fun z => c2 (decide_eq_true z))⟩
  ·rintro σ H' ⟨s1, t, v4, v5, rfl, gd⟩
   rw [lu] at gd
   exact ⟨_, rfl, k _ (some t) s1 (gd_end gd)⟩
theorem okLastDay (T : Txt K mg a) : FnOk P w K mg base CX0 11 a.fLastDay a.gLastDay ["kind", "start", "units", "pauses"] (spLastD a) := by
 refine T.dLastDay.fn.ok scLastDay (fun vs H Q E h => ?_) (fun cdv A outer s H vs Q E hr h => ?_)
 ·obtain ⟨_, _, _, _, _, _, _, _, rfl, _⟩ := h
  all_goals rfl
 ·obtain ⟨x, pq, i, st, u, bs, rs, ps, rfl, hk, tok, hq, ok, s0, u1, k⟩ := h
  refine ⟨_, (qi (qv (i := 4) scLastDay.nd rfl (Or.inl rfl) (zc (okFullDay T) (hr.mono (by decide)) rfl T.dFullDay.mgx T.dFullDay.fn.kp T.dFullDay.bd .nil pass0 (qc (pv 0) (qc (pv 1) (qc (pv 2) (qc (pv 3) qj qg) qg) qg) qg)))
   (qi (zb (qu op_isN (pv 4) pe_non (nomark _)) (ql (qp pe_non)) pss_nil)
   (ql (qp (zc (okFirstDue T) (hr.mono (by decide)) rfl T.dFirstDue.mgx T.dFirstDue.fn.kp T.dFirstDue.bd .nil pass0 (qc (pe_fld (pv 0) rfl) (qc (pv 4) (qc (pv 3) qj qg) qg) star_att)))))), ?_⟩
  obtain ⟨dx, tb, hx, ht⟩ := id hk
  refine ⟨_, rfl, _, rfl, _, rfl, _, rfl, x, pq, i, st, u, bs, rs, ps, rfl, hk, tok, hq, ok, s0, u1, fun H1 fr s1 full => ?_⟩
  cases fr with
  | none => exact ⟨_, rfl, rfl, _, rfl, iteD rfl (k _ none s1 (.inl ⟨full, rfl⟩))⟩
  | some f =>
   have f0 := full.1
   exact ⟨_, rfl, rfl, _, rfl, iteDn (fun z => nomatch z) ⟨_, rfl, _, _, _, _, _, rfl, s1 _ _ hx, all3 (p := fun i => Cls K (kC a i)) T.c_Counting T.c_Weeks T.c_CourtDays i, all3 (p := fun i => NoAttr K (kC a i) (Str.ofString "table")) (qq T.n_Counting (by decide)) (qq T.n_Weeks (by decide)) (qq T.n_CourtDays (by decide)) i, rfl, _, rfl, _, rfl, tb, pq, f, bs, rs, ps, rfl, ht.same s1, tok, hq.same s1, ok, by omega, fun H2 r s2 due => k _ r (s1.trans s2) (.inr ⟨f, full, due⟩)⟩⟩
theorem okIsFreeWithin (T : Txt K mg a) : FnOk P w K mg base CX0 1 a.fIsFreeWithin a.gIsFreeWithin ["within", "week", "yearly"] spFyw := by
 refine T.dIsFreeWithin.fn.ok scIsFreeWithin (fun vs H Q E h => ?_) (fun cdv A outer s H vs Q E hr h => ?_)
 ·obtain ⟨_, _, _, _, _, rfl, _⟩ := h
  all_goals rfl
 ·obtain ⟨i, pw, py, wk', yr, rfl, hw, ⟨us, hy, ty⟩, hl, k⟩ := h
  refine ⟨_, (ql (qp (pe_or (pe_cmpR op_in_seq (qx op_add (qx op_mod (pv 0) qk) qk) (pv 1) (by with_unfolding_all rfl)) (pe_one (zd (call_anyB rfl) (by rfl) T.n_any boot_any (qc (pe_comp (N := ["first", "last", "within"]) (js := [none, none, some 0]) (XN := ["within", "week", "yearly"]) (xs := defScope sIsFreeWithin) rfl rfl rfl (by decide +kernel) (pi_list (pv 2)) (fun _ _ _ _ _ _ => (pg_tupC (K := K) rfl (n := 2) rfl (pgs_cons (pg_name (i := 0) (show List.Nodup (["first", "last", "within"] : List Str) from by decide +kernel) rfl (Or.inl rfl) (Or.inr rfl)) (pgs_cons (pg_name (i := 1) (show List.Nodup (["first", "last", "within"] : List Str) from by decide +kernel) rfl (Or.inl rfl) (Or.inr rfl)) pgs_nil)))) (fun _ _ _ _ _ _ => pts_nil) (fun _ _ _ _ _ _ => (pe_chain op_le op_le (pv 0) (pv 2) (pv 1)))) qj star_cmp)))))), ?_⟩
  refine ⟨_, rfl, _, _, rfl, rfl, (pos (by decide)), _, _, rfl, rfl, _, rfl, _, _, rfl, .inl (SqL.of hw), rfl, flat_ints _, _, rfl, ?_⟩
  show if inV (.int (i % 7 + 1)) (wk'.map V.int) = true then _ else _
  rw [inV_ints]
  have k0 := fun H' s => k H' s
  unfold fy at k0
  cases ew : wk'.contains (i % 7 + 1) with
  | true =>
   rw [ew, Bool.true_or] at k0
   exact iteT (k0 _ (Same.refl H))
  | false =>
   rw [ew] at k0
   have lu : us.length = yr.length := by rw [ty.length, List.length_map]
   refine iteF ⟨_, rfl, _, rfl, ⟨_, SqL.of hy⟩, ?_⟩
   let f : V → V := fun v => match v with
    | .ref b => match H b with
     | some (.tup [.int x, .int y]) => .bl (decide (x ≤ i) && decide (i ≤ y))
     | _ => .non
    | _ => .non
   refine comp_grow f (fun σ' => ∃ v1 v2, σ' = [v1, v2, some (.int i)]) (feeds_list (SqL.of hy)) (fits (by omega)) ⟨none, none, rfl⟩ (fun v σ' H' RR hv sm s1 q => ?_) (gk_tup fun xs σ' H' RR RR' h z => ?_) fun p2 H2 hp2 s2 e2 => ?_
   ·obtain ⟨v1, v2, rfl⟩ := s1
    obtain ⟨j, hj⟩ := List.getElem?_of_mem hv
    obtain ⟨b, t, rfl, g1, g2⟩ := ty.get' hj
    obtain ⟨r, _, rfl⟩ := map_getP g1
    have ef : f (.ref b) = .bl (decide (r.1 ≤ i) && decide (i ≤ r.2)) := by show (match H b with | some (.tup [.int x, .int y]) => V.bl (decide (x ≤ i) && decide (i ≤ y)) | _ => .non) = _; rw [g2]; rfl
    have q := q [some (.int r.1), some (.int r.2), some (.int i)] H' ⟨_, _, rfl⟩ (Same.refl H')
    rw [ef] at q
    refine ⟨_, _, rfl, SqT.of (sm _ _ g2), rfl, _, _, rfl, _, _, rfl, rfl, _, rfl, _, rfl, _, _, rfl, rfl, _, rfl, ?_⟩
    by_cases c1 : r.1 ≤ i
    ·rw [decide_eq_true c1, Bool.true_and] at q
     exact iteD c1 ⟨_, rfl, _, _, rfl, rfl, q⟩
    ·rw [decide_eq_false c1, Bool.false_and] at q
     exact iteDn c1 q
   ·obtain ⟨x1, y1, e1, x2, y2, e2, z⟩ := z
    exact ⟨x1, y1, e1, x2, y2, e2, ⟨z.1, h _ _ z.2⟩⟩
   have em : us.map f = (yr.map fun r => decide (r.1 ≤ i) && decide (i ≤ r.2)).map V.bl := by
    rw [List.map_map]
    exact tups_map (g := f) ty fun b r hb => by show (match H b with | some (.tup [.int x, .int y]) => V.bl (decide (x ≤ i) && decide (i ≤ y)) | _ => .non) = _; rw [hb]; rfl
   refine ⟨p2, yr.map fun r => decide (r.1 ≤ i) && decide (i ≤ r.2), rfl, SqL.of (by rw [e2, em]), ?_⟩
   show Q (.bl ((yr.map fun r => decide (r.1 ≤ i) && decide (i ≤ r.2)).any fun b => b)) _
   rw [List.any_map]
   exact k0 _ s2
theorem okCountedUp (T : Txt K mg a) : FnOk P w K mg base CX0 1 a.fCountedUp a.gCountedUp ["free_days"] spCu := by
 refine T.dCountedUp.fn.ok scCountedUp (fun vs H Q E h => ?_) (fun cdv A outer s H vs Q E hr h => ?_)
 ·obtain ⟨_, _, rfl, _⟩ := h
  all_goals rfl
 ·obtain ⟨p, bs, rfl, hp, hl, k⟩ := h
  refine ⟨_, (qi (qv (i := 1) scCountedUp.nd rfl (Or.inl rfl) (zh (qc qk qj qo)))
   (qi (ps_for PassesOwn.never rfl (pi_list (pv 0)) (pg_name (i := 2) scCountedUp.nd rfl (Or.inl rfl)) (ql (qz (pe_bm PySem.F.plainAttrs_list PySem.F.slot_list_append PySem.F.type_list_append mt_append (pv 1) (qc (pe_ifExp (zf (pv 2)) (zp zr (pv 1) (pe_un un_neg qk) (fun _ _ => rfl)) (qx op_add (zp zr (pv 1) (pe_un un_neg qk) (fun _ _ => rfl)) qk)) qj star_ife)))))
   (ql (qp (pv 1))))), ?_⟩
  refine ⟨fits (by show 1 ≤ 100000; decide), fun q hq => ?_⟩
  have s1 := qy (o := .lst [V.int 0]) hq
  refine ⟨_, rfl, _, rfl, ⟨_, SqL.of (s1 _ _ hp)⟩, for_list (K := K) (a := p) (xs := bs.map V.bl) (fun i σ H' => Same H H' ∧ H' q = some (.lst (((List.range (i + 1)).map fun k => opn bs k).map V.int)) ∧ ∃ v : Option V, σ = [some (.ref p), some (.ref q), v])
   ⟨s1, qm, none, rfl⟩ (fun i σ H' _ h => SqL.of (h.1 _ _ hp)) ?_ ?_⟩
  ·rintro i x σ H' hx ⟨s0, h0, v, rfl⟩
   rw [List.getElem?_map] at hx
   cases ex : bs[i]? with
   | none => rw [ex] at hx; cases hx
   | some b =>
    rw [ex] at hx
    cases hx
    have hi : i < bs.length := (List.getElem?_eq_some_iff.mp ex).1
    have eL : ∀ m, ((List.range (m + 1)).map fun k => opn bs k).map V.int = ((List.range m).map fun k => opn bs k).map V.int ++ [V.int (opn bs m)] := fun m => by
     rw [List.range_succ, List.map_append, List.map_append]; rfl
    have hl2 : (((List.range (i + 1)).map fun k => opn bs k).map V.int).length ≤ 90000 := by rw [List.length_map, List.length_map, List.length_range]; omega
    have h1 := h0
    rw [eL] at h1
    have fin : ∀ z, z = opn bs (i + 1) → Same H (upd H' q (.lst (((List.range (i + 1)).map fun k => opn bs k).map V.int ++ [V.int z]))) ∧ upd H' q (.lst (((List.range (i + 1)).map fun k => opn bs k).map V.int ++ [V.int z])) q = some (.lst (((List.range (i + 1 + 1)).map fun k => opn bs k).map V.int)) ∧ True := fun z ez => by
     subst ez
     exact ⟨same_add s0 hq, by rw [qm, eL (i + 1)], trivial⟩
    refine ⟨_, rfl, .inl ⟨rfl, _, SqL.of h0⟩, _, rfl, _, rfl, ?_⟩
    cases b with
    | true =>
     obtain ⟨f1, f2, _⟩ := fin (opn bs i) (by rw [opn_succ ex]; rfl)
     exact iteT ⟨_, rfl, _, rfl, _, _, _, _, rfl, rfl, SqL.of h1, atI_last _ _, _, _, _, rfl, rfl, h0, lt1000 hl2, f1, f2, _, rfl⟩
    | false =>
     obtain ⟨f1, f2, _⟩ := fin (opn bs i + 1) (by rw [opn_succ ex]; rfl)
     exact iteF ⟨_, rfl, _, rfl, _, _, _, _, rfl, rfl, SqL.of h1, atI_last _ _, _, _, rfl, rfl, _, _, _, rfl, rfl, h0, lt1000 hl2, f1, f2, _, rfl⟩
  ·rintro σ H' ⟨s0, h0, v, rfl⟩
   rw [List.length_map] at h0
   exact ⟨_, rfl, k q H' hq s0 h0⟩
theorem okIsWeekday (T : Txt K mg a) : FnOk P w K mg base CX0 2 a.fIsWeekday a.gIsWeekday ["thing"] spWd := by
 refine T.dIsWeekday.fn.ok scIsWeekday (fun vs H Q E h => ?_) (fun cdv A outer s H vs Q E hr h => ?_)
 ·obtain ⟨_, rfl, _⟩ := h
  all_goals rfl
 ·obtain ⟨n, rfl, h1, h2, k⟩ := h
  refine ⟨_, (ql (qp (pe_and (zc (okIsWhole T) (hr.mono (by decide)) rfl T.dIsWhole.mgx T.dIsWhole.fn.kp T.dIsWhole.bd .nil pass0 (qc (pv 0) qj qg)) (pe_one (pe_chain op_le op_le qk (pv 0) qk))))), ?_⟩
  refine ⟨_, rfl, _, rfl, _, rfl, iteT ⟨_, rfl, _, _, rfl, rfl, _, rfl, iteD h1 ⟨_, _, rfl, rfl, ?_⟩⟩⟩
  show Q (.bl (decide (n ≤ 7))) H
  rw [decide_eq_true h2]
  exact k
theorem okRefuseWeek (T : Txt K mg a) : FnOk P w K mg base CX0 3 a.fRefuseWeek a.gRefuseWeek ["week"] spRefW := by
 refine T.dRefuseWeek.fn.ok scRefuseWeek (fun vs H Q E h => ?_) (fun cdv A outer s H vs Q E hr h => ?_)
 ·obtain ⟨_, _, rfl, _⟩ := h
  all_goals rfl
 ·obtain ⟨p, wk', rfl, hp, ok, k⟩ := h
  refine ⟨_, (ql (ps_for PassesOwn.never rfl (pi_enum rfl T.n_enumerate (qc (pv 0) qj qg)) (pg_tup rfl (pgs_cons (pg_name (i := 1) scRefuseWeek.nd rfl (Or.inl rfl)) (pgs_cons (pg_name (i := 2) scRefuseWeek.nd rfl (Or.inl rfl)) pgs_nil))) (ql (zb (PW.pt (pw_or (qu op_eq (pv 1) (pe_glob (v := .int 6) rfl T.g_MOST_WEEKDAYS.choose_spec ⟨_, rfl⟩) (nomark _)) (pw_or (pt_not (zf (zc (okIsWeekday T) (hr.mono (by decide)) rfl T.dIsWeekday.mgx T.dIsWeekday.fn.kp T.dIsWeekday.bd .nil pass0 (qc (pv 2) qj qg)))) (pw_or1 (qu op_in_seq (pv 2) (pe_slice sl_list (pv 0) po_none (po_some (pv 1))) (by with_unfolding_all rfl)))))) (ql ps_never) pss_nil)))), ?_⟩
  have hlen := ok.len
  refine ⟨_, rfl, _, _, rfl, hp, for_enum (K := K) (a := p) (xs := wk'.map V.int) (fun i σ H' => Same H H' ∧ ∃ v1 v2 : Option V, σ = [some (.ref p), v1, v2]) ⟨Same.refl H, none, none, rfl⟩ (fun i σ H' _ h => SqL.of (h.1 _ _ hp)) ?_ ?_⟩
  ·rintro i x t σ H' hx ⟨s0, v1, v2, rfl⟩ hn
   rw [List.getElem?_map] at hx
   cases ex : wk'[i]? with
   | none => rw [ex] at hx; cases hx
   | some n =>
    rw [ex] at hx
    cases hx
    have hi : i < wk'.length := (List.getElem?_eq_some_iff.mp ex).1
    have rg := ok.rng n (List.mem_of_getElem? ex)
    have s1 := qy (o := .tup [V.int (i : Int), V.int n]) hn
    refine ⟨_, _, rfl, SqT.of qm, rfl, _, _, rfl, _, _, rfl, rfl, ?_⟩
    refine ⟨_, rfl, rfl, _, rfl, iteDn (fun z => absurd (Int.ofNat.inj (V.int.inj z)) (Nat.ne_of_lt (Nat.lt_of_lt_of_le hi hlen))) ⟨_, rfl, _, rfl, rg.1, rg.2, _, rfl, iteF ⟨_, rfl, _, rfl, _, rfl, _, rfl, _, _, rfl, SqL.of (s1 _ _ (s0 _ _ hp)), fun q hq => ?_⟩⟩⟩
    rw [cut_take (wk'.map V.int) i (by rw [List.length_map]; exact Nat.le_of_lt hi), ← List.map_take]
    have s2 := qy (o := .lst ((wk'.take i).map V.int)) hq
    refine ⟨_, _, rfl, .inl (SqL.of qm), rfl, flat_ints _, _, rfl, ?_⟩
    show if inV (.int n) ((wk'.take i).map V.int) = true then _ else _
    rw [inV_ints, dup ok.nd ex]
    exact iteF ⟨(s0.trans s1).trans s2, _, _, rfl⟩
  ·rintro σ H' ⟨s0, v1, v2, rfl⟩
   exact k _ s0
theorem okIsYearly (T : Txt K mg a) : FnOk P w K mg base CX0 3 a.fIsYearly a.gIsYearly ["thing"] spYr := by
 refine T.dIsYearly.fn.ok scIsYearly (fun vs H Q E h => ?_) (fun cdv A outer s H vs Q E hr h => ?_)
 ·obtain ⟨_, _, rfl, _⟩ := h
  all_goals rfl
 ·obtain ⟨p, r, rfl, hp, h0, h1, h2, h3, k⟩ := h
  refine ⟨_, (qi (zb (pt_not (PW.pt (pw_and (zf (zd call_isi (by rfl) T.n_isinstance boot_isinstance (qc (pv 0) (qc (pe_bltn (v := .ty "tuple") rfl T.n_tuple boot_tuple rfl) qj qg) qg))) (pw_and1 (qu op_eq (zd call_len (by rfl) T.n_len boot_len (qc (pv 0) qj qg)) qk (nomark _)))))) (ql (qp pe_bl)) pss_nil)
   (ql (qp (pe_and (zc (okIsStretchOf T) (hr.mono (by decide)) rfl T.dIsStretchOf.mgx T.dIsStretchOf.fn.kp T.dIsStretchOf.bd .nil pass0 (qc (zp zq (pv 0) qk (fun _ _ => rfl)) (qc (zp zq (pv 0) qk (fun _ _ => rfl)) (qc (pe_glob (v := .int 30) rfl T.g_MOST_YEARLY_DAYS.choose_spec ⟨_, rfl⟩) qj qg) zn) zn)) (pe_one (pe_cmpR op_lt (zp zq (pv 0) qk (fun _ _ => rfl)) (pe_glob (v := .int 364) rfl T.g_SHORT_YEAR.choose_spec ⟨_, rfl⟩) (nomark _))))))), ?_⟩
  refine ⟨_, rfl, _, _, _, _, rfl, .tup hp, kit_tuple_tuple, _, rfl, iteT ⟨_, rfl, _, _, rfl, .inr ⟨_, SqT.of hp, rfl⟩, rfl, _, rfl, iteF ?_⟩⟩
  refine ⟨_, rfl, _, _, _, _, rfl, rfl, SqT.of hp, rfl, _, rfl, _, _, _, _, rfl, rfl, SqT.of hp, rfl, _, _, _, rfl, h0, h1, h2, _, rfl, iteT ⟨_, rfl, _, _, _, _, rfl, rfl, SqT.of hp, rfl, _, _, rfl, rfl, ?_⟩⟩
  show Q (.bl (decide (r.2 < 364))) H
  rw [decide_eq_true h3]
  exact k
theorem okRefuseYearly (T : Txt K mg a) : FnOk P w K mg base CX0 4 a.fRefuseYearly a.gRefuseYearly ["yearly"] spRefY := by
 refine T.dRefuseYearly.fn.ok scRefuseYearly (fun vs H Q E h => ?_) (fun cdv A outer s H vs Q E hr h => ?_)
 ·obtain ⟨_, _, rfl, _⟩ := h
  all_goals rfl
 ·obtain ⟨p, yr, rfl, ⟨us, hp, ht⟩, ok, k⟩ := h
  refine ⟨_, (ql (ps_for PassesOwn.never rfl (pi_enum rfl T.n_enumerate (qc (pv 0) qj qg)) (pg_tup rfl (pgs_cons (pg_name (i := 1) scRefuseYearly.nd rfl (Or.inl rfl)) (pgs_cons (pg_name (i := 2) scRefuseYearly.nd rfl (Or.inl rfl)) pgs_nil))) (ql (zb (PW.pt (pw_or (qu op_eq (pv 1) (pe_glob (v := .int 4) rfl T.g_MOST_YEARLY.choose_spec ⟨_, rfl⟩) (nomark _)) (pw_or1 (pt_not (zf (zc (okIsYearly T) (hr.mono (by decide)) rfl T.dIsYearly.mgx T.dIsYearly.fn.kp T.dIsYearly.bd .nil pass0 (qc (pv 2) qj qg))))))) (ql ps_never) pss_nil)))), ?_⟩
  have hlen := ok.len
  have lu : us.length = yr.length := by rw [ht.length, List.length_map]
  refine ⟨_, rfl, _, _, rfl, hp, for_enum (K := K) (a := p) (xs := us) (fun i σ H' => Same H H' ∧ ∃ v1 v2 : Option V, σ = [some (.ref p), v1, v2]) ⟨Same.refl H, none, none, rfl⟩ (fun i σ H' _ h => SqL.of (h.1 _ _ hp)) ?_ ?_⟩
  ·rintro i x t σ H' hx ⟨s0, v1, v2, rfl⟩ hn
   obtain ⟨a1, t1, rfl, g1, g2⟩ := ht.get' hx
   obtain ⟨r, g3, rfl⟩ := map_getP g1
   have hi : i < yr.length := (List.getElem?_eq_some_iff.mp g3).1
   have rg := ok.rng r (List.mem_of_getElem? g3)
   have s1 := qy (o := .tup [V.int (i : Int), V.ref a1]) hn
   refine ⟨_, _, rfl, SqT.of qm, rfl, _, _, rfl, _, _, rfl, rfl, ?_⟩
   exact ⟨_, rfl, rfl, _, rfl, iteDn (fun z => by have := V.int.inj z; omega) ⟨_, rfl, _, _, rfl, s1 _ _ (s0 _ _ g2), rg.1, rg.2.1, rg.2.2.1, rg.2.2.2, _, rfl, iteF ⟨s0.trans s1, _, _, rfl⟩⟩⟩
  ·rintro σ H' ⟨s0, v1, v2, rfl⟩
   exact k _ s0
theorem okListOrEmpty (T : Txt K mg a) : FnOk P w K mg base CX0 1 a.fListOrEmpty a.gListOrEmpty ["things"] spOr := by
 refine T.dListOrEmpty.fn.ok scListOrEmpty (fun vs H Q E h => ?_) (fun cdv A outer s H vs Q E hr h => ?_)
 ·obtain ⟨rfl, _⟩ | ⟨_, rfl, _⟩ := h
  all_goals rfl
 ·obtain h := h
  refine ⟨_, (ql (qp (pe_ifExp (qu op_isN (pv 0) pe_non (nomark _)) (zh qj) (pv 0)))), ?_⟩
  rcases h with ⟨rfl, k⟩ | ⟨p, rfl, k⟩
  ·exact ⟨_, rfl, rfl, _, rfl, iteD rfl ⟨fit0, fun q hq => k q hq⟩⟩
  ·exact ⟨_, rfl, rfl, _, rfl, iteDn (fun z => nomatch z) ⟨_, rfl, k⟩⟩
theorem okIsRow (T : Txt K mg a) : FnOk P w K mg base CX0 3 a.fIsRow a.gIsRow ["row"] spRw := by
 refine T.dIsRow.fn.ok scIsRow (fun vs H Q E h => ?_) (fun cdv A outer s H vs Q E hr h => ?_)
 ·obtain ⟨_, _, rfl, _⟩ := h
  all_goals rfl
 ·obtain ⟨p, r, rfl, hp, ok, k⟩ := h
  refine ⟨_, (ql (qp (pe_and (zc (okIsStretchOf T) (hr.mono (by decide)) rfl T.dIsStretchOf.mgx T.dIsStretchOf.fn.kp T.dIsStretchOf.bd .nil pass0 (qc (zp zq (pv 0) qk (fun _ _ => rfl)) (qc (zp zq (pv 0) qk (fun _ _ => rfl)) (qc (pe_glob (v := .int 40) rfl T.g_MOST_ROW_DAYS.choose_spec ⟨_, rfl⟩) qj qg) zn) zn)) (pe_and (zd call_isi (by rfl) T.n_isinstance boot_isinstance (qc (zp zq (pv 0) qk (fun _ _ => rfl)) (qc (pe_bltn (v := .ty "str") rfl T.n_str boot_str rfl) qj qg) zn)) (pe_one (pe_cmpR op_in_seq (zp zq (pv 0) qk (fun _ _ => rfl)) (pe_glob (v := .ref a.tWORDS) rfl T.g_WORDS rfl) (by with_unfolding_all rfl))))))), ?_⟩
  obtain ⟨h0, h1, h2, hw⟩ := ok
  refine ⟨_, rfl, _, _, _, _, rfl, rfl, SqT.of hp, rfl, _, rfl, _, _, _, _, rfl, rfl, SqT.of hp, rfl, _, _, _, rfl, h0, h1, h2, _, rfl, iteT ⟨_, rfl, _, _, _, _, rfl, rfl, SqT.of hp, rfl, _, _, _, _, rfl, .str _, kit_str_str, _, rfl, iteT ⟨_, rfl, _, _, _, _, rfl, rfl, SqT.of hp, rfl, _, _, rfl, .inr (T.s_WORDS _), rfl, rfl, ?_⟩⟩⟩
  have e : inV (.str r.2.2) [.str (Str.ofString "free"), .str (Str.ofString "open")] = true := by
   rcases hw with z | z <;> rw [z] <;> decide +kernel
  show Q (.bl (inV (.str r.2.2) [.str (Str.ofString "free"), .str (Str.ofString "open")])) H
  rw [e]
  exact k
theorem okRefuseRows (T : Txt K mg a) : FnOk P w K mg base CX0 4 a.fRefuseRows a.gRefuseRows ["rows"] spRefR := by
 refine T.dRefuseRows.fn.ok scRefuseRows (fun vs H Q E h => ?_) (fun cdv A outer s H vs Q E hr h => ?_)
 ·obtain ⟨_, _, rfl, _⟩ := h
  all_goals rfl
 ·obtain ⟨p, rs, rfl, ⟨us, hp, ht⟩, hl, ok, k⟩ := h
  refine ⟨_, (ql (ps_for PassesOwn.never rfl (pi_enum rfl T.n_enumerate (qc (pv 0) qj qg)) (pg_tup rfl (pgs_cons (pg_name (i := 1) scRefuseRows.nd rfl (Or.inl rfl)) (pgs_cons (pg_name (i := 2) scRefuseRows.nd rfl (Or.inl rfl)) pgs_nil))) (ql (zb (PW.pt (pw_or (qu op_eq (pv 1) (pe_glob (v := .int 12) rfl T.g_MOST_ROWS.choose_spec ⟨_, rfl⟩) (nomark _)) (pw_or1 (pt_not (zf (zc (okIsRow T) (hr.mono (by decide)) rfl T.dIsRow.mgx T.dIsRow.fn.kp T.dIsRow.bd .nil pass0 (qc (pv 2) qj qg))))))) (ql ps_never) pss_nil)))), ?_⟩
  have lu : us.length = rs.length := by rw [ht.length, List.length_map]
  refine ⟨_, rfl, _, _, rfl, hp, for_enum (K := K) (a := p) (xs := us) (fun i σ H' => Same H H' ∧ ∃ v1 v2 : Option V, σ = [some (.ref p), v1, v2]) ⟨Same.refl H, none, none, rfl⟩ (fun i σ H' _ h => SqL.of (h.1 _ _ hp)) ?_ ?_⟩
  ·rintro i x t σ H' hx ⟨s0, v1, v2, rfl⟩ hn
   obtain ⟨a1, t1, rfl, g1, g2⟩ := ht.get' hx
   obtain ⟨r, g3, rfl⟩ := map_get g1
   have hi : i < rs.length := (List.getElem?_eq_some_iff.mp g3).1
   have rg := ok r (List.mem_of_getElem? g3)
   have s1 := qy (o := .tup [V.int (i : Int), V.ref a1]) hn
   refine ⟨_, _, rfl, SqT.of qm, rfl, _, _, rfl, _, _, rfl, rfl, ?_⟩
   exact ⟨_, rfl, rfl, _, rfl, iteDn (fun z => by have := V.int.inj z; omega) ⟨_, rfl, _, _, rfl, s1 _ _ (s0 _ _ g2), rg, _, rfl, iteF ⟨s0.trans s1, _, _, rfl⟩⟩⟩
  ·rintro σ H' ⟨s0, v1, v2, rfl⟩
   exact k _ s0
theorem okLawCellAt (T : Txt K mg a) : FnOk P w K mg base CX0 1 a.fLawCellAt a.gLawCellAt ["_law_script", "_law_k"] (spCell K) := by
 refine T.dLawCellAt.fn.ok scLawCellAt (fun vs H Q E h => ?_) (fun cdv A outer s H vs Q E hr h => ?_)
 ·obtain ⟨_, _, _, rfl, _⟩ := h
  all_goals rfl
 ·obtain ⟨l, ns, i, rfl, hS, h0, k⟩ := h
  refine ⟨_, (qi (zb (qu op_lt (pv 1) (zd call_len (by rfl) T.n_len boot_len (qc (pv 0) qj qg)) (nomark _)) (ql (qp (zp zr (pv 0) (pv 1) (fun _ _ => rfl)))) pss_nil)
   (ql (qp qk))), ?_⟩
  refine ⟨_, rfl, _, rfl, _, _, rfl, .inl ⟨_, hS, rfl⟩, _, _, rfl, rfl, _, rfl, ?_⟩
  refine ite2 (fun c => ?_) (fun c => ?_)
  ·exact ⟨_, rfl, _, rfl, _, _, _, _, rfl, rfl, hS, atI_cell h0 (of_decide_eq_true c), k⟩
  ·have e : cell ns i = 0 := cell_out (fun z => c (decide_eq_true z))
   rw [e] at k; exact k
theorem okLawWords (T : Txt K mg a) : FnOk P w K mg base CX0 1 a.fLawWords a.gLawWords ["_law_cell", "_law_many"] spWords := by
 refine T.dLawWords.fn.ok scLawWords (fun vs H Q E h => ?_) (fun cdv A outer s H vs Q E hr h => ?_)
 ·obtain ⟨_, _, rfl, _⟩ := h
  all_goals rfl
 ·obtain ⟨c, m, rfl, hm, k⟩ := h
  refine ⟨_, (qi (qv (i := 2) scLawWords.nd rfl (Or.inl rfl) zg)
   (qi (qv (i := 3) scLawWords.nd rfl (Or.inl rfl) (qx op_add qk (qx op_mod (pv 0) qk)))
   (qi (qv (i := 4) scLawWords.nd rfl (Or.inl rfl) (qx op_mod (qx op_fdiv (pv 0) qk) (pv 3)))
   (qi (qv (i := 5) scLawWords.nd rfl (Or.inl rfl) (zh qj))
   (qi (ps_for PassesOwn.never rfl (pi_range1 rfl T.n_range (qc (pv 1) qj qg)) (pg_name (i := 6) scLawWords.nd rfl (Or.inl rfl)) (qi (qv (i := 7) scLawWords.nd rfl (Or.inl rfl) (zp zr (zh (qc (pv 3) (qc (qx op_add qk (qx op_mod (pv 6) (pv 3))) qj zm) qg)) (qx op_mod (qx op_fdiv (pv 0) qk) qk) (fun _ _ => rfl)))
   (qi (qv (i := 8) scLawWords.nd rfl (Or.inl rfl) zg)
   (qi (ps_for PassesOwn.never rfl (pi_range1 rfl T.n_range (qc (pv 7) qj qg)) (pg_name (i := 9) scLawWords.nd rfl (Or.inl rfl)) (qi (qv (i := 10) scLawWords.nd rfl (Or.inl rfl) (qx op_add (qx op_fdiv (pv 0) qk) (qx op_mul (qx op_mul qk (pv 9)) (pv 9))))
   (qi (zb (qu op_eq (pv 9) (zd (call_min2 rfl) (by rfl) T.n_min boot_min (qc (pv 4) (qc (qx op_sub (pv 7) qk) qj zm) qg)) (nomark _)) (ql (qv (i := 10) scLawWords.nd rfl (Or.inl rfl) (qx op_add (pv 10) (pv 6)))) pss_nil)
   (ql (qv (i := 8) scLawWords.nd rfl (Or.inl rfl) (qx op_add_str (pv 8) (zp ix_str (pv 2) (qx op_mod (pv 10) qk) (fun _ _ => rfl))))))))
   (ql (qz (pe_bm PySem.F.plainAttrs_list PySem.F.slot_list_append PySem.F.type_list_append mt_append (pv 5) (qc (pv 8) qj qg))))))))
   (ql (qp (pv 5)))))))), ?_⟩
  have za := az_len
  have zs := wsz_in c
  refine ⟨_, rfl, _, _, rfl, rfl, (pos (by decide)), _, _, rfl, rfl, ?_⟩
  refine ⟨_, rfl, _, _, rfl, rfl, ⟨by decide, by decide⟩, _, rfl, _, _, rfl, rfl, (show 0 < wsz c by omega), fit0, fun q hq => ?_⟩
  obtain ⟨s1, e1⟩ := alc (o := .lst []) hq
  generalize upd H q _ = H1 at s1 e1 ⊢
  refine ⟨_, rfl, _, rfl, by omega, by omega, for_range (lo := 0) (n := ((m : Int)).toNat) (fun i σ H' => Same H H' ∧ H' q = some (.lst ((wds c i).map V.str)) ∧ ∃ v6 v7 v8 v9 v10 : Option V, σ = [some (.int c), some (.int (m : Int)), some (.str az), some (.int (wsz c)), some (.int (c / 8 % wsz c)), some (.ref q), v6, v7, v8, v9, v10]) ⟨s1, e1, none, none, none, none, none, rfl⟩ ?_ ?_⟩
  ·rintro i σ H' hi ⟨s2, e2, v6, v7, v8, v9, v10, rfl⟩
   have hi : i < m := by omega
   have ff := wfar_in c (i : Int)
   rw [Int.zero_add]
   refine ⟨_, rfl, _, rfl, _, rfl, _, _, rfl, rfl, (show 0 < wsz c by omega), _, _, rfl, rfl, fit2 _ _, fun q3 hq3 => ?_⟩
   dsimp only []
   obtain ⟨s3, e3⟩ := alc (o := .lst [V.int (wsz c), V.int (1 + (i : Int) % wsz c)]) hq3
   generalize upd H' q3 _ = H3 at s3 e3 ⊢
   refine ⟨_, rfl, _, _, rfl, rfl, ⟨by decide, by decide⟩, _, _, rfl, rfl, (pos (by decide)), _, _, _, _, rfl, rfl, SqL.of e3, far_at c (i : Int), ?_⟩
   refine ⟨_, rfl, _, rfl, by omega, by omega, for_range (lo := 0) (n := (wfar c (i : Int)).toNat) (fun j σ H' => H' = H3 ∧ ∃ v9 v10 : Option V, σ = [some (.int c), some (.int (m : Int)), some (.str az), some (.int (wsz c)), some (.int (c / 8 % wsz c)), some (.ref q), some (.int (i : Int)), some (.int (wfar c (i : Int))), some (.str ⟨(wl c (i : Int) j).toArray⟩), v9, v10]) ⟨rfl, _, _, rfl⟩ ?_ ?_⟩
   ·rintro j σ H4 hj ⟨rfl, v9, v10, rfl⟩
    have hj : (j : Int) < wfar c (i : Int) := by omega
    rw [Int.zero_add]
    have so := str_snoc (wl c (i : Int) j) (97 + (won c (i : Int) (j : Int) % 26).toNat)
    rw [← wl_succ] at so
    have ll : (wl c (i : Int) j).length = j := by unfold wl; rw [List.length_map, List.length_range]
    apply useF (p := fun o => o = won c (i : Int) (j : Int))
    ·intro mm
     refine ⟨_, rfl, _, _, rfl, rfl, ⟨by decide, by decide⟩, _, rfl, _, _, rfl, rfl, .inl ⟨by decide, by decide⟩, _, rfl, _, _, rfl, rfl, .inr ⟨by omega, by omega⟩, _, _, rfl, rfl, ?_⟩
     dsimp only [gName, List.set_cons_succ, List.set_cons_zero]
     refine ⟨_, rfl, _, rfl, _, rfl, _, _, rfl, rfl, _, _, rfl, rfl, _, rfl, ite2 (fun c1 => ?_) (fun c1 => ?_)⟩
     rotate_left
     ·have c1 : ¬ (j : Int) = wmin c (i : Int) := fun z => c1 (decide_eq_true (congrArg V.int z))
      have ew : c / 64 + 7 * (j : Int) * (j : Int) = won c (i : Int) (j : Int) := by unfold won; rw [if_neg c1]
      generalize c / 64 + 7 * (j : Int) * (j : Int) = o at ew ⊢
      exact mm o ew
     ·have c1 : (j : Int) = wmin c (i : Int) := V.int.inj (of_decide_eq_true c1)
      exact ⟨_, rfl, _, rfl, _, _, rfl, rfl, mm _ (by unfold won; rw [if_pos c1])⟩
    ·rintro o rfl
     refine ⟨_, rfl, _, rfl, _, rfl, _, _, rfl, rfl, (pos (by decide)), _, _, _, rfl, rfl, fits (by rw [za]; decide), az_ix, _, _, rfl, rfl, fits (by show (wl c (i : Int) j).toArray.size + 1 ≤ _; rw [List.size_toArray, ll]; omega), rfl, some (.int (j : Int)), some (.int (won c (i : Int) (j : Int))), ?_⟩
     rw [so]
     rfl
   ·rintro σ H4 ⟨rfl, v9, v10, rfl⟩
    have lz : ((wds c i).map V.str).length ≤ 90000 := by rw [List.length_map, wds_len]; omega
    refine ⟨_, rfl, .inl ⟨rfl, _, SqL.of (s3 _ _ e2)⟩, _, rfl, _, _, _, rfl, rfl, s3 _ _ e2, lt1000 lz, same_add (s2.trans s3) hq, ?_, _, _, _, _, _, rfl⟩
    rw [wds_succ, List.map_append, qm]
    rfl
  ·rintro σ H' ⟨s2, e2, v6, v7, v8, v9, v10, rfl⟩
   rw [Int.toNat_natCast] at e2
   exact ⟨_, rfl, k q H' hq s2 e2⟩
theorem okLawAlike0 (T : Txt K mg a) : FnOk P w K mg base CX0 1 a.fLawAlike a.gLawAlike ["_law_found", "_law_due_here"] (spAl 0) := by
 refine T.dLawAlike.fn.ok scLawAlike (fun vs H Q E h => ?_) (fun cdv A outer s H vs Q E hr h => ?_)
 ·obtain ⟨_, _, rfl, _⟩ := h
  all_goals rfl
 ·obtain ⟨v, u, rfl, hA, k⟩ := h
  refine ⟨_, (qi (zb (qu op_isN (pv 1) pe_non (nomark _)) (ql (qp (pe_cmpR op_isN (pv 0) pe_non (nomark _)))) pss_nil)
   (qi (zb (zf (zd call_isi (by rfl) T.n_isinstance boot_isinstance (qc (pv 1) (qc (pe_bltn (v := .ty "str") rfl T.n_str boot_str rfl) qj qg) qg))) (ql (qp (pe_and (zd call_isi (by rfl) T.n_isinstance boot_isinstance (qc (pv 0) (qc (pe_bltn (v := .ty "str") rfl T.n_str boot_str rfl) qj qg) qg)) (pe_one (pe_cmpR op_eq (pv 0) (pv 1) (nomark _)))))) pss_nil)
   (qi (zb (zf (zd call_isiT (by rfl) T.n_isinstance boot_isinstance (qc (pv 1) (qc (zj (qc (pe_bltn (v := .ty "list") rfl T.n_list boot_list rfl) (qc (pe_bltn (v := .ty "tuple") rfl T.n_tuple boot_tuple rfl) qj qg) qg)) qj zo) qg))) (qi (zb (qu op_ne (zd call_isi (by rfl) T.n_isinstance boot_isinstance (qc (pv 0) (qc (pe_bltn (v := .ty "list") rfl T.n_list boot_list rfl) qj qg) qg)) (zd call_isi (by rfl) T.n_isinstance boot_isinstance (qc (pv 1) (qc (pe_bltn (v := .ty "list") rfl T.n_list boot_list rfl) qj qg) qg)) (nomark _)) (ql (qp pe_bl)) pss_nil)
   (qi (zb (PW.pt (pw_or (qu op_ne (zd call_isi (by rfl) T.n_isinstance boot_isinstance (qc (pv 0) (qc (pe_bltn (v := .ty "tuple") rfl T.n_tuple boot_tuple rfl) qj qg) qg)) (zd call_isi (by rfl) T.n_isinstance boot_isinstance (qc (pv 1) (qc (pe_bltn (v := .ty "tuple") rfl T.n_tuple boot_tuple rfl) qj qg) qg)) (nomark _)) (pw_or1 (qu op_ne (zd call_len (by rfl) T.n_len boot_len (qc (pv 0) qj qg)) (zd call_len (by rfl) T.n_len boot_len (qc (pv 1) qj qg)) (nomark _))))) (ql (qp pe_bl)) pss_nil)
   (qi (ps_for PassesOwn.never rfl (pi_range1 rfl T.n_range (qc (zd call_len (by rfl) T.n_len boot_len (qc (pv 1) qj qg)) qj zl)) (pg_name (i := 2) scLawAlike.nd rfl (Or.inl rfl)) (ql (zb (pt_not (zf pe_never)) (ql (qp pe_bl)) pss_nil)))
   (ql (qp pe_bl))))) pss_nil)
   (ql (qp (pe_and (zd call_isi (by rfl) T.n_isinstance boot_isinstance (qc (pv 0) (qc (pe_bltn (v := .ty "int") rfl T.n_int boot_int rfl) qj qg) qg)) (pe_and (pe_not (zd call_isi (by rfl) T.n_isinstance boot_isinstance (qc (pv 0) (qc (pe_bltn (v := .ty "bool") rfl T.n_bool boot_bool rfl) qj qg) qg))) (pe_one (pe_cmpR op_eq (pv 0) (pv 1) (nomark _)))))))))), ?_⟩
  obtain ⟨rfl, hs⟩ := hA
  rcases scl_cases hs with rfl | ⟨x, rfl⟩ | ⟨i, rfl⟩
  ·refine ⟨_, rfl, rfl, _, rfl, iteD rfl ⟨_, rfl, rfl, ?_⟩⟩
   show Q (.bl (decide (V.non = V.non))) H
   rw [decide_eq_true rfl]
   exact k _ (Same.refl H)
  ·refine ⟨_, rfl, rfl, _, rfl, iteDn (fun z => nomatch z) ⟨_, rfl, _, _, _, _, rfl, .str _, kit_str_str, _, rfl, iteT ⟨_, rfl, _, _, _, _, rfl, .str _, kit_str_str, _, rfl, iteT ⟨_, rfl, _, rfl, rfl, ?_⟩⟩⟩⟩
   show Q (.bl (decide (V.str x = V.str x))) H
   rw [decide_eq_true rfl]
   exact k _ (Same.refl H)
  ·refine ⟨_, rfl, rfl, _, rfl, iteDn (fun z => nomatch z) ⟨_, rfl, _, _, _, _, rfl, .int _, kit_int_str, _, rfl, iteF ⟨_, rfl, fit2 _ _, fun tp htp => ⟨_, _, tp, ["list", "tuple"], false, rfl, .int _, qm, kitA_int, _, rfl, iteF ?_⟩⟩⟩⟩
   refine ⟨_, rfl, _, _, _, _, rfl, .int _, kit_int_int, _, rfl, iteT ⟨_, rfl, _, _, _, _, rfl, .int _, kit_int_bool, _, rfl, _, rfl, iteT ⟨_, rfl, _, rfl, rfl, ?_⟩⟩⟩
   show Q (.bl (decide (V.int i = V.int i))) _
   rw [decide_eq_true rfl]
   exact k _ (qy htp)
theorem okLawAlikeS (T : Txt K mg a) {nn kk : Nat} (ih : FnOk P w K mg base CX0 kk a.fLawAlike a.gLawAlike ["_law_found", "_law_due_here"] (spAl nn)) : FnOk P w K mg base CX0 (kk + 1) a.fLawAlike a.gLawAlike ["_law_found", "_law_due_here"] (spAl (nn + 1)) := by
 refine T.dLawAlike.fn.ok scLawAlike (fun vs H Q E h => ?_) (fun cdv A outer s H vs Q E hr h => ?_)
 ·obtain ⟨_, _, rfl, _⟩ := h
  all_goals rfl
 ·obtain ⟨v, u, rfl, hA, k⟩ := h
  refine ⟨_, (qi (zb (qu op_isN (pv 1) pe_non (nomark _)) (ql (qp (pe_cmpR op_isN (pv 0) pe_non (nomark _)))) pss_nil)
   (qi (zb (zf (zd call_isi (by rfl) T.n_isinstance boot_isinstance (qc (pv 1) (qc (pe_bltn (v := .ty "str") rfl T.n_str boot_str rfl) qj qg) qg))) (ql (qp (pe_and (zd call_isi (by rfl) T.n_isinstance boot_isinstance (qc (pv 0) (qc (pe_bltn (v := .ty "str") rfl T.n_str boot_str rfl) qj qg) qg)) (pe_one (pe_cmpR op_eq (pv 0) (pv 1) (nomark _)))))) pss_nil)
   (qi (zb (zf (zd call_isiT (by rfl) T.n_isinstance boot_isinstance (qc (pv 1) (qc (zj (qc (pe_bltn (v := .ty "list") rfl T.n_list boot_list rfl) (qc (pe_bltn (v := .ty "tuple") rfl T.n_tuple boot_tuple rfl) qj qg) qg)) qj zo) qg))) (qi (zb (qu op_ne (zd call_isi (by rfl) T.n_isinstance boot_isinstance (qc (pv 0) (qc (pe_bltn (v := .ty "list") rfl T.n_list boot_list rfl) qj qg) qg)) (zd call_isi (by rfl) T.n_isinstance boot_isinstance (qc (pv 1) (qc (pe_bltn (v := .ty "list") rfl T.n_list boot_list rfl) qj qg) qg)) (nomark _)) (ql (qp pe_bl)) pss_nil)
   (qi (zb (PW.pt (pw_or (qu op_ne (zd call_isi (by rfl) T.n_isinstance boot_isinstance (qc (pv 0) (qc (pe_bltn (v := .ty "tuple") rfl T.n_tuple boot_tuple rfl) qj qg) qg)) (zd call_isi (by rfl) T.n_isinstance boot_isinstance (qc (pv 1) (qc (pe_bltn (v := .ty "tuple") rfl T.n_tuple boot_tuple rfl) qj qg) qg)) (nomark _)) (pw_or1 (qu op_ne (zd call_len (by rfl) T.n_len boot_len (qc (pv 0) qj qg)) (zd call_len (by rfl) T.n_len boot_len (qc (pv 1) qj qg)) (nomark _))))) (ql (qp pe_bl)) pss_nil)
   (qi (ps_for PassesOwn.never rfl (pi_range1 rfl T.n_range (qc (zd call_len (by rfl) T.n_len boot_len (qc (pv 1) qj qg)) qj zl)) (pg_name (i := 2) scLawAlike.nd rfl (Or.inl rfl)) (ql (zb (pt_not (zf (zc ih (hr.mono (Nat.le_refl _)) rfl T.dLawAlike.mgx T.dLawAlike.fn.kp T.dLawAlike.bd .nil pass0 (qc (zp ix_both (pv 0) (pv 2) (fun _ _ => rfl)) (qc (zp ix_both (pv 1) (pv 2) (fun _ _ => rfl)) qj zn) zn)))) (ql (qp pe_bl)) pss_nil)))
   (ql (qp pe_bl))))) pss_nil)
   (ql (qp (pe_and (zd call_isi (by rfl) T.n_isinstance boot_isinstance (qc (pv 0) (qc (pe_bltn (v := .ty "int") rfl T.n_int boot_int rfl) qj qg) qg)) (pe_and (pe_not (zd call_isi (by rfl) T.n_isinstance boot_isinstance (qc (pv 0) (qc (pe_bltn (v := .ty "bool") rfl T.n_bool boot_bool rfl) qj qg) qg))) (pe_one (pe_cmpR op_eq (pv 0) (pv 1) (nomark _)))))))))), ?_⟩
  rcases hA with ⟨rfl, hs⟩ | ⟨p, q, xs, ys, rfl, rfl, hh, hl, hb, ha⟩
  ·skip
   rcases scl_cases hs with rfl | ⟨x, rfl⟩ | ⟨i, rfl⟩
   ·refine ⟨_, rfl, rfl, _, rfl, iteD rfl ⟨_, rfl, rfl, ?_⟩⟩
    show Q (.bl (decide (V.non = V.non))) H
    rw [decide_eq_true rfl]
    exact k _ (Same.refl H)
   ·refine ⟨_, rfl, rfl, _, rfl, iteDn (fun z => nomatch z) ⟨_, rfl, _, _, _, _, rfl, .str _, kit_str_str, _, rfl, iteT ⟨_, rfl, _, _, _, _, rfl, .str _, kit_str_str, _, rfl, iteT ⟨_, rfl, _, rfl, rfl, ?_⟩⟩⟩⟩
    show Q (.bl (decide (V.str x = V.str x))) H
    rw [decide_eq_true rfl]
    exact k _ (Same.refl H)
   ·refine ⟨_, rfl, rfl, _, rfl, iteDn (fun z => nomatch z) ⟨_, rfl, _, _, _, _, rfl, .int _, kit_int_str, _, rfl, iteF ⟨_, rfl, fit2 _ _, fun tp htp => ⟨_, _, tp, ["list", "tuple"], false, rfl, .int _, qm, kitA_int, _, rfl, iteF ?_⟩⟩⟩⟩
    refine ⟨_, rfl, _, _, _, _, rfl, .int _, kit_int_int, _, rfl, iteT ⟨_, rfl, _, _, _, _, rfl, .int _, kit_int_bool, _, rfl, _, rfl, iteT ⟨_, rfl, _, rfl, rfl, ?_⟩⟩⟩
    show Q (.bl (decide (V.int i = V.int i))) _
    rw [decide_eq_true rfl]
    exact k _ (qy htp)
  ·rcases hh with ⟨hp, hq⟩ | ⟨hp, hq⟩
   ·skip
    refine ⟨_, rfl, rfl, _, rfl, iteDn (fun z => nomatch z) ⟨_, rfl, _, _, _, _, rfl, .lst hq, kit_lst_str, _, rfl, iteF ⟨_, rfl, fit2 _ _, fun tp htp => ?_⟩⟩⟩
    obtain ⟨s1, e1⟩ := alc (o := .tup [V.ty "list", V.ty "tuple"]) htp
    generalize upd H tp _ = H1 at s1 e1 ⊢
    have hp1 := s1 _ _ hp
    have hq1 := s1 _ _ hq
    refine ⟨_, _, tp, ["list", "tuple"], true, rfl, .lst hq1, e1, kitA_lst, _, rfl, iteT ?_⟩
    refine ⟨_, rfl, _, _, _, _, rfl, .lst hp1, kit_lst_lst, _, rfl, _, _, _, _, rfl, .lst hq1, kit_lst_lst, rfl, _, rfl, iteND rfl ?_⟩
    refine ⟨_, rfl, _, _, _, _, rfl, .lst hp1, kit_lst_tup, _, rfl, _, _, _, _, rfl, .lst hq1, kit_lst_tup, rfl, _, rfl, iteND rfl ⟨_, rfl, _, _, rfl, .inl ⟨_, SqL.of (hp1), rfl⟩, _, rfl, _, _, rfl, .inl ⟨_, SqL.of (hq1), rfl⟩, rfl, _, rfl, iteND (by rw [hl]) ?_⟩⟩
    have bnd := rb (n := ys.length) (by omega)
    refine ⟨_, rfl, _, _, rfl, .inl ⟨_, SqL.of (hq1), rfl⟩, _, rfl, bnd.1, bnd.2, for_range (lo := 0) (n := ((ys.length : Int)).toNat) (fun j σ H' => Same H1 H' ∧ ∃ v2 : Option V, σ = [some (.ref p), some (.ref q), v2]) ⟨Same.refl H1, none, rfl⟩ ?_ ?_⟩
    ·rintro j σ H' hj ⟨s2, v2, rfl⟩
     have hj : j < ys.length := by omega
     obtain ⟨y, hy⟩ : ∃ y, ys[j]? = some y := ⟨_, List.getElem?_eq_getElem hj⟩
     obtain ⟨x, hx⟩ : ∃ x, xs[j]? = some x := ⟨_, List.getElem?_eq_getElem (by omega)⟩
     refine ⟨_, rfl, _, rfl, .inl ⟨_, _, _, _, rfl, rfl, SqL.of (s2 _ _ hp1), (by rw [Int.zero_add]; exact atI_nat hx), _, rfl, _, rfl, .inl ⟨_, _, _, _, rfl, rfl, SqL.of (s2 _ _ hq1), (by rw [Int.zero_add]; exact atI_nat hy), x, y, rfl, (ha j x y hx hy).same (s1.trans s2), fun H3 s3 => ⟨_, rfl, iteF ⟨s2.trans s3, _, rfl⟩⟩⟩⟩⟩
    ·rintro σ H' ⟨s2, v2, rfl⟩
     exact k _ (s1.trans s2)
   ·skip
    refine ⟨_, rfl, rfl, _, rfl, iteDn (fun z => nomatch z) ⟨_, rfl, _, _, _, _, rfl, .tup hq, kit_tup_str, _, rfl, iteF ⟨_, rfl, fit2 _ _, fun tp htp => ?_⟩⟩⟩
    obtain ⟨s1, e1⟩ := alc (o := .tup [V.ty "list", V.ty "tuple"]) htp
    generalize upd H tp _ = H1 at s1 e1 ⊢
    have hp1 := s1 _ _ hp
    have hq1 := s1 _ _ hq
    refine ⟨_, _, tp, ["list", "tuple"], true, rfl, .tup hq1, e1, kitA_tup, _, rfl, iteT ?_⟩
    refine ⟨_, rfl, _, _, _, _, rfl, .tup hp1, kit_tup_lst, _, rfl, _, _, _, _, rfl, .tup hq1, kit_tup_lst, rfl, _, rfl, iteND rfl ?_⟩
    refine ⟨_, rfl, _, _, _, _, rfl, .tup hp1, kit_tuple_tuple, _, rfl, _, _, _, _, rfl, .tup hq1, kit_tuple_tuple, rfl, _, rfl, iteND rfl ⟨_, rfl, _, _, rfl, .inr ⟨_, SqT.of (hp1), rfl⟩, _, rfl, _, _, rfl, .inr ⟨_, SqT.of (hq1), rfl⟩, rfl, _, rfl, iteND (by rw [hl]) ?_⟩⟩
    have bnd := rb (n := ys.length) (by omega)
    refine ⟨_, rfl, _, _, rfl, .inr ⟨_, SqT.of (hq1), rfl⟩, _, rfl, bnd.1, bnd.2, for_range (lo := 0) (n := ((ys.length : Int)).toNat) (fun j σ H' => Same H1 H' ∧ ∃ v2 : Option V, σ = [some (.ref p), some (.ref q), v2]) ⟨Same.refl H1, none, rfl⟩ ?_ ?_⟩
    ·rintro j σ H' hj ⟨s2, v2, rfl⟩
     have hj : j < ys.length := by omega
     obtain ⟨y, hy⟩ : ∃ y, ys[j]? = some y := ⟨_, List.getElem?_eq_getElem hj⟩
     obtain ⟨x, hx⟩ : ∃ x, xs[j]? = some x := ⟨_, List.getElem?_eq_getElem (by omega)⟩
     refine ⟨_, rfl, _, rfl, .inr ⟨_, _, _, _, rfl, rfl, SqT.of (s2 _ _ hp1), (by rw [Int.zero_add]; exact atI_nat hx), _, rfl, _, rfl, .inr ⟨_, _, _, _, rfl, rfl, SqT.of (s2 _ _ hq1), (by rw [Int.zero_add]; exact atI_nat hy), x, y, rfl, (ha j x y hx hy).same (s1.trans s2), fun H3 s3 => ⟨_, rfl, iteF ⟨s2.trans s3, _, rfl⟩⟩⟩⟩⟩
    ·rintro σ H' ⟨s2, v2, rfl⟩
     exact k _ (s1.trans s2)
theorem okLawAlike1 (T : Txt K mg a) : FnOk P w K mg base CX0 2 a.fLawAlike a.gLawAlike ["_law_found", "_law_due_here"] (spAl 1) := okLawAlikeS T (okLawAlike0 T)
theorem okLawAlike2 (T : Txt K mg a) : FnOk P w K mg base CX0 3 a.fLawAlike a.gLawAlike ["_law_found", "_law_due_here"] (spAl 2) := okLawAlikeS T (okLawAlike1 T)
theorem okLawAlike3 (T : Txt K mg a) : FnOk P w K mg base CX0 4 a.fLawAlike a.gLawAlike ["_law_found", "_law_due_here"] (spAl 3) := okLawAlikeS T (okLawAlike2 T)
theorem okLawLast (T : Txt K mg a) : FnOk P w K mg base CX0 1 a.fLawLast a.gLawLast ["_law_run"] spLa53 := by
 refine T.dLawLast.fn.ok scLawLast (fun vs H Q E h => ?_) (fun cdv A outer s H vs Q E hr h => ?_)
 ·obtain ⟨_, _, _, _, _, _, rfl, _⟩ := h
  all_goals rfl
 ·obtain ⟨q, pq, z, h, i, r, rfl, hh, la, hl, k⟩ := h
  refine ⟨_, (qi (ps_par3 (i := 1) (j := 2) (k := 3) rfl scLawLast.nd rfl rfl rfl rfl rfl rfl (qc (zp zq (pv 0) qk (fun _ _ => rfl)) (qc (qx op_mul (zp zq (pv 0) qk (fun _ _ => rfl)) (zp zq (pv 0) qk (fun _ _ => rfl))) (qc (zp zq (pv 0) qk (fun _ _ => rfl)) qj zn) zm) zn) (by with_unfolding_all rfl) rfl)
   (qi (zb (PW.pt (pw_and (qu (op_neLT hr.units) (pv 3) (zh qj) (nomark _)) (pw_and1 (qu op_isN (zp zq (zp zr (pv 3) (pe_un un_neg qk) (fun _ _ => rfl)) qk (fun _ _ => rfl)) pe_non (nomark _))))) (ql (qp pe_non)) pss_nil)
   (qi (qv (i := 4) scLawLast.nd rfl (Or.inr rfl) (pv 1))
   (qi (ps_while PassesOwn.never (qu op_gt (pv 2) qk (nomark _)) (qi (qv (i := 4) scLawLast.nd rfl (Or.inr rfl) (qx op_add (pv 4) qk))
   (qi (ps_setComp (i := 5) scLawLast.nd rfl rfl (N := ["_law_pause", "_law_day"]) (js := [none, some 4]) (XN := ["_law_run", "_law_start", "_law_units", "_law_pauses", "_law_day", "_law_still"]) (xs := defScope sLawLast) rfl rfl rfl (by decide +kernel) (pi_list (pv 3)) (fun _ _ _ _ _ _ => (pg_name (i := 0) (show List.Nodup (["_law_pause", "_law_day"] : List Str) from by decide +kernel) rfl (Or.inl rfl) (Or.inr rfl))) (fun _ _ _ _ _ _ => (pts_one (pt_chain op_le op_le (zp (ix_tupC (K := K) rfl) (pv 0) qk (fun _ _ => rfl)) (pv 1) (zp (ix_tupC (K := K) rfl) (pv 0) qk (fun _ _ => rfl))))) (fun _ _ _ _ _ _ => (pv 0)))
   (ql (zb (qu (op_eqLT hr.units) (pv 5) (zh qj) (nomark _)) (ql (qv (i := 2) scLawLast.nd rfl (Or.inl rfl) (qx op_sub (pv 2) qk))) pss_nil)))))
   (ql (qp (pv 4))))))), ?_⟩
  obtain ⟨hq0, us, h0, ty⟩ := id hh
  obtain ⟨ok, s0, z7, m1, r1, r2⟩ := id la
  have lu : us.length = h.ps.length := by rw [ty.length, List.length_map]
  refine ⟨_, rfl, _, _, _, _, rfl, rfl, SqT.of (hq0), rfl, _, rfl, _, _, _, _, rfl, rfl, SqT.of (hq0), rfl, _, rfl, _, _, _, _, rfl, rfl, SqT.of (hq0), rfl, _, _, rfl, rfl, .inr ⟨by omega, by omega⟩, _, rfl, _, _, _, _, rfl, rfl, SqT.of (hq0), rfl, _, _, _, rfl, ?_⟩
  dsimp only [gName, List.set_cons_succ, List.set_cons_zero]
  generalize h.u * z = m at m1 r2 ⊢
  apply useP (p := fun H1 => Same H H1 ∧ haltedB h.ps = false)
  ·intro mm
   refine ⟨_, rfl, fit0, fun q1 hq1 => ?_⟩
   obtain ⟨t1, e1⟩ := alc (o := .lst []) hq1
   generalize upd H q1 _ = H1 at t1 e1 ⊢
   refine ⟨_, _, _, _, _, _, rfl, rfl, SqL.of (t1 _ _ h0), SqL.of e1, ty.same t1, .nil, encQ_flat h.ps, rfl, _, rfl, ite2 (fun c2 => ?_) (fun c2 => iteF ?_)⟩
   ·obtain ⟨qs, ⟨F, o⟩, hps⟩ := eqTs_cons c2
    have ty' := ty
    rw [hps] at ty'
    obtain ⟨vs, c, hus, hc, tv⟩ := tups_last ty'
    refine ⟨_, rfl, _, rfl, _, _, _, _, rfl, rfl, SqL.of (t1 _ _ h0), (hus ▸ at_last vs _), _, _, _, _, rfl, rfl, SqT.of (t1 _ _ hc), rfl, rfl, _, rfl, ite2 (fun c3 => ?_) (fun c3 => ?_)⟩
    ·have := r1 (by rw [hps, hal_snoc]; exact c3)
     rw [this] at k
     exact k _ t1
    ·exact mm H1 ⟨t1, by rw [hps, hal_snoc]; exact (Bool.not_eq_true _).mp c3⟩
   ·exact mm H1 ⟨t1, by rw [eqTs_nil c2]; rfl⟩
  ·rintro H1 ⟨s1, eh⟩
   obtain ⟨f, rfl, full⟩ := r2 eh
   have fn := psok_fin ok eh
   refine ⟨_, rfl, fun z' σ' H' => Same H H' ∧ ∃ (day left : Int) (v5 : Option V), σ' = [some (.ref q), some (.int h.s), some (.int left), some (.ref pq), some (.int day), v5] ∧ Wk (kf bs0 rs0 i) h.ps h.s m day left ∧ z' = (f - day).toNat, ⟨_, s1, h.s, m, none, rfl, wk_zero m1, rfl⟩, ?_⟩
   rintro z' σ' H' ⟨sH, day, left, v5, rfl, wk, rfl⟩
   refine ⟨_, rfl, _, _, rfl, rfl, _, rfl, ite2 (fun c => ?_) (fun c => ?_)⟩
   ·have c := of_decide_eq_true c
    have hs := wk.hs
    have lt := wk_lt s0 wk c full (show Tgt h.ps (some f) f from rfl) (fun t ht => by obtain ⟨e, he⟩ := fn _ ht; cases he)
    refine ⟨fun σ2 H2 => Same H H2 ∧ ∃ (l2 : Int) (v5 : Option V), σ2 = [some (.ref q), some (.int h.s), some (.int l2), some (.ref pq), some (.int (day + 1)), v5] ∧ Wk (kf bs0 rs0 i) h.ps h.s m (day + 1) l2, fun σ2 H2 ⟨y1, l2, v5, y2, y3⟩ => ⟨(f - (day + 1)).toNat, by omega, y1, day + 1, l2, v5, y2, y3, rfl⟩, ?_⟩
    have h0' := sH _ _ h0
    have ty1 := ty.same sH
    refine ⟨_, rfl, _, _, rfl, rfl, _, rfl, _, rfl, ⟨_, SqL.of h0'⟩, ?_⟩
    let b : V → Bool := fun v => match v with
     | .ref a => match H' a with
      | some (.tup [.int F, .int e]) => decide (F ≤ day + 1) && decide (day + 1 ≤ e)
      | _ => false
     | _ => false
    have at' : ∀ v ∈ us, ∃ (c : Addr) (F e : Int), v = .ref c ∧ H' c = some (.tup [.int F, .int e]) ∧ (F, some e) ∈ h.ps := fun v hv => by
     obtain ⟨j, hj⟩ := List.getElem?_of_mem hv
     obtain ⟨c, t, rfl, g1, g2⟩ := ty1.get' hj
     obtain ⟨⟨F, o⟩, g3, rfl⟩ := map_getQ g1
     obtain ⟨e, he⟩ := fn _ (List.mem_of_getElem? g3)
     simp only at he
     subst he
     exact ⟨c, F, e, rfl, g2, List.mem_of_getElem? g3⟩
    have eb : ∀ {c : Addr} {F e : Int}, H' c = some (.tup [.int F, .int e]) → b (.ref c) = (decide (F ≤ day + 1) && decide (day + 1 ≤ e)) := fun {c F e} g => by
     show (match H' c with | some (.tup [.int F, .int e]) => decide (F ≤ day + 1) && decide (day + 1 ≤ e) | _ => false) = _
     rw [g]
    refine comp_filt b (fun v => v) (fun σ' => ∃ v, σ' = [v, some (.int (day + 1))]) (feeds_list (K := K) (SqL.of h0')) (fits (by omega)) ⟨none, rfl⟩ (fun v σ' H2 N RR hv sm s4 kn ky => ?_) gk_name fun p5 hp5 => ?_
    ·obtain ⟨v0, rfl⟩ := s4
     obtain ⟨c, F, e, rfl, g, _⟩ := at' v hv
     refine ⟨_, rfl, _, _, _, _, rfl, rfl, SqT.of (sm _ _ g), rfl, _, rfl, _, _, rfl, rfl, _, rfl, ite2 (fun c1 => ?_) (fun c1 => ?_)⟩
     ·refine ⟨_, rfl, _, _, _, _, rfl, rfl, SqT.of (sm _ _ g), rfl, _, _, rfl, rfl, _, rfl, ite2 (fun c2 => ?_) (fun c2 => ?_)⟩
      ·exact ⟨_, rfl, ky _ ⟨_, rfl⟩ (by rw [eb g, c1, c2]; rfl)⟩
      ·exact kn _ ⟨_, rfl⟩ (by rw [eb g, (Bool.not_eq_true _).mp c2, Bool.and_false])
     ·exact ⟨_, rfl, iteF (kn _ ⟨_, rfl⟩ (by rw [eb g, (Bool.not_eq_true _).mp c1]; rfl))⟩
    obtain ⟨s5, e5⟩ := alc (o := .lst ((us.filter b).map fun v => v)) hp5
    generalize upd H' p5 _ = H5 at s5 e5 ⊢
    rw [List.map_id'] at e5
    have tf : ∃ ts, Tups H5 (us.filter b) ts ∧ ts.all (·.all flatV) = true := by
     have go : ∀ ws : List V, (∀ v ∈ ws, v ∈ us) → ∃ ts, Tups H5 ws ts ∧ ts.all (·.all flatV) = true := fun ws => by
      induction ws with
      | nil => exact fun _ => ⟨[], .nil, rfl⟩
      | cons v ws ih =>
       intro hw
       obtain ⟨ts, g1, g2⟩ := ih fun y hy => hw y (List.mem_cons_of_mem _ hy)
       obtain ⟨c, F, e, rfl, g, _⟩ := at' v (hw v List.mem_cons_self)
       exact ⟨_ :: ts, .cons (s5 _ _ g) g1, by rw [List.all_cons, g2]; rfl⟩
     exact go _ fun v hv => (List.mem_filter.mp hv).1
    obtain ⟨ts, tf, fl⟩ := tf
    have sH5 := sH.trans s5
    dsimp only [gName, List.set_cons_succ, List.set_cons_zero]
    refine ⟨_, rfl, fit0, fun q6 hq6 => ?_⟩
    obtain ⟨s6, e6⟩ := alc (o := .lst []) hq6
    generalize upd H5 q6 _ = H6 at s6 e6 ⊢
    have sH6 := sH5.trans s6
    refine ⟨_, _, _, _, _, _, rfl, rfl, SqL.of (s6 _ _ e5), SqL.of e6, tf.same s6, .nil, fl, rfl, _, rfl, ite2 (fun c2 => ?_) (fun c2 => ?_)⟩
    ·have e : stl h.ps (day + 1) = false := by
      have en : us.filter b = [] := List.eq_nil_of_length_eq_zero (by rw [tf.length, eqTs_nil1 c2]; rfl)
      refine stl_no fun p hp => ?_
      obtain ⟨j, hj⟩ := List.getElem?_of_mem hp
      obtain ⟨c, g1, g2⟩ := ty1.get (i := j) (r := encQ p) (by rw [List.getElem?_map, hj]; rfl)
      obtain ⟨F, o⟩ := p
      obtain ⟨e, he⟩ := fn _ hp
      simp only at he
      subst he
      have := List.filter_eq_nil_iff.mp en _ (List.mem_of_getElem? g1)
      rw [eb g2] at this
      rw [inP_some]
      exact (Bool.not_eq_true _).mp this
     exact ⟨_, rfl, _, _, rfl, rfl, sH6, _, _, rfl, wk_cnt s0 wk c (by rw [gst_kf (by omega)]; exact e)⟩
    ·have e : stl h.ps (day + 1) = true := by
      have nn : us.filter b ≠ [] := fun z => c2 (by
       rw [z] at tf
       cases tf
       rfl)
      obtain ⟨v, hv⟩ := List.exists_mem_of_ne_nil _ nn
      obtain ⟨v1, v2⟩ := List.mem_filter.mp hv
      obtain ⟨c, F, e, rfl, g, hm⟩ := at' v v1
      rw [eb g] at v2
      exact stl_of hm (by rw [inP_some]; exact v2)
     exact ⟨sH6, _, _, rfl, wk_free s0 wk c (by rw [gst_kf (by omega)]; exact e)⟩
   ·have := wk_end s0 wk (fun z => c (decide_eq_true z))
    cases full_uniq s0 this full
    exact ⟨_, rfl, k _ sH⟩
theorem okLawShut (T : Txt K mg a) : FnOk P w K mg base CX0 1 a.fLawShut a.gLawShut ["_law_pauses", "_law_day"] spSh53 := by
 refine T.dLawShut.fn.ok scLawShut (fun vs H Q E h => ?_) (fun cdv A outer s H vs Q E hr h => ?_)
 ·obtain ⟨_, _, _, rfl, _⟩ := h
  all_goals rfl
 ·obtain ⟨p, d, ps, rfl, hq, hl, hd, k⟩ := h
  refine ⟨_, (qi (zb (PW.pt (pw_or (qu (op_eqLT hr.units) (pv 0) (zh qj) (nomark _)) (pw_or1 (qu op_notN (zp zq (zp zr (pv 0) (pe_un un_neg qk) (fun _ _ => rfl)) qk (fun _ _ => rfl)) pe_non (nomark _))))) (ql (qp (pv 0))) pss_nil)
   (qi (zb (qu op_eq (zp zq (zp zr (pv 0) (pe_un un_neg qk) (fun _ _ => rfl)) qk (fun _ _ => rfl)) (pv 1) (nomark _)) (ql (qp (pe_slice sl_list (pv 0) po_none (po_some (pe_un un_neg qk))))) pss_nil)
   (ql (qp (qx op_cat (pe_slice sl_list (pv 0) po_none (po_some (pe_un un_neg qk))) (zh (qc (zj (qc (zp zq (zp zr (pv 0) (pe_un un_neg qk) (fun _ _ => rfl)) qk (fun _ _ => rfl)) (qc (qx op_sub (pv 1) qk) qj zm) zn)) qj zo))))))), ?_⟩
  obtain ⟨us, h0, ty⟩ := id hq
  apply useP (p := fun H1 => Same H H1 ∧ haltedB ps = true)
  ·intro mm
   have fin : ∀ H1, Same H H1 → haltedB ps = false → Q (.ref p) H1 := fun H1 s e => k p H1 s (.inl rfl) (by rw [go_same e]; exact hq.same s)
   refine ⟨_, rfl, fit0, fun q1 hq1 => ?_⟩
   obtain ⟨t1, e1⟩ := alc (o := .lst []) hq1
   generalize upd H q1 _ = H1 at t1 e1 ⊢
   refine ⟨_, _, _, _, _, _, rfl, rfl, SqL.of (t1 _ _ h0), SqL.of e1, ty.same t1, .nil, encQ_flat ps, rfl, _, rfl, ite2 (fun c2 => iteT ?_) (fun c2 => ?_)⟩
   ·have e : ps = [] := List.map_eq_nil_iff.mp (eqTs_nil1 c2)
    exact ⟨_, rfl, fin H1 t1 (by rw [e]; rfl)⟩
   ·obtain ⟨qs, ⟨F, o⟩, hps⟩ := eqTs_cons (ps := ps) (by rw [show eqTs (ps.map encQ) [] = false from (Bool.not_eq_true _).mp c2]; rfl)
    have ty' := ty
    rw [hps] at ty'
    obtain ⟨vs, c, hus, hc, tv⟩ := tups_last ty'
    refine ⟨_, rfl, _, rfl, _, _, _, _, rfl, rfl, SqL.of (t1 _ _ h0), (hus ▸ at_last vs _), _, _, _, _, rfl, rfl, SqT.of (t1 _ _ hc), rfl, rfl, _, rfl, ?_⟩
    show if (!decide (oV o = V.non)) = true then _ else _
    refine ite2 (fun c3 => ?_) (fun c3 => ?_)
    ·exact ⟨_, rfl, fin H1 t1 (by rw [hps, hal_snoc]; cases e : decide (oV o = V.non) with | false => rfl | true => rw [e] at c3; cases c3)⟩
    ·exact mm H1 ⟨t1, by rw [hps, hal_snoc]; cases e : decide (oV o = V.non) with | true => rfl | false => rw [e] at c3; exact absurd rfl c3⟩
  ·rintro H1 ⟨t1, hh⟩
   obtain ⟨qs, F, rfl⟩ := hal_ex hh
   obtain ⟨vs, c, hus, hc, tv⟩ := tups_last ty
   have fd := hd (F, none) (List.mem_append.mpr (.inr (List.mem_singleton.mpr rfl)))
   simp only at fd
   have ec : cutV us none (some (-1)) = vs := by rw [hus]; exact cut_last vs _
   have lv : vs.length ≤ 1000 := by rw [tv.length, List.length_map]; rw [List.length_append] at hl; omega
   have h1 := t1 _ _ h0
   have hc1 := t1 _ _ hc
   have tv' : Tups H1 (cutV us none (some (-1))) (qs.map encQ) := by rw [ec]; exact tv.same t1
   rw [go_snoc] at k
   refine ⟨_, rfl, _, rfl, _, _, _, _, rfl, rfl, SqL.of h1, (hus ▸ at_last vs _), _, _, _, _, rfl, rfl, SqT.of hc1, rfl, _, rfl, rfl, _, rfl, ite2 (fun c1 => ?_) (fun c1 => ?_)⟩
   ·have c1 := V.int.inj (of_decide_eq_true c1)
    rw [if_neg (by omega), List.append_nil] at k
    refine ⟨_, rfl, _, rfl, _, rfl, _, _, rfl, SqL.of h1, fun p1 hp1 => ?_⟩
    have s1 := qy (o := .lst (cutV us none (some (-1)))) hp1
    exact k p1 _ (t1.trans s1) (.inr (t1.free hp1)) ⟨_, qm, tv'.same s1⟩
   ·have c1 : ¬ F = d := fun z => c1 (decide_eq_true (congrArg V.int z))
    rw [if_pos (by omega)] at k
    refine ⟨_, rfl, _, rfl, _, rfl, _, _, rfl, SqL.of h1, fun p1 hp1 => ?_⟩
    obtain ⟨s1, e1⟩ := alc (o := .lst (cutV us none (some (-1)))) hp1
    generalize upd H1 p1 _ = H2 at s1 e1 ⊢
    refine ⟨_, rfl, _, rfl, _, _, _, _, rfl, rfl, SqL.of (s1 _ _ h1), (hus ▸ at_last vs _), _, _, _, _, rfl, rfl, SqT.of (s1 _ _ hc1), rfl, _, rfl, _, _, rfl, rfl, fit2 _ _, fun p2 hp2 => ?_⟩
    dsimp only []
    obtain ⟨s2, e2⟩ := alc (o := .tup [V.int F, V.int (d - 1)]) hp2
    generalize upd H2 p2 _ = H3 at s2 e2 ⊢
    refine ⟨fit1 _, fun p3 hp3 => ?_⟩
    obtain ⟨s3, e3⟩ := alc (o := .lst [V.ref p2]) hp3
    generalize upd H3 p3 _ = H4 at s3 e3 ⊢
    refine ⟨_, _, _, _, rfl, rfl, s3 _ _ (s2 _ _ e1), e3, fits (by rw [ec, List.length_singleton]; omega), fun p4 hp4 => ?_⟩
    have s4 := qy (o := .lst (cutV us none (some (-1)) ++ [V.ref p2])) hp4
    have z3 := t1.trans (s1.trans (s2.trans s3))
    refine k p4 _ (z3.trans s4) (.inr (z3.free hp4)) ⟨_, qm, ?_⟩
    rw [List.map_append]
    exact (tv'.same (s1.trans (s2.trans (s3.trans s4)))).snoc (s4 _ _ (s3 _ _ e2))
theorem okLawTurned (T : Txt K mg a) : FnOk P w K mg base CX0 2 a.fLawTurned a.gLawTurned ["_law_run", "_law_role_here", "_law_day", "_law_rule_here"] (spTu53 a) := by
 refine T.dLawTurned.fn.ok scLawTurned (fun vs H Q E h => ?_) (fun cdv A outer s H vs Q E hr h => ?_)
 ·obtain ⟨_, _, _, _, _, _, _, _, _, _, _, _, _, rfl, _⟩ := h
  all_goals rfl
 ·obtain ⟨q, pq, rl, j, d, z, h, i, r, rd, k3, ad, tm, rfl, j8, hh, la, hl, hd, hrl, hlo, k⟩ := h
  refine ⟨_, (qi (ps_asg (pv 0) (pg_tup rfl (pgs_cons (pg_name (i := 4) scLawTurned.nd rfl (Or.inl rfl)) (pgs_cons (pg_name (i := 5) scLawTurned.nd rfl (Or.inl rfl)) (pgs_cons (pg_name (i := 6) scLawTurned.nd rfl (Or.inl rfl)) (pgs_cons (pg_name (i := 7) scLawTurned.nd rfl (Or.inl rfl)) (pgs_cons (pg_name (i := 8) scLawTurned.nd rfl (Or.inl rfl)) pgs_nil)))))))
   (qi (qv (i := 9) scLawTurned.nd rfl (Or.inl rfl) (zc (okLawLast T) (hr.mono (by decide)) rfl T.dLawLast.mgx T.dLawLast.fn.kp T.dLawLast.bd .nil pass0 (qc (pv 0) qj qg)))
   (qi (zb (qu op_in_seq (pv 1) (zj (qc zg (qc zg qj qo) qo)) (by with_unfolding_all rfl)) (ql (qp (zj (qc (pv 4) (qc (pv 5) (qc (zc (okLawShut T) (hr.mono (by decide)) rfl T.dLawShut.mgx T.dLawShut.fn.kp T.dLawShut.bd .nil pass0 (qc (pv 6) (qc (pv 2) qj qg) qg)) (qc (pv 7) (qc (pv 8) qj qg) qg) zl) qg) qg)))) pss_nil)
   (qi (zb (PW.pt (pw_or (qu op_le (pv 2) (pv 4) (nomark _)) (pw_or1 (PW.pt (pw_and (qu op_notN (pv 9) pe_non (nomark _)) (pw_and1 (qu op_gt (pv 2) (pv 9) (nomark _)))))))) (ql (qp (pv 0))) pss_nil)
   (qi (zb (qu op_eq (pv 1) zg (nomark _)) (ql (qp (zj (qc (pv 2) (qc (pe_fld (pv 3) rfl) (qc (zh qj) (qc qk (qc (pv 8) qj qg) qo) star_lst) star_att) qg)))) pss_nil)
   (qi (zb (PW.pt (pw_and (qu op_eq (pv 1) zg (nomark _)) (pw_and1 (qu op_lt (pv 7) (zp zq (zp zr (pe_fld (pv 3) rfl) qk (fun _ _ => rfl)) qk (fun _ _ => rfl)) (nomark _))))) (ql (qp (zj (qc (pv 4) (qc (qx op_add (pv 5) (zp zq (zp zr (pe_fld (pv 3) rfl) qk (fun _ _ => rfl)) qk (fun _ _ => rfl))) (qc (pv 6) (qc (qx op_add (pv 7) qk) (qc (pv 8) qj qg) zm) qg) zm) qg)))) pss_nil)
   (qi (zb (PW.pt (pw_and (qu op_eq (pv 1) zg (nomark _)) (pw_and1 (qu op_notN (pv 9) pe_non (nomark _))))) (ql (qp (zj (qc (pv 4) (qc (pv 5) (qc (qx op_cat (pv 6) (zh (qc (zj (qc (pv 2) (qc pe_non qj qo) qg)) qj zo))) (qc (pv 7) (qc (pv 8) qj qg) qg) zm) qg) qg)))) pss_nil)
   (qi (zb (qu op_eq (pv 1) zg (nomark _)) (ql (qp (zj (qc (pv 4) (qc (pv 5) (qc (zc (okLawShut T) (hr.mono (by decide)) rfl T.dLawShut.mgx T.dLawShut.fn.kp T.dLawShut.bd .nil pass0 (qc (pv 6) (qc (pv 2) qj qg) qg)) (qc (pv 7) (qc (pv 8) qj qg) qg) zl) qg) qg)))) pss_nil)
   (ql (qp (pv 0))))))))))), ?_⟩
  obtain ⟨hq0, hat⟩ := id hh
  obtain ⟨us, h0, ty⟩ := id hat
  have lu : us.length = h.ps.length := by rw [ty.length, List.length_map]
  refine ⟨_, rfl, _, _, rfl, SqT.of (hq0), rfl, _, _, rfl, _, _, rfl, _, _, rfl, _, _, rfl, _, _, rfl, rfl, ?_⟩
  dsimp only [gName, List.set_cons_succ, List.set_cons_zero]
  refine ⟨_, rfl, q, pq, z, h, i, r, rfl, hh, la, hl, fun H1 t1 => ?_⟩
  dsimp only [gName, List.set_cons_succ, List.set_cons_zero]
  have end5 : ∀ {J : Hp} {q4 p3 : Addr} {h' : HS}, Same H J → J q4 = none → (p3 = pq ∨ H p3 = none) → AtQ J p3 h'.ps → tuF rd.many ad tm h r j d = h' → Q (.ref q4) (upd J q4 (.tup [.int h'.s, .int h'.u, .ref p3, .int h'.g, .int z])) := fun {J q4 p3 h'} s4 n4 f4 a4 e4 => by
   have s5 := qy (o := .tup [.int h'.s, .int h'.u, .ref p3, .int h'.g, .int z]) n4
   exact k q4 p3 _ (s4.trans s5) f4 (by rw [e4]; exact ⟨qm, a4.same s5⟩)
  have back : ∀ {J : Hp}, Same H J → tuF rd.many ad tm h r j d = h → Q (.ref q) J := fun {J} s4 e4 => k q pq J s4 (.inl rfl) (by rw [e4]; exact hh.same s4)
  refine ⟨_, rfl, fit2 _ _, fun p2 hp2 => ?_⟩
  obtain ⟨t2, e2⟩ := alc (o := .tup [V.str (Str.ofString "ends"), V.str (Str.ofString "due")]) hp2
  generalize upd H1 p2 _ = H2 at t2 e2 ⊢
  have s2 := t1.trans t2
  refine ⟨_, _, rfl, .inr (SqT.of e2), rfl, rfl, _, rfl, ?_⟩
  show if inV (.str (rlw j)) [V.str (Str.ofString "ends"), V.str (Str.ofString "due")] = true then _ else _
  rw [rl_ed j j8]
  refine ite2 (fun c => ?_) (fun c => ?_)
  ·have c := of_decide_eq_true c
   refine ⟨_, rfl, _, rfl, _, rfl, _, rfl, pq, d, h.ps, rfl, hat.same s2, hl, hd, fun q3 H3 s3 f3 at3 => ⟨_, rfl, _, rfl, fit5 _ _ _ _ _, fun q4 hq4 => ?_⟩⟩
   exact end5 (h' := ⟨h.s, h.u, goPs h.ps d, h.g⟩) (s2.trans s3) hq4 (f3.imp id s2.free) at3 (by unfold tuF; rw [if_pos c])
  ·have j2 : ¬ j < 2 := fun z => c (decide_eq_true z)
   apply use (p := undS h.s r d = true)
   ·intro mm
    have no : undS h.s r d = false → Q (.ref q) H2 := fun z => back s2 (by unfold tuF; rw [if_neg j2, if_pos z])
    refine ⟨_, rfl, _, rfl, _, _, rfl, rfl, _, rfl, ite2 (fun c1 => iteT ?_) (fun c1 => ?_)⟩
    ·have c1 := of_decide_eq_true c1
     exact ⟨_, rfl, no (by unfold undS; rw [decide_eq_false (by omega)]; rfl)⟩
    ·have c1 : h.s < d := by have : ¬ d ≤ h.s := fun z => c1 (decide_eq_true z); omega
     refine ⟨_, rfl, rfl, _, rfl, ?_⟩
     show if (!decide (oV r = V.non)) = true then _ else _
     refine ite2 (fun c2 => ?_) (fun c2 => iteF (mm ?_))
     ·obtain ⟨f, hf⟩ := oV_some (r := r) (fun z => by rw [decide_eq_true z] at c2; cases c2)
      have hof : oV r = V.int f := by rw [hf]; rfl
      refine ⟨_, rfl, _, rfl, _, _, rfl, hof, _, rfl, ite2 (fun c3 => ?_) (fun c3 => mm ?_)⟩
      ·have c3 := of_decide_eq_true c3
       exact ⟨_, rfl, no (by rw [hf]; unfold undS; rw [decide_eq_true c1]; show decide (d ≤ f) = false; exact decide_eq_false (by omega))⟩
      ·have c3 : ¬ f < d := fun z => c3 (decide_eq_true z)
       rw [hf]; unfold undS; rw [decide_eq_true c1]; show decide (d ≤ f) = true; exact decide_eq_true (by omega)
     ·have hr0 : r = none := oV_none (by
       by_cases z : oV r = V.non
       ·exact z
       ·rw [decide_eq_false z] at c2; exact absurd rfl c2)
      rw [hr0]; unfold undS; rw [decide_eq_true c1]; rfl
   ·intro un
    have un' : ¬ undS h.s r d = false := fun z => by rw [un] at z; cases z
    refine ⟨_, rfl, rfl, _, rfl, ?_⟩
    show if decide (V.str (rlw j) = V.str (Str.ofString "anew")) = true then _ else _
    rw [rl_at (w := Str.ofString "anew") (i := 2) j8 (by decide) rfl]
    have rul := hrl.same s2
    obtain ⟨dxr, pe, pa, pl, vn, vw, vp, vb, vs', py, ul, g1, _, _, _, g5, g6⟩ := rul
    rw [hlo] at g6
    obtain ⟨bl, rfl, g7⟩ := tup1 g6
    refine ite2 (fun c => ?_) (fun c => ?_)
    ·have c := of_decide_eq_true c
     refine ⟨_, rfl, _, rfl, _, _, _, _, _, rfl, g1, T.c_Rule, qq T.n_Rule (by decide), rfl, fit0, fun p3 hp3 => ?_⟩
     obtain ⟨s3, e3⟩ := alc (o := .lst []) hp3
     generalize upd H2 p3 _ = H3 at s3 e3 ⊢
     refine ⟨_, rfl, fit5 _ _ _ _ _, fun q4 hq4 => ?_⟩
     exact end5 (h' := ⟨d, rd.many, [], 0⟩) (s2.trans s3) hq4 (.inr (s2.free hp3)) ⟨[], e3, .nil⟩ (by unfold tuF; rw [if_neg j2, if_neg un', if_pos c])
    ·have n2 : ¬ j = 2 := fun z => c (decide_eq_true z)
     apply use (p := ¬ (j = 3 ∧ h.g < tm))
     ·intro mm
      refine ⟨_, rfl, rfl, _, rfl, ?_⟩
      show if decide (V.str (rlw j) = V.str (Str.ofString "longer")) = true then _ else _
      rw [rl_at (w := Str.ofString "longer") (i := 3) j8 (by decide) rfl]
      refine ite2 (fun c3 => ?_) (fun c3 => iteF (mm fun z => c3 (decide_eq_true z.1)))
      have c3 := of_decide_eq_true c3
      refine ⟨_, rfl, _, rfl, _, _, _, _, _, rfl, g1, T.c_Rule, qq T.n_Rule (by decide), rfl, _, _, _, _, rfl, rfl, SqL.of g5, (atI_nat (j := 0) rfl), _, _, _, _, rfl, rfl, SqT.of g7, rfl, _, _, rfl, rfl, _, rfl, ite2 (fun c4 => ?_) (fun c4 => mm fun z => c4 (decide_eq_true z.2))⟩
      have c4 := of_decide_eq_true c4
      refine ⟨_, rfl, _, rfl, _, rfl, _, _, _, _, _, rfl, g1, T.c_Rule, qq T.n_Rule (by decide), rfl, _, _, _, _, rfl, rfl, SqL.of g5, (atI_nat (j := 0) rfl), _, _, _, _, rfl, rfl, SqT.of g7, rfl, _, _, rfl, rfl, _, rfl, _, rfl, _, _, rfl, rfl, _, rfl, fit5 _ _ _ _ _, fun q4 hq4 => ?_⟩
      exact end5 (h' := ⟨h.s, h.u + ad, h.ps, h.g + 1⟩) s2 hq4 (.inl rfl) (hat.same s2) (by unfold tuF; rw [if_neg j2, if_neg un', if_neg n2, if_pos ⟨c3, c4⟩])
     ·intro n3
      apply use (p := ¬ (j = 4 ∧ r ≠ none))
      ·intro mm
       refine ⟨_, rfl, rfl, _, rfl, ?_⟩
       show if decide (V.str (rlw j) = V.str (Str.ofString "still")) = true then _ else _
       rw [rl_at (w := Str.ofString "still") (i := 4) j8 (by decide) rfl]
       refine ite2 (fun c3 => ?_) (fun c3 => iteF (mm fun z => c3 (decide_eq_true z.1)))
       have c3 := of_decide_eq_true c3
       refine ⟨_, rfl, rfl, _, rfl, ?_⟩
       show if (!decide (oV r = V.non)) = true then _ else _
       refine ite2 (fun c4 => ?_) (fun c4 => mm fun z => c4 (by
        obtain ⟨f, hf⟩ := Option.ne_none_iff_exists'.mp z.2
        rw [hf]; rfl))
       have c4 : r ≠ none := fun z => by rw [z] at c4; cases c4
       refine ⟨_, rfl, _, rfl, _, rfl, _, rfl, fit2 _ _, fun p3 hp3 => ?_⟩
       obtain ⟨s3, e3⟩ := alc (o := .tup [V.int d, V.non]) hp3
       generalize upd H2 p3 _ = H3 at s3 e3 ⊢
       refine ⟨fit1 _, fun p4 hp4 => ?_⟩
       obtain ⟨s4, e4⟩ := alc (o := .lst [V.ref p3]) hp4
       generalize upd H3 p4 _ = H4 at s4 e4 ⊢
       have z4 := s2.trans (s3.trans s4)
       refine ⟨_, _, _, _, rfl, rfl, z4 _ _ h0, e4, fits (by rw [List.length_singleton]; omega), fun p5 hp5 => ?_⟩
       obtain ⟨s5, e5⟩ := alc (o := .lst (us ++ [V.ref p3])) hp5
       generalize upd H4 p5 _ = H5 at s5 e5 ⊢
       refine ⟨_, rfl, _, rfl, fit5 _ _ _ _ _, fun q4 hq4 => ?_⟩
       refine end5 (h' := ⟨h.s, h.u, h.ps ++ [(d, none)], h.g⟩) (z4.trans s5) hq4 (.inr (z4.free hp5)) ⟨_, e5, ?_⟩ (by unfold tuF; rw [if_neg j2, if_neg un', if_neg n2, if_neg n3, if_pos ⟨c3, c4⟩])
       rw [List.map_append]
       exact (ty.same (z4.trans s5)).snoc (s5 _ _ (s4 _ _ e3))
      ·intro n4
       refine ⟨_, rfl, rfl, _, rfl, ?_⟩
       show if decide (V.str (rlw j) = V.str (Str.ofString "goes on")) = true then _ else _
       rw [rl_at (w := Str.ofString "goes on") (i := 5) j8 (by decide) rfl]
       refine ite2 (fun c => ?_) (fun c => ?_)
       ·have c := of_decide_eq_true c
        refine ⟨_, rfl, _, rfl, _, rfl, _, rfl, pq, d, h.ps, rfl, hat.same s2, hl, hd, fun q3 H3 s3 f3 at3 => ⟨_, rfl, _, rfl, fit5 _ _ _ _ _, fun q4 hq4 => ?_⟩⟩
        exact end5 (h' := ⟨h.s, h.u, goPs h.ps d, h.g⟩) (s2.trans s3) hq4 (f3.imp id s2.free) at3 (by unfold tuF; rw [if_neg j2, if_neg un', if_neg n2, if_neg n3, if_neg n4, if_pos c])
       ·exact ⟨_, rfl, back s2 (by unfold tuF; rw [if_neg j2, if_neg un', if_neg n2, if_neg n3, if_neg n4, if_neg (fun z => c (decide_eq_true z))])⟩
theorem okRuleInit (T : Txt K mg a) : FnOk P w K mg base CX0 1 a.fRuleInit a.gRuleInit ["self", "name", "who", "owes", "opens", "base", "many", "unit", "still"] (spRlInit a) := by
 refine T.dRuleInit.fn.ok scRuleInit (fun vs H Q E h => ?_) (fun cdv A outer s H vs Q E hr h => ?_)
 ·obtain ⟨_, _, _, _, _, _, _, _, _, _, rfl, _⟩ := h
  all_goals rfl
 ·obtain ⟨x, dx, vn, vw, vo, vp, vb, vm, vu, vs', rfl, hx, k⟩ := h
  refine ⟨_, (qi (ps_fld (pv 0) (pv 1) rfl)
   (qi (ps_fld (pv 0) (pv 2) rfl)
   (qi (ps_fld (pv 0) (pv 3) rfl)
   (qi (ps_fld (pv 0) (pv 4) rfl)
   (qi (ps_fld (pv 0) (pv 5) rfl)
   (qi (ps_fld (pv 0) (pv 6) rfl)
   (qi (ps_fld (pv 0) (pv 7) rfl)
   (qi (ps_fld (pv 0) (pv 8) rfl)
   (qi (ps_fld (pv 0) (zh qj) rfl)
   (qi (ps_fld (pv 0) (zh qj) rfl)
   (qi (ps_fld (pv 0) (zh qj) rfl)
   (ql (ps_fld (pv 0) (zh qj) rfl))))))))))))), ?_⟩
  have b0 : SameBut x H H := fun _ _ _ e => e
  have x0 := hx
  refine ⟨_, rfl, _, rfl, _, _, _, _, rfl, x0, T.c_Rule, qq T.n_Rule (by decide), (show 0 < 1000 by decide), ?_⟩
  rw [show putF (Str.ofString "name") vn [] = (rq1 vn) by with_unfolding_all rfl]
  have b1 : SameBut x H (upd H x (.ins a.cRule dx (rq1 vn))) := b0.set
  have x1 := qm (H := H) (a := x) (o := .ins a.cRule dx (rq1 vn))
  generalize upd H x _ = H1 at b1 x1 ⊢
  refine ⟨_, rfl, _, rfl, _, _, _, _, rfl, x1, T.c_Rule, qq T.n_Rule (by decide), (show 1 < 1000 by decide), ?_⟩
  rw [show putF (Str.ofString "who") vw (rq1 vn) = (rq2 vn vw) by with_unfolding_all rfl]
  have b2 : SameBut x H (upd H1 x (.ins a.cRule dx (rq2 vn vw))) := b1.set
  have x2 := qm (H := H1) (a := x) (o := .ins a.cRule dx (rq2 vn vw))
  generalize upd H1 x _ = H2 at b2 x2 ⊢
  refine ⟨_, rfl, _, rfl, _, _, _, _, rfl, x2, T.c_Rule, qq T.n_Rule (by decide), (show 2 < 1000 by decide), ?_⟩
  rw [show putF (Str.ofString "owes") vo (rq2 vn vw) = (rq3 vn vw vo) by with_unfolding_all rfl]
  have b3 : SameBut x H (upd H2 x (.ins a.cRule dx (rq3 vn vw vo))) := b2.set
  have x3 := qm (H := H2) (a := x) (o := .ins a.cRule dx (rq3 vn vw vo))
  generalize upd H2 x _ = H3 at b3 x3 ⊢
  refine ⟨_, rfl, _, rfl, _, _, _, _, rfl, x3, T.c_Rule, qq T.n_Rule (by decide), (show 3 < 1000 by decide), ?_⟩
  rw [show putF (Str.ofString "opens") vp (rq3 vn vw vo) = (rq4 vn vw vo vp) by with_unfolding_all rfl]
  have b4 : SameBut x H (upd H3 x (.ins a.cRule dx (rq4 vn vw vo vp))) := b3.set
  have x4 := qm (H := H3) (a := x) (o := .ins a.cRule dx (rq4 vn vw vo vp))
  generalize upd H3 x _ = H4 at b4 x4 ⊢
  refine ⟨_, rfl, _, rfl, _, _, _, _, rfl, x4, T.c_Rule, qq T.n_Rule (by decide), (show 4 < 1000 by decide), ?_⟩
  rw [show putF (Str.ofString "base") vb (rq4 vn vw vo vp) = (rq5 vn vw vo vp vb) by with_unfolding_all rfl]
  have b5 : SameBut x H (upd H4 x (.ins a.cRule dx (rq5 vn vw vo vp vb))) := b4.set
  have x5 := qm (H := H4) (a := x) (o := .ins a.cRule dx (rq5 vn vw vo vp vb))
  generalize upd H4 x _ = H5 at b5 x5 ⊢
  refine ⟨_, rfl, _, rfl, _, _, _, _, rfl, x5, T.c_Rule, qq T.n_Rule (by decide), (show 5 < 1000 by decide), ?_⟩
  rw [show putF (Str.ofString "many") vm (rq5 vn vw vo vp vb) = (rq6 vn vw vo vp vb vm) by with_unfolding_all rfl]
  have b6 : SameBut x H (upd H5 x (.ins a.cRule dx (rq6 vn vw vo vp vb vm))) := b5.set
  have x6 := qm (H := H5) (a := x) (o := .ins a.cRule dx (rq6 vn vw vo vp vb vm))
  generalize upd H5 x _ = H6 at b6 x6 ⊢
  refine ⟨_, rfl, _, rfl, _, _, _, _, rfl, x6, T.c_Rule, qq T.n_Rule (by decide), (show 6 < 1000 by decide), ?_⟩
  rw [show putF (Str.ofString "unit") vu (rq6 vn vw vo vp vb vm) = (rq7 vn vw vo vp vb vm vu) by with_unfolding_all rfl]
  have b7 : SameBut x H (upd H6 x (.ins a.cRule dx (rq7 vn vw vo vp vb vm vu))) := b6.set
  have x7 := qm (H := H6) (a := x) (o := .ins a.cRule dx (rq7 vn vw vo vp vb vm vu))
  generalize upd H6 x _ = H7 at b7 x7 ⊢
  refine ⟨_, rfl, _, rfl, _, _, _, _, rfl, x7, T.c_Rule, qq T.n_Rule (by decide), (show 7 < 1000 by decide), ?_⟩
  rw [show putF (Str.ofString "still") vs' (rq7 vn vw vo vp vb vm vu) = (rq8 vn vw vo vp vb vm vu vs') by with_unfolding_all rfl]
  have b8 : SameBut x H (upd H7 x (.ins a.cRule dx (rq8 vn vw vo vp vb vm vu vs'))) := b7.set
  have x8 := qm (H := H7) (a := x) (o := .ins a.cRule dx (rq8 vn vw vo vp vb vm vu vs'))
  generalize upd H7 x _ = H8 at b8 x8 ⊢
  refine ⟨fit0, fun pe npe => ?_⟩
  obtain ⟨s8, epe⟩ := alc (o := .lst []) npe
  have x8' := s8 _ _ x8
  have nepe : pe ≠ x := fun z => by rw [z, x8] at npe; cases npe
  have fpe : H pe = none := b8.free nepe npe
  have b8' := b8.trans (SameBut.of s8)
  generalize upd H8 pe _ = J8 at s8 epe x8' b8'  ⊢
  refine ⟨_, rfl, _, _, _, _, rfl, x8', T.c_Rule, qq T.n_Rule (by decide), (show 8 < 1000 by decide), ?_⟩
  rw [show putF (Str.ofString "ends") (.ref pe) (rq8 vn vw vo vp vb vm vu vs') = (rq9 vn vw vo vp vb vm vu vs' (.ref pe)) by with_unfolding_all rfl]
  have b9 : SameBut x H (upd J8 x (.ins a.cRule dx (rq9 vn vw vo vp vb vm vu vs' (.ref pe)))) := b8'.set
  have x9 := qm (H := J8) (a := x) (o := .ins a.cRule dx (rq9 vn vw vo vp vb vm vu vs' (.ref pe)))
  have epe := (qr (o := .ins a.cRule dx (rq9 vn vw vo vp vb vm vu vs' (.ref pe))) nepe).trans epe
  generalize upd J8 x _ = H9 at b9 x9 epe  ⊢
  refine ⟨fit0, fun pa npa => ?_⟩
  obtain ⟨s9, epa⟩ := alc (o := .lst []) npa
  have x9' := s9 _ _ x9
  have nepa : pa ≠ x := fun z => by rw [z, x9] at npa; cases npa
  have fpa : H pa = none := b9.free nepa npa
  have dpepa := ne_of_none epe npa
  have epe := s9 _ _ epe
  have b9' := b9.trans (SameBut.of s9)
  generalize upd H9 pa _ = J9 at s9 epa x9' b9' epe ⊢
  refine ⟨_, rfl, _, _, _, _, rfl, x9', T.c_Rule, qq T.n_Rule (by decide), (show 9 < 1000 by decide), ?_⟩
  rw [show putF (Str.ofString "anew") (.ref pa) (rq9 vn vw vo vp vb vm vu vs' (.ref pe)) = (rq10 vn vw vo vp vb vm vu vs' (.ref pe) (.ref pa)) by with_unfolding_all rfl]
  have b10 : SameBut x H (upd J9 x (.ins a.cRule dx (rq10 vn vw vo vp vb vm vu vs' (.ref pe) (.ref pa)))) := b9'.set
  have x10 := qm (H := J9) (a := x) (o := .ins a.cRule dx (rq10 vn vw vo vp vb vm vu vs' (.ref pe) (.ref pa)))
  have epa := (qr (o := .ins a.cRule dx (rq10 vn vw vo vp vb vm vu vs' (.ref pe) (.ref pa))) nepa).trans epa
  have epe := (qr (o := .ins a.cRule dx (rq10 vn vw vo vp vb vm vu vs' (.ref pe) (.ref pa))) nepe).trans epe
  generalize upd J9 x _ = H10 at b10 x10 epa epe ⊢
  refine ⟨fit0, fun pl npl => ?_⟩
  obtain ⟨s10, epl⟩ := alc (o := .lst []) npl
  have x10' := s10 _ _ x10
  have nepl : pl ≠ x := fun z => by rw [z, x10] at npl; cases npl
  have fpl : H pl = none := b10.free nepl npl
  have dpepl := ne_of_none epe npl
  have dpapl := ne_of_none epa npl
  have epe := s10 _ _ epe
  have epa := s10 _ _ epa
  have b10' := b10.trans (SameBut.of s10)
  generalize upd H10 pl _ = J10 at s10 epl x10' b10' epe epa ⊢
  refine ⟨_, rfl, _, _, _, _, rfl, x10', T.c_Rule, qq T.n_Rule (by decide), (show 10 < 1000 by decide), ?_⟩
  rw [show putF (Str.ofString "longer") (.ref pl) (rq10 vn vw vo vp vb vm vu vs' (.ref pe) (.ref pa)) = (rq11 vn vw vo vp vb vm vu vs' (.ref pe) (.ref pa) (.ref pl)) by with_unfolding_all rfl]
  have b11 : SameBut x H (upd J10 x (.ins a.cRule dx (rq11 vn vw vo vp vb vm vu vs' (.ref pe) (.ref pa) (.ref pl)))) := b10'.set
  have x11 := qm (H := J10) (a := x) (o := .ins a.cRule dx (rq11 vn vw vo vp vb vm vu vs' (.ref pe) (.ref pa) (.ref pl)))
  have epl := (qr (o := .ins a.cRule dx (rq11 vn vw vo vp vb vm vu vs' (.ref pe) (.ref pa) (.ref pl))) nepl).trans epl
  have epe := (qr (o := .ins a.cRule dx (rq11 vn vw vo vp vb vm vu vs' (.ref pe) (.ref pa) (.ref pl))) nepe).trans epe
  have epa := (qr (o := .ins a.cRule dx (rq11 vn vw vo vp vb vm vu vs' (.ref pe) (.ref pa) (.ref pl))) nepa).trans epa
  generalize upd J10 x _ = H11 at b11 x11 epl epe epa ⊢
  refine ⟨fit0, fun py npy => ?_⟩
  obtain ⟨s11, epy⟩ := alc (o := .lst []) npy
  have x11' := s11 _ _ x11
  have nepy : py ≠ x := fun z => by rw [z, x11] at npy; cases npy
  have fpy : H py = none := b11.free nepy npy
  have dpepy := ne_of_none epe npy
  have dpapy := ne_of_none epa npy
  have dplpy := ne_of_none epl npy
  have epe := s11 _ _ epe
  have epa := s11 _ _ epa
  have epl := s11 _ _ epl
  have b11' := b11.trans (SameBut.of s11)
  generalize upd H11 py _ = J11 at s11 epy x11' b11' epe epa epl ⊢
  refine ⟨_, rfl, _, _, _, _, rfl, x11', T.c_Rule, qq T.n_Rule (by decide), (show 11 < 1000 by decide), ?_⟩
  rw [show putF (Str.ofString "yields") (.ref py) (rq11 vn vw vo vp vb vm vu vs' (.ref pe) (.ref pa) (.ref pl)) = (rq12 vn vw vo vp vb vm vu vs' (.ref pe) (.ref pa) (.ref pl) (.ref py)) by with_unfolding_all rfl]
  have b12 : SameBut x H (upd J11 x (.ins a.cRule dx (rq12 vn vw vo vp vb vm vu vs' (.ref pe) (.ref pa) (.ref pl) (.ref py)))) := b11'.set
  have x12 := qm (H := J11) (a := x) (o := .ins a.cRule dx (rq12 vn vw vo vp vb vm vu vs' (.ref pe) (.ref pa) (.ref pl) (.ref py)))
  have epy := (qr (o := .ins a.cRule dx (rq12 vn vw vo vp vb vm vu vs' (.ref pe) (.ref pa) (.ref pl) (.ref py))) nepy).trans epy
  have epe := (qr (o := .ins a.cRule dx (rq12 vn vw vo vp vb vm vu vs' (.ref pe) (.ref pa) (.ref pl) (.ref py))) nepe).trans epe
  have epa := (qr (o := .ins a.cRule dx (rq12 vn vw vo vp vb vm vu vs' (.ref pe) (.ref pa) (.ref pl) (.ref py))) nepa).trans epa
  have epl := (qr (o := .ins a.cRule dx (rq12 vn vw vo vp vb vm vu vs' (.ref pe) (.ref pa) (.ref pl) (.ref py))) nepl).trans epl
  generalize upd J11 x _ = H12 at b12 x12 epy epe epa epl ⊢
  exact k H12 pe pa pl py b12 fpe fpa fpl x12 epe epa epl dpepl dpapl dpepa
theorem okLawRule (T : Txt K mg a) : FnOk P w K mg base CX0 3 a.fLawRule a.gLawRule ["_law_script", "_law_kinds", "_law_names"] (spRl53 a K) := by
 refine T.dLawRule.fn.ok scLawRule (fun vs H Q E h => ?_) (fun cdv A outer s H vs Q E hr h => ?_)
 ·obtain ⟨_, _, _, _, _, _, rfl, _⟩ := h
  all_goals rfl
 ·obtain ⟨l, pk, pn, ns, c4, nm', rfl, hS, hk, hn, ln, k⟩ := h
  refine ⟨_, (qi (qv (i := 3) scLawRule.nd rfl (Or.inl rfl) (zc (okLawCellAt T) (hr.mono (by decide)) rfl T.dLawCellAt.mgx T.dLawCellAt.fn.kp T.dLawCellAt.bd .nil pass0 (qc (pv 0) (qc qk qj qo) qg)))
   (qi (qv (i := 4) scLawRule.nd rfl (Or.inl rfl) (zc (okLawCellAt T) (hr.mono (by decide)) rfl T.dLawCellAt.mgx T.dLawCellAt.fn.kp T.dLawCellAt.bd .nil pass0 (qc (pv 0) (qc qk qj qo) qg)))
   (qi (qv (i := 5) scLawRule.nd rfl (Or.inl rfl) (zp zr (zh (qc zg (qc zg (qc zg qj qo) qo) qo)) (qx op_mod (pv 3) qk) (fun _ _ => rfl)))
   (qi (qv (i := 6) scLawRule.nd rfl (Or.inl rfl) (pe_make T.k_Rule (okRuleInit T) (hr.mono (by decide)) rfl T.m_Rule T.dRuleInit.bd .nil pass0 (qc (zp zr (pv 2) qk (fun _ _ => rfl)) (qc (zp zr (pv 2) qk (fun _ _ => rfl)) (qc (zp zr (pv 1) qk (fun _ _ => rfl)) (qc (zp zr (pv 1) qk (fun _ _ => rfl)) (qc pe_non (qc (qx op_add qk (qx op_mod (qx op_fdiv (pv 3) qk) qk)) (qc (pv 5) (qc (zj (qc (zp zr (pv 1) qk (fun _ _ => rfl)) (qc (zp zr (pv 1) qk (fun _ _ => rfl)) qj zn) zn)) qj zo) qg) zm) qo) zn) zn) zn) zn)))
   (qi (qz (pe_bm PySem.F.plainAttrs_list PySem.F.slot_list_extend PySem.F.type_list_extend mt_extend (pe_fld (pv 6) rfl) (qc (zh (qc (zp zr (pv 1) qk (fun _ _ => rfl)) (qc (zp zr (pv 1) qk (fun _ _ => rfl)) qj zn) zn)) qj star_lst)))
   (qi (qz (pe_bm PySem.F.plainAttrs_list PySem.F.slot_list_extend PySem.F.type_list_extend mt_extend (pe_fld (pv 6) rfl) (qc (zh (qc (zp zr (pv 1) qk (fun _ _ => rfl)) (qc (zp zr (pv 1) qk (fun _ _ => rfl)) qj zn) zn)) qj star_lst)))
   (qi (qz (pe_bm PySem.F.plainAttrs_list PySem.F.slot_list_append PySem.F.type_list_append mt_append (pe_fld (pv 6) rfl) (qc (zj (qc (zp zr (pv 1) qk (fun _ _ => rfl)) (qc (qx op_add qk (qx op_mod (pv 4) qk)) (qc (qx op_add qk (qx op_mod (qx op_fdiv (pv 4) qk) qk)) qj zm) zm) zn)) qj zo)))
   (ql (qp (pv 6)))))))))), ?_⟩
  obtain ⟨n24, g24⟩ : ∃ y, nm'[24]? = some y := ⟨_, List.getElem?_eq_getElem (by omega)⟩
  obtain ⟨n25, g25⟩ : ∃ y, nm'[25]? = some y := ⟨_, List.getElem?_eq_getElem (by omega)⟩
  refine ⟨_, rfl, _, _, _, rfl, hS, (by omega), _, rfl, _, _, _, rfl, hS, (by omega), fit3 _ _ _, fun q3 hq3 => ?_⟩
  obtain ⟨s3, e3⟩ := alc (o := .lst [V.str (Str.ofString "days"), V.str (Str.ofString "weeks"), V.str (Str.ofString "court")]) hq3
  generalize upd H q3 _ = H3 at s3 e3 ⊢
  refine ⟨_, rfl, _, _, rfl, rfl, (pos (by decide)), _, _, _, _, rfl, rfl, SqL.of e3, uix_at (cell ns 1), ?_⟩
  refine ⟨_, rfl, _, _, _, _, rfl, rfl, SqL.of (s3 _ _ hn), (atI_nat (j := 25) (by rw [List.getElem?_map, g25]; rfl)), _, rfl, _, _, _, _, rfl, rfl, SqL.of (s3 _ _ hn), (atI_nat (j := 24) (by rw [List.getElem?_map, g24]; rfl)), _, rfl, _, _, _, _, rfl, rfl, SqL.of (s3 _ _ hk), (atI_nat (j := 0) (by rw [List.getElem?_map, wds_at (show 0 < 10 by decide)]; rfl)), _, rfl, _, _, _, _, rfl, rfl, SqL.of (s3 _ _ hk), (atI_nat (j := 6) (by rw [List.getElem?_map, wds_at (show 6 < 10 by decide)]; rfl)), _, rfl, _, _, rfl, rfl, ⟨by decide, by decide⟩, _, _, rfl, rfl, (pos (by decide)), _, _, rfl, rfl, _, rfl, _, rfl, _, _, _, _, rfl, rfl, SqL.of (s3 _ _ hk), (atI_nat (j := 4) (by rw [List.getElem?_map, wds_at (show 4 < 10 by decide)]; rfl)), _, rfl, _, _, _, _, rfl, rfl, SqL.of (s3 _ _ hk), (atI_nat (j := 5) (by rw [List.getElem?_map, wds_at (show 5 < 10 by decide)]; rfl)), fit2 _ _, fun pt hpt => ?_⟩
  dsimp only []
  obtain ⟨s4, e4⟩ := alc (o := .tup [V.str (wdS c4 4), V.str (wdS c4 5)]) hpt
  generalize upd H3 pt _ = H4 at s4 e4 ⊢
  refine fun x dx nx nd ne => ?_
  refine ⟨x, dx, _, _, _, _, _, _, _, _, rfl, qm, fun H5 pe pa pl py b5 npe npa npl x5 epe epa epl ne2 ne3 ne4 => ⟨rfl, ?_⟩⟩
  have s5 : Same H4 H5 := b5.made nx nd
  have s35 := s3.trans (s4.trans s5)
  have nxH := (s3.trans s4).free nx
  have keep := made_keep2 (o := .ins a.cRule dx []) (u := .own x) nx nd
  have z5 := s3.trans (s4.trans keep)
  have npe' : H pe = none := z5.free npe
  have npa' : H pa = none := z5.free npa
  have npl' : H pl = none := z5.free npl
  have e4 := s5 _ _ e4
  have nte : pt ≠ pe := fun z => by rw [z, epe] at e4; cases e4
  have nta : pt ≠ pa := fun z => by rw [z, epa] at e4; cases e4
  have ntl : pt ≠ pl := fun z => by rw [z, epl] at e4; cases e4
  have x1 : x ≠ pe := ne_il x5 epe
  have x2 : x ≠ pa := ne_il x5 epa
  have x3 : x ≠ pl := ne_il x5 epl
  dsimp only [gName, List.set_cons_succ, List.set_cons_zero]
  refine ⟨_, rfl, _, _, _, _, _, rfl, x5, T.c_Rule, qq T.n_Rule (by decide), rfl, .inl ⟨rfl, _, SqL.of epe⟩, _, rfl, _, _, _, _, rfl, rfl, SqL.of (s35 _ _ hk), (atI_nat (j := 1) (by rw [List.getElem?_map, wds_at (show 1 < 10 by decide)]; rfl)), _, rfl, _, _, _, _, rfl, rfl, SqL.of (s35 _ _ hk), (atI_nat (j := 8) (by rw [List.getElem?_map, wds_at (show 8 < 10 by decide)]; rfl)), fit2 _ _, fun q6 hq6 => ?_⟩
  obtain ⟨s6, e6⟩ := alc (o := .lst [V.str (wdS c4 1), V.str (wdS c4 8)]) hq6
  generalize upd H5 q6 _ = H6 at s6 e6 ⊢
  refine ⟨_, _, _, _, rfl, rfl, s6 _ _ epe, e6, fits (show 2 ≤ 100000 by decide), ?_⟩
  have k6 : ∀ b o, b ≠ pe → H5 b = some o → upd H6 pe (.lst ([] ++ [V.str (wdS c4 1), V.str (wdS c4 8)])) b = some o := fun b o nb e => by rw [qr nb]; exact s6 _ _ e
  have p6 := qm (H := H6) (a := pe) (o := .lst ([] ++ [V.str (wdS c4 1), V.str (wdS c4 8)]))
  have z6 : Same H (upd H6 pe (.lst ([] ++ [V.str (wdS c4 1), V.str (wdS c4 8)]))) := same_add (s35.trans s6) npe'
  generalize upd H6 pe _ = H7 at k6 p6 z6 ⊢
  have x7 := k6 _ _ x1 x5
  have a7 := k6 _ _ (Ne.symm ne4) epa
  have l7 := k6 _ _ (Ne.symm ne2) epl
  have t7 := k6 _ _ nte e4
  refine ⟨_, rfl, _, _, _, _, _, rfl, x7, T.c_Rule, qq T.n_Rule (by decide), rfl, .inl ⟨rfl, _, SqL.of a7⟩, _, rfl, _, _, _, _, rfl, rfl, SqL.of (z6 _ _ hk), (atI_nat (j := 2) (by rw [List.getElem?_map, wds_at (show 2 < 10 by decide)]; rfl)), _, rfl, _, _, _, _, rfl, rfl, SqL.of (z6 _ _ hk), (atI_nat (j := 9) (by rw [List.getElem?_map, wds_at (show 9 < 10 by decide)]; rfl)), fit2 _ _, fun q8 hq8 => ?_⟩
  obtain ⟨s8, e8⟩ := alc (o := .lst [V.str (wdS c4 2), V.str (wdS c4 9)]) hq8
  generalize upd H7 q8 _ = H8 at s8 e8 ⊢
  refine ⟨_, _, _, _, rfl, rfl, s8 _ _ a7, e8, fits (show 2 ≤ 100000 by decide), ?_⟩
  have k8 : ∀ b o, b ≠ pa → H7 b = some o → upd H8 pa (.lst ([] ++ [V.str (wdS c4 2), V.str (wdS c4 9)])) b = some o := fun b o nb e => by rw [qr nb]; exact s8 _ _ e
  have p8 := qm (H := H8) (a := pa) (o := .lst ([] ++ [V.str (wdS c4 2), V.str (wdS c4 9)]))
  have z8 : Same H (upd H8 pa (.lst ([] ++ [V.str (wdS c4 2), V.str (wdS c4 9)]))) := same_add (z6.trans s8) npa'
  generalize upd H8 pa _ = H9 at k8 p8 z8 ⊢
  have x9 := k8 _ _ x2 x7
  have e9 := k8 _ _ ne4 p6
  have l9 := k8 _ _ (Ne.symm ne3) l7
  have t9 := k8 _ _ nta t7
  refine ⟨_, rfl, _, _, _, _, _, rfl, x9, T.c_Rule, qq T.n_Rule (by decide), rfl, .inl ⟨rfl, _, SqL.of l9⟩, _, rfl, _, _, _, _, rfl, rfl, SqL.of (z8 _ _ hk), (atI_nat (j := 3) (by rw [List.getElem?_map, wds_at (show 3 < 10 by decide)]; rfl)), _, rfl, _, _, rfl, rfl, (pos (by decide)), _, _, rfl, rfl, _, rfl, _, _, rfl, rfl, ⟨by decide, by decide⟩, _, _, rfl, rfl, (pos (by decide)), _, _, rfl, rfl, fit3 _ _ _, fun q10 hq10 => ?_⟩
  dsimp only []
  obtain ⟨s10, e10⟩ := alc (o := .tup (encL (lo53 (cell ns 3) (wdS c4 3)))) hq10
  have nq10 : q10 ≠ pl := fun z => by rw [z, l9] at hq10; cases hq10
  refine ⟨_, _, _, rfl, rfl, s10 _ _ l9, lt1000 (by decide), ?_⟩
  have f10 : ∀ b o, b ≠ pl → H9 b = some o → upd (upd H9 q10 (.tup (encL (lo53 (cell ns 3) (wdS c4 3))))) pl (.lst ([] ++ [V.ref q10])) b = some o := fun b o nb e => by rw [qr nb]; exact s10 _ _ e
  refine ⟨_, rfl, k x _ (same_add (z8.trans s10) npl') nxH ⟨dx, pe, pa, pl, _, _, _, _, _, _, [V.ref q10], f10 _ _ x3 x9, ⟨pt, rfl, f10 _ _ ntl t9⟩, f10 _ _ ne2 e9, f10 _ _ ne3 p8, qm, .cons ((qr nq10).trans e10) .nil⟩⟩
theorem okRunIsOver (T : Txt K mg a) : FnOk P w K mg base CX0 1 a.fRunIsOver a.gRunIsOver ["self"] (spOvr a) := by
 refine T.dRunIsOver.fn.ok scRunIsOver (fun vs H Q E h => ?_) (fun cdv A outer s H vs Q E hr h => ?_)
 ·obtain ⟨_, _, _, _, _, _, _, rfl, _⟩ := h
  all_goals rfl
 ·obtain ⟨x, B, S, rd, st, bs, rs, rfl, hR, k⟩ := h
  refine ⟨_, (ql (qp (pe_fld (pv 0) rfl))), ?_⟩
  obtain ⟨dx, rl, cn, pr, pp, pg, ur, up, rfl, R⟩ := id hR
  exact ⟨_, rfl, _, _, _, _, _, rfl, R.hx, T.c_Run, qq T.n_Run (by decide), rfl, k⟩
theorem okRunStartsOn (T : Txt K mg a) : FnOk P w K mg base CX0 1 a.fRunStartsOn a.gRunStartsOn ["self"] (spSt a) := by
 refine T.dRunStartsOn.fn.ok scRunStartsOn (fun vs H Q E h => ?_) (fun cdv A outer s H vs Q E hr h => ?_)
 ·obtain ⟨_, _, _, _, _, _, _, rfl, _⟩ := h
  all_goals rfl
 ·obtain ⟨x, B, S, rd, st, bs, rs, rfl, hR, k⟩ := h
  refine ⟨_, (ql (qp (pe_ifExp (qu op_isN (pe_fld (pv 0) rfl) pe_non (nomark _)) (pe_fld (pv 0) rfl) pe_never))), ?_⟩
  obtain ⟨dx, rl, cn, pr, pp, pg, ur, up, rfl, R⟩ := id hR
  exact ⟨_, rfl, _, _, _, _, _, rfl, R.hx, T.c_Run, qq T.n_Run (by decide), rfl, rfl, _, rfl, iteD rfl ⟨_, rfl, _, _, _, _, _, rfl, R.hx, T.c_Run, qq T.n_Run (by decide), rfl, k⟩⟩
theorem okRunLastsTo (T : Txt K mg a) : FnOk P w K mg base CX0 12 a.fRunLastsTo a.gRunLastsTo ["self"] (spLt a) := by
 refine T.dRunLastsTo.fn.ok scRunLastsTo (fun vs H Q E h => ?_) (fun cdv A outer s H vs Q E hr h => ?_)
 ·obtain ⟨_, _, _, _, _, _, _, _, rfl, _⟩ := h
  all_goals rfl
 ·obtain ⟨x, B, S, rd, st, bs, rs, c, rfl, hR, tok, ok, k⟩ := h
  refine ⟨_, (qi (qv (i := 1) scRunLastsTo.nd rfl (Or.inl rfl) (pe_meth0 (pv 0) T.c_Run T.t_dRunStartsOn (okRunStartsOn T) (hr.mono (by decide)) T.dRunStartsOn.bd .nil pass0))
   (qi (zb (qu op_isN (pv 1) pe_non (nomark _)) (ql (qp pe_non)) pss_nil)
   (ql (qp (zc (okLastDay T) (hr.mono (by decide)) rfl T.dLastDay.mgx T.dLastDay.fn.kp T.dLastDay.bd .nil pass0 (qc (pe_fld (pv 0) rfl) (qc (pv 1) (qc (pe_fld (pv 0) rfl) (qc (pe_fld (pv 0) rfl) qj star_att) star_att) qg) star_att)))))), ?_⟩
  obtain ⟨dx, rl, cn, pr, pp, pg, ur, up, rfl, R⟩ := id hR
  refine ⟨_, rfl, _, _, _, rfl, R.hx, rfl, x, B, _, rd, st, bs, rs, rfl, hR, _, rfl, rfl, _, rfl, iteDn (fun z => nomatch z) ?_⟩
  exact ⟨_, rfl, _, _, _, _, _, rfl, R.hx, T.c_Run, qq T.n_Run (by decide), rfl, _, rfl, _, rfl, _, _, _, _, _, rfl, R.hx, T.c_Run, qq T.n_Run (by decide), rfl, _, rfl, _, _, _, _, _, rfl, R.hx, T.c_Run, qq T.n_Run (by decide), rfl, cn, pp, rd.unit, st.day, st.units, bs, rs, st.ps, rfl, R.kd.same R.sm, tok, ⟨up, R.hp, R.tp⟩, ok.ps, ok.d0, ok.u1, fun H' r s lst => k H' r s lst⟩
theorem okRunStateWord (T : Txt K mg a) : FnOk P w K mg base CX0 1 a.fRunStateWord a.gRunStateWord ["self", "last"] (spSw a) := by
 refine T.dRunStateWord.fn.ok scRunStateWord (fun vs H Q E h => ?_) (fun cdv A outer s H vs Q E hr h => ?_)
 ·obtain ⟨_, _, _, _, _, _, _, _, rfl, _⟩ := h
  all_goals rfl
 ·obtain ⟨x, B, S, rd, st, bs, rs, r, rfl, hR, k⟩ := h
  refine ⟨_, (qi (zb (zf (pe_fld (pv 0) rfl)) (ql (qp zg)) pss_nil)
   (ql (qp (pe_ifExp (qu op_isN (pv 1) pe_non (nomark _)) zg zg)))), ?_⟩
  obtain ⟨dx, rl, cn, pr, pp, pg, ur, up, rfl, R⟩ := id hR
  unfold swd at k
  refine ⟨_, rfl, _, _, _, _, _, rfl, R.hx, T.c_Run, qq T.n_Run (by decide), rfl, _, rfl, ite2 (fun c => ?_) (fun c => ?_)⟩
  ·rw [if_pos c] at k
   exact k
  ·rw [if_neg c] at k
   cases r with
   | none =>
    rw [if_pos rfl] at k
    exact ⟨_, rfl, rfl, _, rfl, iteD rfl k⟩
   | some l =>
    rw [if_neg (fun z => nomatch z)] at k
    exact ⟨_, rfl, rfl, _, rfl, iteDn (fun z => nomatch z) k⟩
theorem okRunAccount (T : Txt K mg a) : FnOk P w K mg base CX0 13 a.fRunAccount a.gRunAccount ["self"] (spAc a) := by
 refine T.dRunAccount.fn.ok scRunAccount (fun vs H Q E h => ?_) (fun cdv A outer s H vs Q E hr h => ?_)
 ·obtain ⟨_, _, _, _, _, _, _, _, _, _, _, _, _, rfl, _⟩ := h
  all_goals rfl
 ·obtain ⟨x, B, S, rd, st, bs, rs, c, r, n, w0, d0, rw0, rfl, hR, tok, ok, lst, hrw, k⟩ := h
  refine ⟨_, (qi (qv (i := 1) scRunAccount.nd rfl (Or.inl rfl) (pe_meth0 (pv 0) T.c_Run T.t_dRunStartsOn (okRunStartsOn T) (hr.mono (by decide)) T.dRunStartsOn.bd .nil pass0))
   (qi (qv (i := 2) scRunAccount.nd rfl (Or.inl rfl) (pe_meth0 (pv 0) T.c_Run T.t_dRunLastsTo (okRunLastsTo T) (hr.mono (by decide)) T.dRunLastsTo.bd .nil pass0))
   (ql (qp (zj (qc (zp zq (zp zr (pe_fld (pv 0) rfl) qk (fun _ _ => rfl)) qk (fun _ _ => rfl)) (qc (pe_meth (pv 0) T.c_Run T.t_dRunStateWord (okRunStateWord T) (hr.mono (by decide)) T.dRunStateWord.bd .nil pass0 (qc (pv 2) qj qg)) (qc (pv 1) (qc (pe_fld (pv 0) rfl) (qc (pe_callTy call_list_of (by rfl) T.n_list boot_list (qc (pe_fld (pv 0) rfl) qj star_att)) (qc (pv 2) (qc (pe_callTy call_list_of (by rfl) T.n_list boot_list (qc (pe_fld (pv 0) rfl) qj star_att)) qj zl) qg) zl) star_att) qg) zl) zn)))))), ?_⟩
  obtain ⟨dx, rl, cn, pr, pp, pg, ur, up, rfl, R⟩ := id hR
  refine ⟨_, rfl, _, _, _, rfl, R.hx, rfl, x, B, _, rd, st, bs, rs, rfl, hR, ?_⟩
  refine ⟨_, rfl, _, _, _, rfl, R.hx, rfl, x, B, _, rd, st, bs, rs, c, rfl, hR, tok, ok, fun H1 r1 s1 lst1 => ?_⟩
  obtain rfl := lst_uniq ok.d0 lst1 lst
  have R1 := R.same s1
  have hR1 := hR.same s1
  have tr := R1.tr
  rw [hrw] at tr
  obtain ⟨q0, hu0, hq0⟩ := tr.get (i := 0) (r := encR (n, d0, w0)) rfl
  refine ⟨_, rfl, _, _, _, _, _, rfl, R1.hx, T.c_Run, qq T.n_Run (by decide), rfl, _, _, _, _, rfl, rfl, SqL.of R1.hr, (atI_nat (j := 0) hu0), _, _, _, _, rfl, rfl, SqT.of hq0, rfl, _, rfl, _, _, _, rfl, R1.hx, rfl, _, rfl, x, B, _, rd, st, bs, rs, r1, rfl, hR1, _, rfl, _, rfl, _, _, _, _, _, rfl, R1.hx, T.c_Run, qq T.n_Run (by decide), rfl, _, rfl, _, _, _, _, _, rfl, R1.hx, T.c_Run, qq T.n_Run (by decide), rfl, _, _, rfl, .inl (SqL.of R1.hp), fun p4 hp4 => ?_⟩
  obtain ⟨s4, e4⟩ := alc (o := .lst up) hp4
  have n4 := s1.free hp4
  generalize upd H1 p4 _ = H4 at s4 e4 ⊢
  have R4 := R1.same s4
  refine ⟨_, rfl, _, rfl, _, _, _, _, _, rfl, R4.hx, T.c_Run, qq T.n_Run (by decide), rfl, _, _, rfl, .inl (SqL.of R4.hr), fun p6 hp6 => ?_⟩
  obtain ⟨s6, e6⟩ := alc (o := .lst ur) hp6
  have n6 := (s1.trans s4).free hp6
  generalize upd H4 p6 _ = H6 at s6 e6 ⊢
  refine ⟨fit7 _ _ _ _ _ _ _, fun q hq => ?_⟩
  have s7 := qy (o := .tup [V.str n, V.str (swd st.over r1), V.int st.day, V.int st.units, V.ref p4, oV r1, V.ref p6]) hq
  have z67 := s6.trans s7
  exact k q p4 p6 _ (s1.trans (s4.trans z67)) ((s1.trans (s4.trans s6)).free hq) n4 n6 ⟨qm, ⟨up, z67 _ _ e4, R4.tp.same z67⟩, ⟨ur, s7 _ _ e6, R4.tr.same z67⟩⟩
theorem okLawTold (T : Txt K mg a) : FnOk P w K mg base CX0 14 a.fLawTold a.gLawTold ["_law_run", "_law_due_here", "_law_over"] (spTo53 a) := by
 refine T.dLawTold.fn.ok scLawTold (fun vs H Q E h => ?_) (fun cdv A outer s H vs Q E hr h => ?_)
 ·obtain ⟨_, _, _, _, _, _, _, _, _, _, _, _, _, _, _, _, rfl, _⟩ := h
  all_goals rfl
 ·obtain ⟨x, q, p4, p6, B, S, rd, st, bs, rs, c, d0, r, n, w0, rw0, rfl, hR, tok, ok, lst, hrw, acc, k⟩ := h
  refine ⟨_, (qi (qv (i := 3) scLawTold.nd rfl (Or.inl rfl) (zp zq (pv 1) qk (fun _ _ => rfl)))
   (qi (zb (PW.pt (pw_or (pt_not (zf (zc (okLawAlike3 T) (hr.mono (by decide)) rfl T.dLawAlike.mgx T.dLawAlike.fn.kp T.dLawAlike.bd .nil pass0 (qc (pe_meth0 (pv 0) T.c_Run T.t_dRunAccount (okRunAccount T) (hr.mono (by decide)) T.dRunAccount.bd .nil pass0) (qc (pv 1) qj qg) zl)))) (pw_or1 (pt_not (zf (zc (okLawAlike3 T) (hr.mono (by decide)) rfl T.dLawAlike.mgx T.dLawAlike.fn.kp T.dLawAlike.bd .nil pass0 (qc (pe_meth0 (pv 0) T.c_Run T.t_dRunLastsTo (okRunLastsTo T) (hr.mono (by decide)) T.dRunLastsTo.bd .nil pass0) (qc (pv 3) qj qg) zl))))))) (ql (qp pe_bl)) pss_nil)
   (qi (qv (i := 4) scLawTold.nd rfl (Or.inl rfl) (pe_meth0 (pv 0) T.c_Run T.t_dRunIsOver (okRunIsOver T) (hr.mono (by decide)) T.dRunIsOver.bd .nil pass0))
   (ql (qp (pe_and (zd call_isi (by rfl) T.n_isinstance boot_isinstance (qc (pv 4) (qc (pe_bltn (v := .ty "bool") rfl T.n_bool boot_bool rfl) qj qg) qg)) (pe_and (pe_cmpR op_eq (pv 4) (pv 2) (nomark _)) (pe_one (zc (okLawAlike3 T) (hr.mono (by decide)) rfl T.dLawAlike.mgx T.dLawAlike.fn.kp T.dLawAlike.bd .nil pass0 (qc (pe_meth0 (pv 0) T.c_Run T.t_dRunStartsOn (okRunStartsOn T) (hr.mono (by decide)) T.dRunStartsOn.bd .nil pass0) (qc (zp zq (pv 1) qk (fun _ _ => rfl)) qj zn) zl)))))))))), ?_⟩
  obtain ⟨dx, rl, cn, pr, pp, pg, ur, up, rfl, R⟩ := id hR
  obtain ⟨a1, a2, a3⟩ := id acc
  have lp : st.ps.length ≤ 1000 := by have := ok.pl; have := ok.rl; omega
  have lr : st.rows.length ≤ 1000 := by have := ok.rl; omega
  refine ⟨_, rfl, _, _, _, _, rfl, rfl, SqT.of (a1), rfl, _, rfl, _, _, _, rfl, R.hx, rfl, x, B, _, rd, st, bs, rs, c, r, n, w0, d0, rw0, rfl, hR, tok, ok, lst, hrw, fun q2 p42 p62 H2 s2 n2 n42 n62 acc2 => ?_⟩
  have accH : AccAt H2 q p4 p6 n st r := ⟨s2 _ _ a1, a2.same s2, a3.same s2⟩
  refine ⟨_, rfl, .ref q2, .ref q, rfl, alk_acc acc2 accH lp lr, fun H3 s3 => ⟨_, rfl, iteF ?_⟩⟩
  have s13 := s2.trans s3
  have R3 := R.same s13
  refine ⟨_, rfl, _, _, _, rfl, R3.hx, rfl, x, B, _, rd, st, bs, rs, c, rfl, hR.same s13, tok, ok, fun H4 r4 s4 lst4 => ?_⟩
  obtain rfl := lst_uniq ok.d0 lst4 lst
  refine ⟨_, rfl, oV r4, oV r4, rfl, alk_sc (oV_scl r4), fun H5 s5 => ⟨_, rfl, iteF ?_⟩⟩
  have s15 := s13.trans (s4.trans s5)
  have R5 := R.same s15
  refine ⟨_, rfl, _, _, _, rfl, R5.hx, rfl, x, B, _, rd, st, bs, rs, rfl, hR.same s15, _, rfl, _, _, _, _, rfl, .bl _, kit_bool_bool, _, rfl, iteT ⟨_, rfl, _, rfl, rfl, _, rfl, iteD rfl ?_⟩⟩
  exact ⟨_, rfl, _, _, _, rfl, R5.hx, rfl, x, B, _, rd, st, bs, rs, rfl, hR.same s15, _, rfl, _, _, _, _, rfl, rfl, SqT.of (s15 _ _ a1), rfl, .int st.day, .int st.day, rfl, alk_sc rfl, fun H6 s6 => k _ (s15.trans s6)⟩
theorem okLawDue (T : Txt K mg a) : FnOk P w K mg base CX0 2 a.fLawDue a.gLawDue ["_law_held", "_law_run", "_law_over", "_law_rows"] spDu53 := by
 refine T.dLawDue.fn.ok scLawDue (fun vs H Q E h => ?_) (fun cdv A outer s H vs Q E hr h => ?_)
 ·obtain ⟨_, _, _, _, _, _, _, _, _, _, _, _, _, rfl, _⟩ := h
  all_goals rfl
 ·obtain ⟨q, pq, pw, v, z, g, d0, st, i, r, n, w0, rw0, rfl, hh, la, hl, hw, hrw, k⟩ := h
  refine ⟨_, (qi (qv (i := 4) scLawDue.nd rfl (Or.inl rfl) (zc (okLawLast T) (hr.mono (by decide)) rfl T.dLawLast.mgx T.dLawLast.fn.kp T.dLawLast.bd .nil pass0 (qc (pv 0) qj qg)))
   (qi (qv (i := 5) scLawDue.nd rfl (Or.inl rfl) zg)
   (qi (zb (qu op_isN (pv 4) pe_non (nomark _)) (ql (qv (i := 5) scLawDue.nd rfl (Or.inl rfl) zg)) pss_nil)
   (qi (zb (zf (pv 2)) (ql (qv (i := 5) scLawDue.nd rfl (Or.inl rfl) zg)) pss_nil)
   (ql (qp (zj (qc (zp zq (zp zr (pv 3) qk (fun _ _ => rfl)) qk (fun _ _ => rfl)) (qc (pv 5) (qc (zp zq (pv 0) qk (fun _ _ => rfl)) (qc (zp zq (pv 0) qk (fun _ _ => rfl)) (qc (pe_callTy call_list_of (by rfl) T.n_list boot_list (qc (zp zq (pv 0) qk (fun _ _ => rfl)) qj zn)) (qc (pv 4) (qc (pe_callTy call_list_of (by rfl) T.n_list boot_list (qc (pv 3) qj qg)) qj zl) qg) zl) zn) zn) qg) zn)))))))), ?_⟩
  obtain ⟨hq0, us, h0, ty⟩ := id hh
  obtain ⟨uw, hw0, tw⟩ := id hw
  have tr := tw
  rw [hrw] at tr
  obtain ⟨q0, hu0, hq0'⟩ := tr.get (i := 0) (r := encR (n, d0, w0)) rfl
  refine ⟨_, rfl, q, pq, z, _, i, r, rfl, hh, la, hl, fun H1 t1 => ?_⟩
  dsimp only [gName, List.set_cons_succ, List.set_cons_zero]
  apply useS (p := fun s => s = swd st.over r)
  ·intro mm
   refine ⟨_, rfl, rfl, _, rfl, ite2 (fun c1 => ?_) (fun c1 => ?_)⟩
   ·refine ⟨_, rfl, _, rfl, ite2 (fun c2 => ?_) (fun c2 => ?_)⟩
    ·dsimp only [gName, List.set_cons_succ, List.set_cons_zero]
     generalize hs : Str.ofString "over" = s
     exact mm s (by unfold swd; rw [if_pos c2, hs])
    ·dsimp only [gName, List.set_cons_succ, List.set_cons_zero]
     exact mm _ (by unfold swd; rw [if_neg c2, if_pos (oV_none (of_decide_eq_true c1))])
   ·refine ⟨_, rfl, _, rfl, ite2 (fun c2 => ?_) (fun c2 => ?_)⟩
    ·dsimp only [gName, List.set_cons_succ, List.set_cons_zero]
     exact mm _ (by unfold swd; rw [if_pos c2])
    ·dsimp only [gName, List.set_cons_succ, List.set_cons_zero]
     exact mm _ (by unfold swd; rw [if_neg c2, if_neg (fun z => c1 (decide_eq_true (by rw [z]; rfl)))])
  ·rintro s rfl
   refine ⟨_, rfl, _, _, _, _, rfl, rfl, SqL.of (t1 _ _ hw0), (atI_nat (j := 0) hu0), _, _, _, _, rfl, rfl, SqT.of (t1 _ _ hq0'), rfl, _, rfl, _, rfl, _, _, _, _, rfl, rfl, SqT.of (t1 _ _ hq0), rfl, _, rfl, _, _, _, _, rfl, rfl, SqT.of (t1 _ _ hq0), rfl, _, rfl, _, _, _, _, rfl, rfl, SqT.of (t1 _ _ hq0), rfl, _, _, rfl, .inl (SqL.of (t1 _ _ h0)), fun p4 hp4 => ?_⟩
   obtain ⟨s4, e4⟩ := alc (o := .lst us) hp4
   generalize upd H1 p4 _ = H4 at s4 e4 ⊢
   have z4 := t1.trans s4
   refine ⟨_, rfl, _, rfl, _, _, rfl, .inl (SqL.of (z4 _ _ hw0)), fun p6 hp6 => ?_⟩
   obtain ⟨s6, e6⟩ := alc (o := .lst uw) hp6
   generalize upd H4 p6 _ = H6 at s6 e6 ⊢
   refine ⟨fit7 _ _ _ _ _ _ _, fun q7 hq7 => ?_⟩
   have s7 := qy (o := .tup [V.str n, V.str (swd st.over r), V.int st.day, V.int st.units, V.ref p4, oV r, V.ref p6]) hq7
   have z67 := s6.trans s7
   exact k q7 p4 p6 _ (z4.trans z67) ((z4.trans s6).free hq7) (t1.free hp4) (z4.free hp6) ⟨qm, ⟨us, z67 _ _ e4, ty.same (z4.trans z67)⟩, ⟨uw, s7 _ _ e6, tw.same (z4.trans z67)⟩⟩
theorem okLawRole (T : Txt K mg a) : FnOk P w K mg base CX0 1 a.fLawRole a.gLawRole ["_law_cell"] spRo53 := by
 refine T.dLawRole.fn.ok scLawRole (fun vs H Q E h => ?_) (fun cdv A outer s H vs Q E hr h => ?_)
 ·obtain ⟨_, rfl, _⟩ := h
  all_goals rfl
 ·obtain ⟨c, rfl, c0, c24, k⟩ := h
  refine ⟨_, (qi (zb (qu op_lt (pv 0) qk (nomark _)) (ql (qp (zp zr (zh (qc zg (qc zg qj qo) qo)) (pv 0) (fun _ _ => rfl)))) pss_nil)
   (qi (qv (i := 1) scLawRole.nd rfl (Or.inl rfl) (zh (qc zg (qc zg (qc zg (qc zg (qc zg (qc zg (qc zg (qc zg (qc zg (qc zg (qc zg qj qo) qo) qo) qo) qo) qo) qo) qo) qo) qo) qo)))
   (ql (qp (zp zr (pv 1) (qx op_sub (qx op_fdiv (pv 0) qk) qk) (fun _ _ => rfl)))))), ?_⟩
  refine ⟨_, rfl, _, _, rfl, rfl, _, rfl, ite2 (fun c1 => ?_) (fun c1 => ?_)⟩
  ·have c1 := of_decide_eq_true c1
   obtain ⟨j, j8, hj⟩ := rl2_at c0 c1
   refine ⟨fit2 _ _, fun p hp => ?_⟩
   exact ⟨_, rfl, _, _, _, _, rfl, rfl, SqL.of qm, hj, k j _ j8 (qy hp)⟩
  ·have c1 : ¬ c < 2 := fun z => c1 (decide_eq_true z)
   refine ⟨fits (show 11 ≤ 100000 by decide), fun p hp => ?_⟩
   obtain ⟨s1, e1⟩ := alc (o := .lst [V.str (Str.ofString "anew"), V.str (Str.ofString "longer"), V.str (Str.ofString "still"), V.str (Str.ofString "goes on"), V.str (Str.ofString "from"), V.str (Str.ofString "none"), V.str (Str.ofString "still"), V.str (Str.ofString "goes on"), V.str (Str.ofString "longer"), V.str (Str.ofString "goes on"), V.str (Str.ofString "still")]) hp
   generalize upd H p _ = H1 at s1 e1 ⊢
   have e1 : H1 p = some (.lst (rlx.map V.str)) := e1
   obtain ⟨i, hi⟩ : ∃ i : Nat, c / 2 - 1 = (i : Int) := ⟨(c / 2 - 1).toNat, by omega⟩
   obtain ⟨j, j8, hj⟩ := rlx_at i (by omega)
   refine ⟨_, rfl, _, rfl, _, _, rfl, rfl, ⟨by decide, by decide⟩, _, _, rfl, rfl, _, _, _, _, rfl, rfl, SqL.of e1, (show atI (rlx.map V.str) (c / 2 - 1) = some (V.str (rlw j)) by rw [hi]; exact atI_nat (by rw [List.getElem?_map, hj]; rfl)), k j _ j8 s1⟩
theorem okRunSetOut (T : Txt K mg a) : FnOk P w K mg base CX0 1 a.fRunSetOut a.gRunSetOut ["self", "day", "base"] (spSetO a) := by
 refine T.dRunSetOut.fn.ok scRunSetOut (fun vs H Q E h => ?_) (fun cdv A outer s H vs Q E hr h => ?_)
 ·obtain ⟨_, _, _, _, _, _, _, _, _, rfl, _⟩ := h
  all_goals rfl
 ·obtain ⟨x, dx, rl, cn, pr, ov, fs, d, rd, rfl, hx, hfs, hrl, nrl, k⟩ := h
  refine ⟨_, (qi (ps_fld (pv 0) (pv 1) rfl)
   (qi (ps_fld (pv 0) (pv 2) rfl)
   (qi (ps_fld (pv 0) (pe_fld (pe_fld (pv 0) rfl) rfl) rfl)
   (qi (ps_fld (pv 0) (zh qj) rfl)
   (ql (ps_fld (pv 0) pe_dnewK rfl)))))), ?_⟩
  obtain ⟨dxr, pe, pa, pl, vn, vw, vp, vb, vs', py, us, hrl1, _⟩ := hrl
  rcases hfs with rfl | ⟨dy, b9, un, p9, g9, rfl⟩
  ·have b0 : SameBut x H H := fun _ _ _ e => e
   have x0 : H x = some (.ins a.cRun dx (rn4 (.ref rl) cn pr ov)) := hx
   have g0 := hrl1
   refine ⟨_, rfl, _, rfl, _, _, _, _, rfl, x0, T.c_Run, qq T.n_Run (by decide), (show 4 < 1000 by decide), ?_⟩
   rw [show putF (Str.ofString "day") (.int d) (rn4 (.ref rl) cn pr ov) = (rn5 (.ref rl) cn pr ov (.int d)) by with_unfolding_all rfl]
   have b1 : SameBut x H (upd H x (.ins a.cRun dx (rn5 (.ref rl) cn pr ov (.int d)))) := b0.set
   have x1 := qm (H := H) (a := x) (o := .ins a.cRun dx (rn5 (.ref rl) cn pr ov (.int d)))
   have g1 := (qr (o := .ins a.cRun dx (rn5 (.ref rl) cn pr ov (.int d))) nrl).trans g0
   generalize upd H x _ = H1 at b1 x1 g1 ⊢
   refine ⟨_, rfl, _, rfl, _, _, _, _, rfl, x1, T.c_Run, qq T.n_Run (by decide), (show 5 < 1000 by decide), ?_⟩
   rw [show putF (Str.ofString "base") (.non) (rn5 (.ref rl) cn pr ov (.int d)) = (rn6 (.ref rl) cn pr ov (.int d) .non) by with_unfolding_all rfl]
   have b2 : SameBut x H (upd H1 x (.ins a.cRun dx (rn6 (.ref rl) cn pr ov (.int d) .non))) := b1.set
   have x2 := qm (H := H1) (a := x) (o := .ins a.cRun dx (rn6 (.ref rl) cn pr ov (.int d) .non))
   have g2 := (qr (o := .ins a.cRun dx (rn6 (.ref rl) cn pr ov (.int d) .non)) nrl).trans g1
   generalize upd H1 x _ = H2 at b2 x2 g2 ⊢
   refine ⟨_, rfl, _, _, _, _, _, rfl, x2, T.c_Run, qq T.n_Run (by decide), rfl, _, _, _, _, _, rfl, g2, T.c_Rule, qq T.n_Rule (by decide), rfl, _, rfl, _, _, _, _, rfl, x2, T.c_Run, qq T.n_Run (by decide), (show 6 < 1000 by decide), ?_⟩
   rw [show putF (Str.ofString "units") (.int rd.many) (rn6 (.ref rl) cn pr ov (.int d) .non) = (rn7 (.ref rl) cn pr ov (.int d) .non (.int rd.many)) by with_unfolding_all rfl]
   have b3 : SameBut x H (upd H2 x (.ins a.cRun dx (rn7 (.ref rl) cn pr ov (.int d) .non (.int rd.many)))) := b2.set
   have x3 := qm (H := H2) (a := x) (o := .ins a.cRun dx (rn7 (.ref rl) cn pr ov (.int d) .non (.int rd.many)))
   have g3 := (qr (o := .ins a.cRun dx (rn7 (.ref rl) cn pr ov (.int d) .non (.int rd.many))) nrl).trans g2
   generalize upd H2 x _ = H3 at b3 x3 g3 ⊢
   refine ⟨fit0, fun pp npp => ?_⟩
   obtain ⟨s3, epp⟩ := alc (o := .lst []) npp
   have x3' := s3 _ _ x3
   have nepp : pp ≠ x := fun z => by rw [z, x3] at npp; cases npp
   have fpp : H pp = none := b3.free nepp npp
   have b3' := b3.trans (SameBut.of s3)
   generalize upd H3 pp _ = J3 at s3 epp x3' b3'  ⊢
   refine ⟨_, rfl, _, _, _, _, rfl, x3', T.c_Run, qq T.n_Run (by decide), (show 7 < 1000 by decide), ?_⟩
   rw [show putF (Str.ofString "pauses") (.ref pp) (rn7 (.ref rl) cn pr ov (.int d) .non (.int rd.many)) = (rn8 (.ref rl) cn pr ov (.int d) .non (.int rd.many) (.ref pp)) by with_unfolding_all rfl]
   have b4 : SameBut x H (upd J3 x (.ins a.cRun dx (rn8 (.ref rl) cn pr ov (.int d) .non (.int rd.many) (.ref pp)))) := b3'.set
   have x4 := qm (H := J3) (a := x) (o := .ins a.cRun dx (rn8 (.ref rl) cn pr ov (.int d) .non (.int rd.many) (.ref pp)))
   have epp := (qr (o := .ins a.cRun dx (rn8 (.ref rl) cn pr ov (.int d) .non (.int rd.many) (.ref pp))) nepp).trans epp
   generalize upd J3 x _ = H4 at b4 x4 epp ⊢
   refine fun pg npg => ?_
   obtain ⟨s4, epg⟩ := alc (o := .dK []) npg
   have x4' := s4 _ _ x4
   have nepg : pg ≠ x := fun z => by rw [z, x4] at npg; cases npg
   have fpg : H pg = none := b4.free nepg npg
   have b4' := b4.trans (SameBut.of s4)
   have epp := s4 _ _ epp
   generalize upd H4 pg _ = J4 at s4 epg x4' b4' epp ⊢
   refine ⟨_, rfl, _, _, _, _, rfl, x4', T.c_Run, qq T.n_Run (by decide), (show 8 < 1000 by decide), ?_⟩
   rw [show putF (Str.ofString "grants") (.ref pg) (rn8 (.ref rl) cn pr ov (.int d) .non (.int rd.many) (.ref pp)) = (rn9 (.ref rl) cn pr ov (.int d) .non (.int rd.many) (.ref pp) (.ref pg)) by with_unfolding_all rfl]
   have b5 : SameBut x H (upd J4 x (.ins a.cRun dx (rn9 (.ref rl) cn pr ov (.int d) .non (.int rd.many) (.ref pp) (.ref pg)))) := b4'.set
   have x5 := qm (H := J4) (a := x) (o := .ins a.cRun dx (rn9 (.ref rl) cn pr ov (.int d) .non (.int rd.many) (.ref pp) (.ref pg)))
   have epp := (qr (o := .ins a.cRun dx (rn9 (.ref rl) cn pr ov (.int d) .non (.int rd.many) (.ref pp) (.ref pg))) nepp).trans epp
   have epg := (qr (o := .ins a.cRun dx (rn9 (.ref rl) cn pr ov (.int d) .non (.int rd.many) (.ref pp) (.ref pg))) nepg).trans epg
   generalize upd J4 x _ = H5 at b5 x5 epp epg ⊢
   exact k H5 pp pg b5 fpp fpg x5 epp epg
  ·have b0 : SameBut x H H := fun _ _ _ e => e
   have x0 : H x = some (.ins a.cRun dx (rn9 (.ref rl) cn pr ov dy b9 un p9 g9)) := hx
   have g0 := hrl1
   refine ⟨_, rfl, _, rfl, _, _, _, _, rfl, x0, T.c_Run, qq T.n_Run (by decide), (show 9 < 1000 by decide), ?_⟩
   rw [show putF (Str.ofString "day") (.int d) (rn9 (.ref rl) cn pr ov dy b9 un p9 g9) = (rn9 (.ref rl) cn pr ov (.int d) b9 un p9 g9) by with_unfolding_all rfl]
   have b1 : SameBut x H (upd H x (.ins a.cRun dx (rn9 (.ref rl) cn pr ov (.int d) b9 un p9 g9))) := b0.set
   have x1 := qm (H := H) (a := x) (o := .ins a.cRun dx (rn9 (.ref rl) cn pr ov (.int d) b9 un p9 g9))
   have g1 := (qr (o := .ins a.cRun dx (rn9 (.ref rl) cn pr ov (.int d) b9 un p9 g9)) nrl).trans g0
   generalize upd H x _ = H1 at b1 x1 g1 ⊢
   refine ⟨_, rfl, _, rfl, _, _, _, _, rfl, x1, T.c_Run, qq T.n_Run (by decide), (show 9 < 1000 by decide), ?_⟩
   rw [show putF (Str.ofString "base") (.non) (rn9 (.ref rl) cn pr ov (.int d) b9 un p9 g9) = (rn9 (.ref rl) cn pr ov (.int d) .non un p9 g9) by with_unfolding_all rfl]
   have b2 : SameBut x H (upd H1 x (.ins a.cRun dx (rn9 (.ref rl) cn pr ov (.int d) .non un p9 g9))) := b1.set
   have x2 := qm (H := H1) (a := x) (o := .ins a.cRun dx (rn9 (.ref rl) cn pr ov (.int d) .non un p9 g9))
   have g2 := (qr (o := .ins a.cRun dx (rn9 (.ref rl) cn pr ov (.int d) .non un p9 g9)) nrl).trans g1
   generalize upd H1 x _ = H2 at b2 x2 g2 ⊢
   refine ⟨_, rfl, _, _, _, _, _, rfl, x2, T.c_Run, qq T.n_Run (by decide), rfl, _, _, _, _, _, rfl, g2, T.c_Rule, qq T.n_Rule (by decide), rfl, _, rfl, _, _, _, _, rfl, x2, T.c_Run, qq T.n_Run (by decide), (show 9 < 1000 by decide), ?_⟩
   rw [show putF (Str.ofString "units") (.int rd.many) (rn9 (.ref rl) cn pr ov (.int d) .non un p9 g9) = (rn9 (.ref rl) cn pr ov (.int d) .non (.int rd.many) p9 g9) by with_unfolding_all rfl]
   have b3 : SameBut x H (upd H2 x (.ins a.cRun dx (rn9 (.ref rl) cn pr ov (.int d) .non (.int rd.many) p9 g9))) := b2.set
   have x3 := qm (H := H2) (a := x) (o := .ins a.cRun dx (rn9 (.ref rl) cn pr ov (.int d) .non (.int rd.many) p9 g9))
   have g3 := (qr (o := .ins a.cRun dx (rn9 (.ref rl) cn pr ov (.int d) .non (.int rd.many) p9 g9)) nrl).trans g2
   generalize upd H2 x _ = H3 at b3 x3 g3 ⊢
   refine ⟨fit0, fun pp npp => ?_⟩
   obtain ⟨s3, epp⟩ := alc (o := .lst []) npp
   have x3' := s3 _ _ x3
   have nepp : pp ≠ x := fun z => by rw [z, x3] at npp; cases npp
   have fpp : H pp = none := b3.free nepp npp
   have b3' := b3.trans (SameBut.of s3)
   generalize upd H3 pp _ = J3 at s3 epp x3' b3'  ⊢
   refine ⟨_, rfl, _, _, _, _, rfl, x3', T.c_Run, qq T.n_Run (by decide), (show 9 < 1000 by decide), ?_⟩
   rw [show putF (Str.ofString "pauses") (.ref pp) (rn9 (.ref rl) cn pr ov (.int d) .non (.int rd.many) p9 g9) = (rn9 (.ref rl) cn pr ov (.int d) .non (.int rd.many) (.ref pp) g9) by with_unfolding_all rfl]
   have b4 : SameBut x H (upd J3 x (.ins a.cRun dx (rn9 (.ref rl) cn pr ov (.int d) .non (.int rd.many) (.ref pp) g9))) := b3'.set
   have x4 := qm (H := J3) (a := x) (o := .ins a.cRun dx (rn9 (.ref rl) cn pr ov (.int d) .non (.int rd.many) (.ref pp) g9))
   have epp := (qr (o := .ins a.cRun dx (rn9 (.ref rl) cn pr ov (.int d) .non (.int rd.many) (.ref pp) g9)) nepp).trans epp
   generalize upd J3 x _ = H4 at b4 x4 epp ⊢
   refine fun pg npg => ?_
   obtain ⟨s4, epg⟩ := alc (o := .dK []) npg
   have x4' := s4 _ _ x4
   have nepg : pg ≠ x := fun z => by rw [z, x4] at npg; cases npg
   have fpg : H pg = none := b4.free nepg npg
   have b4' := b4.trans (SameBut.of s4)
   have epp := s4 _ _ epp
   generalize upd H4 pg _ = J4 at s4 epg x4' b4' epp ⊢
   refine ⟨_, rfl, _, _, _, _, rfl, x4', T.c_Run, qq T.n_Run (by decide), (show 9 < 1000 by decide), ?_⟩
   rw [show putF (Str.ofString "grants") (.ref pg) (rn9 (.ref rl) cn pr ov (.int d) .non (.int rd.many) (.ref pp) g9) = (rn9 (.ref rl) cn pr ov (.int d) .non (.int rd.many) (.ref pp) (.ref pg)) by with_unfolding_all rfl]
   have b5 : SameBut x H (upd J4 x (.ins a.cRun dx (rn9 (.ref rl) cn pr ov (.int d) .non (.int rd.many) (.ref pp) (.ref pg)))) := b4'.set
   have x5 := qm (H := J4) (a := x) (o := .ins a.cRun dx (rn9 (.ref rl) cn pr ov (.int d) .non (.int rd.many) (.ref pp) (.ref pg)))
   have epp := (qr (o := .ins a.cRun dx (rn9 (.ref rl) cn pr ov (.int d) .non (.int rd.many) (.ref pp) (.ref pg))) nepp).trans epp
   have epg := (qr (o := .ins a.cRun dx (rn9 (.ref rl) cn pr ov (.int d) .non (.int rd.many) (.ref pp) (.ref pg))) nepg).trans epg
   generalize upd J4 x _ = H5 at b5 x5 epp epg ⊢
   exact k H5 pp pg b5 fpp fpg x5 epp epg
theorem okRunInit (T : Txt K mg a) : FnOk P w K mg base CX0 4 a.fRunInit a.gRunInit ["self", "rule", "table", "name", "day", "base"] (spRnInit a) := by
 refine T.dRunInit.fn.ok scRunInit (fun vs H Q E h => ?_) (fun cdv A outer s H vs Q E hr h => ?_)
 ·obtain ⟨_, _, _, _, _, _, _, _, _, _, rfl, _⟩ := h
  all_goals rfl
 ·obtain ⟨x, dx, rl, tb, n, d, rd, bs, rs, Hb, rfl, hx, sb, bx, hrl, htb, k⟩ := h
  refine ⟨_, (qi (ps_fld (pv 0) (pv 1) rfl)
   (qi (ps_fld (pv 0) (zc (okKindOf T) (hr.mono (by decide)) rfl T.dKindOf.mgx T.dKindOf.fn.kp T.dKindOf.bd .nil pass0 (qc (pe_fld (pv 1) rfl) (qc (pv 2) qj qg) star_att)) rfl)
   (qi (ps_fld (pv 0) (zh (qc (zj (qc (pv 3) (qc (pv 4) (qc zg qj qo) qg) qg)) qj zo)) rfl)
   (qi (ps_fld (pv 0) pe_bl rfl)
   (ql (qz (pe_meth (pv 0) T.c_Run T.t_dRunSetOut (okRunSetOut T) (hr.mono (by decide)) T.dRunSetOut.bd .nil pass0 (qc (pv 4) (qc (pv 5) qj qg) qg)))))))), ?_⟩
  have hrl0 := hrl.same sb
  have htb0 := htb.same sb
  obtain ⟨dxr, pe, pa, pl, vn, vw, vp, vb, vs', py, us, hrl1, _⟩ := id hrl0
  have nrl : rl ≠ x := fun z => by
   obtain ⟨dxr, pe, pa, pl, vn, vw, vp, vb, vs', py, us, hrl1, _⟩ := id hrl
   rw [z, bx] at hrl1; cases hrl1
  refine ⟨_, rfl, _, rfl, _, _, _, _, rfl, hx, T.c_Run, qq T.n_Run (by decide), (show 0 < 1000 by decide), ?_⟩
  rw [show putF (Str.ofString "rule") (.ref rl) [] = (rn1 (.ref rl)) by with_unfolding_all rfl]
  have z1 : Same Hb (upd H x (.ins a.cRun dx (rn1 (.ref rl)))) := same_add sb bx
  have x1 := qm (H := H) (a := x) (o := .ins a.cRun dx (rn1 (.ref rl)))
  have g1 := (qr (o := .ins a.cRun dx (rn1 (.ref rl))) nrl).trans hrl1
  generalize upd H x _ = H1 at z1 x1 g1 ⊢
  refine ⟨_, rfl, _, _, _, _, _, rfl, g1, T.c_Rule, qq T.n_Rule (by decide), rfl, _, rfl, rd.unit, tb, rfl, fun cn dxc H2 s2 ncn hcn => ?_⟩
  have x2 := s2 _ _ x1
  have z2 := z1.trans s2
  have ncx : cn ≠ x := fun z => by rw [z, x1] at ncn; cases ncn
  refine ⟨_, rfl, _, _, _, _, rfl, x2, T.c_Run, qq T.n_Run (by decide), (show 1 < 1000 by decide), ?_⟩
  rw [show putF (Str.ofString "counting") (.ref cn) (rn1 (.ref rl)) = (rn2 (.ref rl) (.ref cn)) by with_unfolding_all rfl]
  have z3 : Same Hb (upd H2 x (.ins a.cRun dx (rn2 (.ref rl) (.ref cn)))) := same_add z2 bx
  have x3 := qm (H := H2) (a := x) (o := .ins a.cRun dx (rn2 (.ref rl) (.ref cn)))
  have hcn3 := (qr (o := .ins a.cRun dx (rn2 (.ref rl) (.ref cn))) ncx).trans hcn
  generalize upd H2 x _ = H3 at z3 x3 hcn3 ⊢
  refine ⟨_, rfl, _, rfl, fit3 _ _ _, fun q1 hq1 => ?_⟩
  obtain ⟨s4, e4⟩ := alc (o := .tup [V.str n, V.int d, V.str (Str.ofString "begins")]) hq1
  generalize upd H3 q1 _ = H4 at s4 e4 ⊢
  refine ⟨fit1 _, fun pr hpr => ?_⟩
  obtain ⟨s5, e5⟩ := alc (o := .lst [V.ref q1]) hpr
  have npr := (z3.trans s4).free hpr
  generalize upd H4 pr _ = H5 at s5 e5 ⊢
  have s35 := s4.trans s5
  have x5 := s35 _ _ x3
  have hcn5 := s35 _ _ hcn3
  have e4 := s5 _ _ e4
  have z5 := z3.trans s35
  have nprx : pr ≠ x := Ne.symm (ne_il x5 e5)
  have nqx : q1 ≠ x := fun z => by rw [z, x5] at e4; cases e4
  refine ⟨_, rfl, _, _, _, _, rfl, x5, T.c_Run, qq T.n_Run (by decide), (show 2 < 1000 by decide), ?_⟩
  rw [show putF (Str.ofString "rows") (.ref pr) (rn2 (.ref rl) (.ref cn)) = (rn3 (.ref rl) (.ref cn) (.ref pr)) by with_unfolding_all rfl]
  have z6 : Same Hb (upd H5 x (.ins a.cRun dx (rn3 (.ref rl) (.ref cn) (.ref pr)))) := same_add z5 bx
  have x6 := qm (H := H5) (a := x) (o := .ins a.cRun dx (rn3 (.ref rl) (.ref cn) (.ref pr)))
  have hcn6 := (qr (o := .ins a.cRun dx (rn3 (.ref rl) (.ref cn) (.ref pr))) ncx).trans hcn5
  have e5' := (qr (o := .ins a.cRun dx (rn3 (.ref rl) (.ref cn) (.ref pr))) nprx).trans e5
  have e4' := (qr (o := .ins a.cRun dx (rn3 (.ref rl) (.ref cn) (.ref pr))) nqx).trans e4
  generalize upd H5 x _ = H6 at z6 x6 hcn6 e5' e4' ⊢
  refine ⟨_, rfl, _, _, _, _, rfl, x6, T.c_Run, qq T.n_Run (by decide), (show 3 < 1000 by decide), ?_⟩
  rw [show putF (Str.ofString "over") (.bl false) (rn3 (.ref rl) (.ref cn) (.ref pr)) = (rn4 (.ref rl) (.ref cn) (.ref pr) (.bl false)) by with_unfolding_all rfl]
  have z7 : Same Hb (upd H6 x (.ins a.cRun dx (rn4 (.ref rl) (.ref cn) (.ref pr) (.bl false)))) := same_add z6 bx
  have x7 := qm (H := H6) (a := x) (o := .ins a.cRun dx (rn4 (.ref rl) (.ref cn) (.ref pr) (.bl false)))
  have hcn7 := (qr (o := .ins a.cRun dx (rn4 (.ref rl) (.ref cn) (.ref pr) (.bl false))) ncx).trans hcn6
  have e57 := (qr (o := .ins a.cRun dx (rn4 (.ref rl) (.ref cn) (.ref pr) (.bl false))) nprx).trans e5'
  have e47 := (qr (o := .ins a.cRun dx (rn4 (.ref rl) (.ref cn) (.ref pr) (.bl false))) nqx).trans e4'
  generalize upd H6 x _ = H7 at z7 x7 hcn7 e57 e47 ⊢
  refine ⟨_, rfl, _, _, _, rfl, x7, rfl, _, rfl, _, rfl, x, dx, rl, .ref cn, .ref pr, .bl false, _, d, rd, rfl, x7, .inl rfl, hrl.same z7, nrl, fun H8 pp pg b8 npp npg x8 epp epg => ?_⟩
  have z8 : Same Hb H8 := fun b o e => b8 b o (ne_of_none e bx) (z7 b o e)
  have hcn8 := b8 _ _ ncx hcn7
  have e58 := b8 _ _ nprx e57
  have e48 := b8 _ _ nqx e47
  have pne : pr ≠ pp := fun z => by rw [← z, e57] at npp; cases npp
  refine k H8 (Msk [x, pr, pp, pg] H8) [x, pr, pp, pg] (fun b o e => ?_) z8 (fun b hb => ?_) ⟨dx, rl, cn, pr, pp, pg, [V.ref q1], [], rfl, ?_⟩
  ·rw [msk_at (fun hb => by rw [own_free bx npr (z7.free npp) (z7.free npg) b hb] at e; cases e)]; exact z8 b o e
  ·exact own_free bx npr (z7.free npp) (z7.free npg) b hb
  ·have sB : Same Hb (Msk [x, pr, pp, pg] H8) := fun b o e => by
    rw [msk_at (fun hb => by rw [own_free bx npr (z7.free npp) (z7.free npg) b hb] at e; cases e)]; exact z8 b o e
   have cnS : cn ∉ [x, pr, pp, pg] := fun hb => by
    rcases List.mem_cons.mp hb with z | hb
    ·exact ncx z
    ·rcases List.mem_cons.mp hb with z | hb
     ·rw [z, e58] at hcn8; cases hcn8
     ·rcases List.mem_cons.mp hb with z | hb
      ·rw [z, epp] at hcn8; cases hcn8
      ·rw [List.mem_singleton.mp hb, epg] at hcn8; cases hcn8
   exact ⟨pne, x8, e58, .cons e48 .nil, epp, .nil, epg, hrl.same sB, ⟨dxc, tb, (msk_at cnS).trans hcn8, htb.same sB⟩, msk_same, msk_in (by simp), msk_in (by simp), msk_in (by simp), msk_in (by simp)⟩
theorem okPatternInit (T : Txt K mg a) : FnOk P w K mg base CX0 5 a.fPatternInit a.gPatternInit ["self", "week", "yearly"] (spPInit a) := by
 refine T.dPatternInit.fn.ok scPatternInit (fun vs H Q E h => ?_) (fun cdv A outer s H vs Q E hr h => ?_)
 ·obtain ⟨_, _, _, _, _, _, rfl, _⟩ := h
  all_goals rfl
 ·obtain ⟨x, dx, pw, py, wk', yr, rfl, hx, hw, hy, okw, oky, k⟩ := h
  refine ⟨_, (qi (qz (zc (okRefuseWeek T) (hr.mono (by decide)) rfl T.dRefuseWeek.mgx T.dRefuseWeek.fn.kp T.dRefuseWeek.bd .nil pass0 (qc (pv 1) qj qg)))
   (qi (qz (zc (okRefuseYearly T) (hr.mono (by decide)) rfl T.dRefuseYearly.mgx T.dRefuseYearly.fn.kp T.dRefuseYearly.bd .nil pass0 (qc (pv 2) qj qg)))
   (qi (ps_fld (pv 0) (pe_comp (N := ["within", "week", "yearly"]) (js := [none, some 1, some 2]) (XN := ["self", "week", "yearly"]) (xs := defScope sPatternInit) rfl rfl rfl (by decide +kernel) (pi_range1 rfl T.n_range (qc (pe_glob (v := .int 371) rfl T.g_LONG_YEAR.choose_spec ⟨_, rfl⟩) qj qg)) (fun _ _ _ _ _ _ => (pg_name (i := 0) (show List.Nodup (["within", "week", "yearly"] : List Str) from by decide +kernel) rfl (Or.inl rfl) (Or.inr rfl))) (fun _ _ _ _ _ _ => pts_nil) (fun _ _ _ _ _ _ => (zc (okIsFreeWithin T) (hr.mono (by decide)) rfl T.dIsFreeWithin.mgx T.dIsFreeWithin.fn.kp T.dIsFreeWithin.bd .nil pass0 (qc (pv 0) (qc (pv 1) (qc (pv 2) qj qg) qg) qg)))) rfl)
   (qi (ps_fld (pv 0) (pe_comp (N := ["within", "self"]) (js := [none, some 0]) (XN := ["self", "week", "yearly"]) (xs := defScope sPatternInit) rfl rfl rfl (by decide +kernel) (pi_range1 rfl T.n_range (qc (pe_glob (v := .int 371) rfl T.g_LONG_YEAR.choose_spec ⟨_, rfl⟩) qj qg)) (fun _ _ _ _ _ _ => (pg_name (i := 0) (show List.Nodup (["within", "self"] : List Str) from by decide +kernel) rfl (Or.inl rfl) (Or.inr rfl))) (fun _ _ _ _ _ _ => (pts_one (pt_not (zf (zp (ix_listC (K := K) rfl) (pe_fldK (K := K) rfl (pv 1) rfl) (pv 0) (fun _ _ => rfl)))))) (fun _ _ _ _ _ _ => (pv 0))) rfl)
   (ql (ps_fld (pv 0) (zc (okCountedUp T) (hr.mono (by decide)) rfl T.dCountedUp.mgx T.dCountedUp.fn.kp T.dCountedUp.bd .nil pass0 (qc (pe_fld (pv 0) rfl) qj star_att)) rfl)))))), ?_⟩
  refine ⟨_, rfl, _, _, rfl, hw, okw, fun H1 s1 => ?_⟩
  refine ⟨_, rfl, _, _, rfl, hy.same s1, oky, fun H2 s2 => ?_⟩
  have s12 := s1.trans s2
  have hly := oky.len
  refine ⟨_, rfl, by decide, by decide, ?_⟩
  refine comp_grow (fun v => match v with | .int i => .bl (fy wk' yr i) | _ => .non) (fun σ' => ∃ v, σ' = [v, some (.ref pw), some (.ref py)]) feeds_range (fits (by rw [List.length_map, List.length_range]; decide)) ⟨none, rfl⟩ (fun v σ' H' RR hv sm s4 q => ?_) gk_name fun p3 H3 hp3 s3 e3 => ?_
  ·obtain ⟨v0, rfl⟩ := s4
   obtain ⟨j, _, rfl⟩ := List.mem_map.mp hv
   exact ⟨_, rfl, _, rfl, _, rfl, _, _, _, _, _, rfl, sm _ _ (s12 _ _ hw), (hy.same s12).same sm, by omega, fun H5 s5 => q _ H5 ⟨_, rfl⟩ s5⟩
  have e3' : H3 p3 = some (.lst ((fdL wk' yr).map V.bl)) := by
   rw [e3]
   unfold fdL
   rw [List.map_map, List.map_map]
   refine congrArg (fun l => some (HO.lst l)) (List.map_congr_left fun j _ => ?_)
   show V.bl (fy wk' yr (0 + (j : Int))) = V.bl (fy wk' yr (j : Int))
   rw [Int.zero_add]
  have s123 := s12.trans s3
  have hx3 := s123 _ _ hx
  refine ⟨_, rfl, _, _, _, _, rfl, hx3, T.c_Pattern, qq T.n_Pattern (by decide), by decide, ?_⟩
  rw [put1]
  have n3 : p3 ≠ x := fun z => by rw [z, s12 _ _ hx] at hp3; cases hp3
  have b3 : SameBut x H (upd H3 x (.ins a.cPattern dx [(Str.ofString "free_days", .ref p3)])) := (SameBut.of s123).set
  have f3 := (qr (o := .ins a.cPattern dx [(Str.ofString "free_days", .ref p3)]) n3).trans e3'
  have x3 := qm (H := H3) (a := x) (o := .ins a.cPattern dx [(Str.ofString "free_days", .ref p3)])
  generalize upd H3 x (.ins a.cPattern dx [(Str.ofString "free_days", .ref p3)]) = H4 at b3 f3 x3 ⊢
  refine ⟨_, rfl, by decide, by decide, ?_⟩
  refine comp_filt (fun v => match v with | .int i => !((fdL wk' yr).getD i.toNat true) | _ => false) (fun v => v) (fun σ' => ∃ v, σ' = [v, some (.ref x)]) feeds_range (fits (by rw [List.length_map, List.length_range]; decide)) ⟨none, rfl⟩ (fun v σ' H' N RR hv sm s4 kn ky => ?_) gk_name fun p5 hp5 => ?_
  ·obtain ⟨v0, rfl⟩ := s4
   obtain ⟨j, hj, rfl⟩ := List.mem_map.mp hv
   have hj' : j < 371 := by simpa using hj
   have ej : (0 : Int) + (j : Int) = (j : Int) := Int.zero_add _
   rw [ej] at kn ky ⊢
   have hlt : j < (fdL wk' yr).length := by rw [fdL_len]; exact hj'
   have eg : (fdL wk' yr)[j]? = some ((fdL wk' yr)[j]) := List.getElem?_eq_getElem hlt
   have eD : (fdL wk' yr).getD ((j : Int)).toNat true = (fdL wk' yr)[j] := by rw [Int.toNat_natCast, List.getD_eq_getElem?_getD, eg]; rfl
   refine ⟨_, rfl, _, _, _, _, _, rfl, sm _ _ x3, T.c_Pattern, qq T.n_Pattern (by decide), rfl, _, rfl, _, _, _, _, rfl, rfl, SqL.of (sm _ _ f3), atI_nat (by rw [List.getElem?_map, eg]; rfl), _, rfl, ?_⟩
   cases eb : (fdL wk' yr)[j] with
   | true => exact iteF (kn _ ⟨_, rfl⟩ (by show (!_) = false; rw [eD, eb]; rfl))
   | false => exact iteT ⟨_, rfl, ky _ ⟨_, rfl⟩ (by show (!_) = true; rw [eD, eb]; rfl)⟩
  have s5 := qy (o := .lst ((((List.range (371 : Int).toNat).map fun i => V.int (0 + (i : Nat))).filter fun v => match v with | .int i => !((fdL wk' yr).getD i.toNat true) | _ => false).map fun v => v)) hp5
  have e5 : upd H4 p5 (.lst ((((List.range (371 : Int).toNat).map fun i => V.int (0 + (i : Nat))).filter fun v => match v with | .int i => !((fdL wk' yr).getD i.toNat true) | _ => false).map fun v => v)) p5 = some (.lst ((odL (fdL wk' yr)).map V.int)) := by
   rw [qm]
   refine congrArg (fun l => some (HO.lst l)) ?_
   unfold odL
   rw [List.map_id', List.filter_map, List.map_map, fdL_len]
   refine (congrArg _ (List.filter_congr fun i _ => ?_)).trans (List.map_congr_left fun i _ => ?_)
   ·show (!((fdL wk' yr).getD (0 + (i : Int)).toNat true)) = _
    rw [Int.zero_add, Int.toNat_natCast]
   ·show V.int (0 + (i : Int)) = _
    rw [Int.zero_add]; rfl
  have x5 := s5 _ _ x3
  have f5 := s5 _ _ f3
  generalize upd H4 p5 (.lst ((((List.range (371 : Int).toNat).map fun i => V.int (0 + (i : Nat))).filter fun v => match v with | .int i => !((fdL wk' yr).getD i.toNat true) | _ => false).map fun v => v)) = H5 at s5 e5 x5 f5 ⊢
  refine ⟨_, rfl, _, _, _, _, rfl, x5, T.c_Pattern, qq T.n_Pattern (by decide), (show 1 < 1000 by decide), ?_⟩
  rw [put2 _ _ (by decide +kernel)]
  have n5 : p5 ≠ x := fun z => by rw [z, x3] at hp5; cases hp5
  have b5 : SameBut x H (upd H5 x (.ins a.cPattern dx [(Str.ofString "free_days", .ref p3), (Str.ofString "open_days", .ref p5)])) := (b3.trans (SameBut.of s5)).set
  have f6 := (qr (o := .ins a.cPattern dx [(Str.ofString "free_days", .ref p3), (Str.ofString "open_days", .ref p5)]) n3).trans f5
  have o6 := (qr (o := .ins a.cPattern dx [(Str.ofString "free_days", .ref p3), (Str.ofString "open_days", .ref p5)]) n5).trans e5
  have x6 := qm (H := H5) (a := x) (o := .ins a.cPattern dx [(Str.ofString "free_days", .ref p3), (Str.ofString "open_days", .ref p5)])
  generalize upd H5 x (.ins a.cPattern dx [(Str.ofString "free_days", .ref p3), (Str.ofString "open_days", .ref p5)]) = H6 at b5 f6 o6 x6 ⊢
  refine ⟨_, rfl, _, _, _, _, _, rfl, x6, T.c_Pattern, qq T.n_Pattern (by decide), rfl, _, _, rfl, f6, by rw [fdL_len]; decide, fun p7 H7 n7 s7 e7 => ?_⟩
  have x7 := s7 _ _ x6
  refine ⟨_, rfl, _, _, _, _, rfl, x7, T.c_Pattern, qq T.n_Pattern (by decide), (show 2 < 1000 by decide), ?_⟩
  rw [put3 _ _ _ (by decide +kernel) (by decide +kernel)]
  have m7 : p7 ≠ x := fun z => by rw [z, x6] at n7; cases n7
  refine k _ ((b5.trans (SameBut.of s7)).set) fun H9 rest => ⟨_, p3, p5, p7, rest _ _ (.inr (.inl rfl)) qm, rest _ _ (.inl (s12.free hp3)) ((qr n3).trans (s7 _ _ f6)), rest _ _ (.inl (b3.free n5 hp5)) ((qr n5).trans (s7 _ _ o6)), rest _ _ (.inl (b5.free m7 n7)) ((qr m7).trans e7), fdL_len _ _⟩
theorem okTableInit (T : Txt K mg a) : FnOk P w K mg base CX0 7 a.fTableInit a.gTableInit ["self", "week", "yearly", "rows"] (spTInit a) := by
 refine T.dTableInit.fn.ok scTableInit (fun vs H Q E h => ?_) (fun cdv A outer s H vs Q E hr h => ?_)
 ·obtain ⟨_, _, _, _, _, _, _, _, rfl, _⟩ := h
  all_goals rfl
 ·obtain ⟨x, dx, pw, vy, vr, wk', yr, rs, rfl, hx, hw, hy, hrs, okw, oky, hl, okr, k⟩ := h
  refine ⟨_, (qi (ps_fld (pv 0) (pe_make T.k_Pattern (okPatternInit T) (hr.mono (by decide)) rfl T.m_Pattern T.dPatternInit.bd .nil pass0 (qc (pv 1) (qc (zc (okListOrEmpty T) (hr.mono (by decide)) rfl T.dListOrEmpty.mgx T.dListOrEmpty.fn.kp T.dListOrEmpty.bd .nil pass0 (qc (pv 2) qj qg)) qj zl) qg)) rfl)
   (qi (qz (zc (okRefuseRows T) (hr.mono (by decide)) rfl T.dRefuseRows.mgx T.dRefuseRows.fn.kp T.dRefuseRows.bd .nil pass0 (qc (zc (okListOrEmpty T) (hr.mono (by decide)) rfl T.dListOrEmpty.mgx T.dListOrEmpty.fn.kp T.dListOrEmpty.bd .nil pass0 (qc (pv 3) qj qg)) qj zl)))
   (qi (ps_fld (pv 0) (zc (okOverlay T) (hr.mono (by decide)) rfl T.dOverlay.mgx T.dOverlay.fn.kp T.dOverlay.bd .nil pass0 (qc (zc (okListOrEmpty T) (hr.mono (by decide)) rfl T.dListOrEmpty.mgx T.dListOrEmpty.fn.kp T.dListOrEmpty.bd .nil pass0 (qc (pv 3) qj qg)) qj zl)) rfl)
   (qi (ps_fld (pv 0) (zh (qc qk qj qo)) rfl)
   (ql (ps_for PassesOwn.never rfl (pi_list (pe_fld (pv 0) rfl)) (pg_name (i := 4) scTableInit.nd rfl (Or.inl rfl)) (ql (qz (pe_bm PySem.F.plainAttrs_list PySem.F.slot_list_append PySem.F.type_list_append mt_append (pe_fld (pv 0) rfl) (qc (qx op_add (zp zr (pe_fld (pv 0) rfl) (pe_un un_neg qk) (fun _ _ => rfl)) (pe_meth (pv 0) T.c_Table T.t_dTableShift (okTableShift T) (hr.mono (by decide)) T.dTableShift.bd .nil pass0 (qc (pv 4) (qc (qx op_add (zp zq (pv 4) qk (fun _ _ => rfl)) qk) qj zm) qg))) qj zm)))))))))), ?_⟩
  have okk : ∀ r ∈ rs, r.1 ≤ r.2.1 := fun r hm => (okr r hm).2.1
  obtain ⟨apO, _⟩ := ov_ok okk
  have nnO := ov_nn fun r hm => (okr r hm).1
  have lO : (ov rs).length ≤ 100 := Nat.le_trans (jn_len _) (Nat.le_trans (lay_len okk) (Nat.le_trans (Nat.mul_le_mul_left 3 hl) (by decide)))
  refine ⟨_, rfl, _, rfl, ?_⟩
  refine orP hy fun py H0 s0 hy0 => ?_
  intro xp dxp nx nd ne
  have keep : Same H0 (upd (upd H0 dxp (.own xp)) xp (.ins a.cPattern dxp [])) := fun b u e => by rw [qr (ne_of_none e nx), qr (ne_of_none e nd)]; exact e
  refine ⟨xp, dxp, _, _, _, _, rfl, qm, keep _ _ (s0 _ _ hw), hy0.same keep, okw, oky, fun H1 b1 pr1 => ⟨rfl, ?_⟩⟩
  have pat1 := pr1 H1 fun _ _ _ e => e
  have s1 : Same H H1 := s0.trans (b1.made nx nd)
  have hx1 := s1 _ _ hx
  have nxp : xp ≠ x := fun z => by rw [z, s0 _ _ hx] at nx; cases nx
  refine ⟨_, rfl, _, _, _, _, rfl, hx1, T.c_Table, qq T.n_Table (by decide), by decide, ?_⟩
  rw [put1]
  have low : ∀ {H' : Hp} {fs : List (Str × V)}, H' x = some (.ins a.cTable dx fs) → PatAt a.cPattern H' xp (fdL wk' yr) → ∀ o, PatAt a.cPattern (upd H' x o) xp (fdL wk' yr) := fun hx' ⟨d, a1, a2, a3, g1, g2, g3, g4, g5⟩ o =>
   ⟨d, a1, a2, a3, by rw [qr nxp]; exact g1, by rw [qr (fun z => by rw [z, hx'] at g2; cases g2)]; exact g2, by rw [qr (fun z => by rw [z, hx'] at g3; cases g3)]; exact g3, by rw [qr (fun z => by rw [z, hx'] at g4; cases g4)]; exact g4, g5⟩
  have b2 : SameBut x H1 (upd H1 x (.ins a.cTable dx [(Str.ofString "pattern", .ref xp)])) := (SameBut.of (Same.refl H1)).set
  have x2 := qm (H := H1) (a := x) (o := .ins a.cTable dx [(Str.ofString "pattern", .ref xp)])
  have pat2 := low hx1 pat1 (.ins a.cTable dx [(Str.ofString "pattern", .ref xp)])
  generalize upd H1 x (.ins a.cTable dx [(Str.ofString "pattern", .ref xp)]) = H2 at b2 x2 pat2 ⊢
  have hr2 := (hrs.same s1).but hx1 b2
  refine ⟨_, rfl, ?_⟩
  refine orR hr2 fun pr Ha sa ata => ?_
  refine ⟨_, _, rfl, ata, hl, okr, fun H3 s3 => ?_⟩
  refine ⟨_, rfl, ?_⟩
  refine orR ((hr2.same sa).same s3) fun pr' Hb sb atb => ?_
  refine ⟨_, _, rfl, atb, okk, Nat.le_trans hl (by decide), fun q H4 nq s4 at4 => ?_⟩
  have s2b := (sa.trans s3).trans sb
  have s34 := s2b.trans s4
  have x4 := s34 _ _ x2
  refine ⟨_, rfl, _, _, _, _, rfl, x4, T.c_Table, qq T.n_Table (by decide), (show 1 < 1000 by decide), ?_⟩
  rw [put2 _ _ (by decide +kernel)]
  obtain ⟨u4, q4, t4⟩ := at4
  have nqx : q ≠ x := fun z => by rw [z, x4] at q4; cases q4
  have b5 : SameBut x H1 (upd H4 x (.ins a.cTable dx [(Str.ofString "pattern", .ref xp), (Str.ofString "rows", .ref q)])) := (b2.trans (SameBut.of s34)).set
  have x5 := qm (H := H4) (a := x) (o := .ins a.cTable dx [(Str.ofString "pattern", .ref xp), (Str.ofString "rows", .ref q)])
  have pat5 := low x4 (pat2.same s34) (.ins a.cTable dx [(Str.ofString "pattern", .ref xp), (Str.ofString "rows", .ref q)])
  have q5 := (qr (o := .ins a.cTable dx [(Str.ofString "pattern", .ref xp), (Str.ofString "rows", .ref q)]) nqx).trans q4
  have t5 : Tups (upd H4 x (.ins a.cTable dx [(Str.ofString "pattern", .ref xp), (Str.ofString "rows", .ref q)])) u4 ((ov rs).map enc) := tups_but ((SameBut.of (Same.refl H4)).set) x4 t4
  generalize upd H4 x (.ins a.cTable dx [(Str.ofString "pattern", .ref xp), (Str.ofString "rows", .ref q)]) = H5 at b5 x5 pat5 q5 t5 ⊢
  refine ⟨fits (by show 1 ≤ 100000; decide), fun z hz => ?_⟩
  obtain ⟨s6, z6⟩ := alc (o := .lst [V.int 0]) hz
  have x6 := s6 _ _ x5
  refine ⟨_, rfl, _, _, _, _, rfl, x6, T.c_Table, qq T.n_Table (by decide), (show 2 < 1000 by decide), ?_⟩
  rw [put3 _ _ _ (by decide +kernel) (by decide +kernel)]
  have nzx : z ≠ x := fun e => by rw [e, x5] at hz; cases hz
  have nzq : q ≠ z := fun e => by rw [← e, q5] at hz; cases hz
  have b7 : SameBut x H1 (upd (upd H5 z (.lst [V.int 0])) x (.ins a.cTable dx (tfs xp q z))) := (b5.trans (SameBut.of s6)).set
  have x7 := qm (H := upd H5 z (.lst [V.int 0])) (a := x) (o := .ins a.cTable dx (tfs xp q z))
  obtain ⟨d5, a1, a2, a3, g1, g2, g3, g4, g5⟩ := pat5
  have nz : ∀ {b : Addr} {o : HO}, H5 b = some o → b ≠ z := fun h e => by rw [e, hz] at h; cases h
  have nxl : ∀ {b : Addr} {l : List V}, H5 b = some (.lst l) → b ≠ x := fun h e => by rw [e, x5] at h; cases h
  have pat7 := PatAt.upd (o := .ins a.cTable dx (tfs xp q z)) (s6 _ _ g1) (s6 _ _ g2) (s6 _ _ g3) (s6 _ _ g4) nxp (nxl g2) (nxl g3) (nxl g4)
  have q7 := (qr (o := .ins a.cTable dx (tfs xp q z)) nqx).trans (s6 _ _ q5)
  have z7 := (qr (o := .ins a.cTable dx (tfs xp q z)) nzx).trans z6
  have t7 : Tups (upd (upd H5 z (.lst [V.int 0])) x (.ins a.cTable dx (tfs xp q z))) u4 ((ov rs).map enc) := tups_but ((SameBut.of s6).set) x5 t5
  have nzH : H1 z = none := b5.free nzx hz
  have nqH : H q = none := s1.free (b2.free nqx (s2b.free nq))
  generalize upd (upd H5 z (.lst [V.int 0])) x (.ins a.cTable dx (tfs xp q z)) = H7 at b7 x7 pat7 q7 z7 t7 ⊢
  have lu4 := At.len t7
  let sm : Nat → Int := fun k => (((ov rs).take k).map fun r => shf (fdL wk' yr) r (r.2.1 + 1)).sum
  refine ⟨_, rfl, _, _, _, _, _, rfl, x7, T.c_Table, qq T.n_Table (by decide), rfl, _, rfl, ⟨_, SqL.of q7⟩, for_list (K := K) (a := q) (xs := u4) (fun i σ H' => SameBut x H1 H' ∧ H' x = some (.ins a.cTable dx (tfs xp q z)) ∧ (H' xp = some (.ins a.cPattern d5 (pfs a1 a2 a3)) ∧ H' a1 = some (.lst ((fdL wk' yr).map V.bl)) ∧ H' a2 = some (.lst ((odL (fdL wk' yr)).map V.int)) ∧ H' a3 = some (.lst ((cuL (fdL wk' yr)).map V.int))) ∧ H' q = some (.lst u4) ∧ Tups H' u4 ((ov rs).map enc) ∧ H' z = some (.lst (((List.range (i + 1)).map sm).map V.int)) ∧ ∃ v : Option V, σ = [some (.ref x), some (.ref pw), some vy, some vr, v])
   ⟨b7, x7, pat7, q7, t7, z7, none, rfl⟩ (fun i σ H' _ h => SqL.of h.2.2.2.1) ?_ ?_⟩
  ·rintro i w0 σ H8 hw0 ⟨b8, x8, pat8, q8, t8, z8, v, rfl⟩
   obtain ⟨c, t, rfl, w1, w2⟩ := t8.get' hw0
   obtain ⟨r, w3, rfl⟩ := map_get w1
   have hi : i < (ov rs).length := (List.getElem?_eq_some_iff.mp w3).1
   have r0 := nnO r (List.mem_of_getElem? w3)
   have r1 := apO.ok r (List.mem_of_getElem? w3)
   have eL : ∀ m, ((List.range (m + 1)).map sm).map V.int = ((List.range m).map sm).map V.int ++ [V.int (sm m)] := fun m => by
    rw [List.range_succ, List.map_append, List.map_append]; rfl
   have hl8 : (((List.range (i + 1)).map sm).map V.int).length ≤ 90000 := by rw [List.length_map, List.length_map, List.length_range]; exact Nat.le_trans (Nat.succ_le_of_lt (Nat.lt_of_lt_of_le hi lO)) (by decide)
   have z8' := z8
   rw [eL] at z8'
   refine ⟨_, rfl, _, _, _, _, _, rfl, x8, T.c_Table, qq T.n_Table (by decide), rfl, .inl ⟨rfl, _, SqL.of z8⟩, _, rfl, _, _, _, _, _, rfl, x8, T.c_Table, qq T.n_Table (by decide), rfl, _, rfl, _, _, _, _, rfl, rfl, SqL.of z8', atI_last _ _, _, rfl, _, _, _, rfl, x8, rfl, _, rfl, _, rfl, _, _, _, _, rfl, rfl, SqT.of w2, rfl, _, _, rfl, rfl, _, _, _, _, _, _, _, _, _, rfl, x8, ⟨_, _, _, _, pat8.1, pat8.2.1, pat8.2.2.1, pat8.2.2.2, fdL_len _ _⟩, w2, r0, Int.le_add_one (Int.le_trans r0 r1), fun H9 s9 => ?_⟩
   refine ⟨_, _, rfl, rfl, _, _, _, rfl, rfl, s9 _ _ z8, lt1000 hl8, ?_⟩
   have es : sm i + shf (fdL wk' yr) r (r.2.1 + 1) = sm (i + 1) := by
    show _ = ((((ov rs).take (i + 1)).map fun r => shf (fdL wk' yr) r (r.2.1 + 1)).sum)
    rw [take_snoc w3, List.map_append, List.sum_append]
    simp [sm]
   dsimp only []
   rw [es, ← eL (i + 1)]
   refine ⟨fun b o n e => by rw [qr (ne_of_none e nzH)]; exact s9 _ _ (b8 b o n e), by rw [qr nzx.symm]; exact s9 _ _ x8, ?_, by rw [qr nzq]; exact s9 _ _ q8, (t8.same s9).upd (s9 _ _ z8), qm, _, rfl⟩
   exact PatAt.upd (s9 _ _ pat8.1) (s9 _ _ pat8.2.1) (s9 _ _ pat8.2.2.1) (s9 _ _ pat8.2.2.2) (nz g1) (nz g2) (nz g3) (nz g4)
  ·rintro σ H8 ⟨b8, x8, pat8, q8, t8, z8, v, rfl⟩
   rw [lu4] at z8
   refine k H8 ((SameBut.of s1).trans b8) fun H9 rest => ⟨dx, xp, q, z, rest _ _ (.inr (.inl rfl)) x8, pr1 H9 fun b o hb ho => ?_, ⟨u4, rest _ _ (.inl nqH) q8, tups_rest rest t8⟩, rest _ _ (.inl (s1.free nzH)) z8⟩
   rcases hb with hb | rfl | ⟨t, rfl⟩
   ·have hb' := (s0.trans keep).free hb
    exact rest _ _ (.inl hb') (b8 _ _ (fun e => by rw [e, hx] at hb'; cases hb') ho)
   ·exact rest _ _ (.inl (s0.free nx)) (b8 _ _ nxp ho)
   ·exact rest _ _ (.inr (.inr ⟨t, rfl⟩)) (b8 _ _ (fun e => by rw [e, hx1] at ho; cases ho) ho)
theorem okRuleRoleInStill (T : Txt K mg a) : FnOk P w K mg base CX0 1 a.fRuleRoleInStill a.gRuleRoleInStill ["self", "kind"] (spStl a) := by
 refine T.dRuleRoleInStill.fn.ok scRuleRoleInStill (fun vs H Q E h => ?_) (fun cdv A outer s H vs Q E hr h => ?_)
 ·obtain ⟨_, _, _, rfl, _⟩ := h
  all_goals rfl
 ·obtain ⟨rl, k1, rd, rfl, hr1, k⟩ := h
  refine ⟨_, (qi (zb (qu op_isN (pe_fld (pv 0) rfl) pe_non (nomark _)) (ql (qp zg)) pss_nil)
   (qi (zb (qu op_eq (pv 1) (zp zq (pe_fld (pv 0) rfl) qk (fun _ _ => rfl)) (nomark _)) (ql (qp zg)) pss_nil)
   (ql (qp (pe_ifExp (qu op_eq (pv 1) (zp zq (pe_fld (pv 0) rfl) qk (fun _ _ => rfl)) (nomark _)) zg zg))))), ?_⟩
  obtain ⟨dx, pe, pa, pl, nm', w1, op, b1, s1, py, us, h1, h2, h3, h4, h5, h6⟩ := hr1
  cases e : rd.still with
  | none =>
   rw [e] at h2 k
   cases h2
   exact ⟨_, rfl, _, _, _, _, _, rfl, h1, T.c_Rule, qq T.n_Rule (by decide), rfl, rfl, _, rfl, iteD rfl k⟩
  | some z =>
   obtain ⟨z1, z2⟩ := z
   rw [e] at h2 k
   obtain ⟨p, rfl, hp⟩ := h2
   refine ⟨_, rfl, _, _, _, _, _, rfl, h1, T.c_Rule, qq T.n_Rule (by decide), rfl, rfl, _, rfl, iteDn (fun z => nomatch z) ⟨_, rfl, _, rfl, _, _, _, _, _, rfl, h1, T.c_Rule, qq T.n_Rule (by decide), rfl, _, _, _, _, rfl, rfl, SqT.of hp, rfl, rfl, _, rfl, ite2 (fun c => ?_) (fun c => ?_)⟩⟩
   ·have c := V.str.inj (of_decide_eq_true c)
    rw [show stOf (some (z1, z2)) k1 = Str.ofString "still" by unfold stOf; simp only; rw [if_pos c]] at k
    exact k
   ·have c : ¬ k1 = z1 := fun q => c (decide_eq_true (congrArg V.str q))
    refine ⟨_, rfl, _, rfl, _, _, _, _, _, rfl, h1, T.c_Rule, qq T.n_Rule (by decide), rfl, _, _, _, _, rfl, rfl, SqT.of hp, rfl, rfl, _, rfl, ite2 (fun c2 => ?_) (fun c2 => ?_)⟩
    ·have c2 := V.str.inj (of_decide_eq_true c2)
     rw [show stOf (some (z1, z2)) k1 = Str.ofString "goes on" by unfold stOf; simp only; rw [if_neg c, if_pos c2]] at k
     exact k
    ·have c2 : ¬ k1 = z2 := fun q => c2 (decide_eq_true (congrArg V.str q))
     rw [show stOf (some (z1, z2)) k1 = Str.ofString "" by unfold stOf; simp only; rw [if_neg c, if_neg c2]] at k
     exact k
theorem okRuleRole (T : Txt K mg a) : FnOk P w K mg base CX0 2 a.fRuleRole a.gRuleRole ["self", "kind"] (spRole a) := by
 refine T.dRuleRole.fn.ok scRuleRole (fun vs H Q E h => ?_) (fun cdv A outer s H vs Q E hr h => ?_)
 ·obtain ⟨_, _, _, rfl, _⟩ := h
  all_goals rfl
 ·obtain ⟨rl, k1, rd, rfl, hr1, ok, k⟩ := h
  refine ⟨_, (qi (zb (PW.pt (pw_or (qu op_eq (pv 1) (pe_fld (pv 0) rfl) (nomark _)) (pw_or1 (qu op_in_seq (pv 1) (pe_fld (pv 0) rfl) (by with_unfolding_all rfl))))) (ql (qp zg)) pss_nil)
   (qi (zb (qu op_in_seq (pv 1) (pe_fld (pv 0) rfl) (by with_unfolding_all rfl)) (ql (qp zg)) pss_nil)
   (qi (zb (qu op_in_seq (pv 1) (pe_comp (N := ["row"]) (js := [none]) (XN := ["self", "kind"]) (xs := defScope sRuleRole) rfl rfl rfl (by decide +kernel) (pi_list (pe_fld (pv 0) rfl)) (fun _ _ _ _ _ _ => (pg_name (i := 0) (show List.Nodup (["row"] : List Str) from by decide +kernel) rfl (Or.inl rfl) (Or.inr rfl))) (fun _ _ _ _ _ _ => pts_nil) (fun _ _ _ _ _ _ => (zp (ix_tupC (K := K) rfl) (pv 0) qk (fun _ _ => rfl)))) (by with_unfolding_all rfl)) (ql (qp zg)) pss_nil)
   (ql (qp (pe_meth (pv 0) T.c_Rule T.t_dRuleRoleInStill (okRuleRoleInStill T) (hr.mono (by decide)) T.dRuleRoleInStill.bd .nil pass0 (qc (pv 1) qj qg))))))), ?_⟩
  have hr2 := hr1
  obtain ⟨dx, pe, pa, pl, nm', w1, op, b1, s1, py, us, h1, h2, h3, h4, h5, h6⟩ := id hr1
  apply use (p := ¬ (k1 = rd.owes ∨ rd.ends.contains k1 = true))
  ·intro mm
   have fin : k1 = rd.owes ∨ rd.ends.contains k1 = true → Q (.str (Str.ofString "ends")) H := fun z => by
    have := k H (Same.refl H)
    unfold roleOf at this
    rw [if_pos z] at this
    exact this
   refine ⟨_, rfl, _, rfl, _, _, _, _, _, rfl, h1, T.c_Rule, qq T.n_Rule (by decide), rfl, rfl, _, rfl, ite2 (fun c => iteT (fin (.inl (V.str.inj (of_decide_eq_true c))))) (fun c => ⟨_, rfl, _, rfl, _, _, _, _, _, rfl, h1, T.c_Rule, qq T.n_Rule (by decide), rfl, _, _, rfl, .inl (SqL.of h3), rfl, flat_strs _, _, rfl, ?_⟩)⟩
   show if inV (.str k1) (rd.ends.map V.str) = true then _ else _
   rw [inV_strs]
   exact ite2 (fun c2 => fin (.inr c2)) (fun c2 => mm fun z => by
    rcases z with z | z
    ·exact c (decide_eq_true (congrArg V.str z))
    ·exact c2 z)
  ·intro c1
   refine ⟨_, rfl, _, rfl, _, _, _, _, _, rfl, h1, T.c_Rule, qq T.n_Rule (by decide), rfl, _, _, rfl, .inl (SqL.of h4), rfl, flat_strs _, _, rfl, ?_⟩
   show if inV (.str k1) (rd.anew.map V.str) = true then _ else _
   rw [inV_strs]
   refine ite2 (fun c2 => ?_) (fun c2 => ?_)
   ·have := k H (Same.refl H)
    unfold roleOf at this
    rw [if_neg c1, if_pos c2] at this
    exact this
   ·have lu : us.length = rd.longer.length := by rw [h6.length, List.length_map]
    have hll := ok.l
    refine ⟨_, rfl, _, rfl, _, _, _, _, _, rfl, h1, T.c_Rule, qq T.n_Rule (by decide), rfl, _, rfl, ⟨_, SqL.of h5⟩, ?_⟩
    let f : V → V := fun v => match v with
     | .ref b => match H b with
      | some (.tup [.str y, .int _, .int _]) => .str y
      | _ => .non
     | _ => .non
    refine comp_pure f (fun σ' => ∃ v, σ' = [v]) (feeds_list (K := K) (SqL.of h5)) (fits (by omega)) ⟨none, rfl⟩ (fun v σ' H' RR hv sm s4 q => ?_) gk_name fun p5 hp5 => ?_
    ·obtain ⟨v0, rfl⟩ := s4
     obtain ⟨j, hj⟩ := List.getElem?_of_mem hv
     obtain ⟨b, t, rfl, g1, g2⟩ := h6.get' hj
     rw [List.getElem?_map] at g1
     cases eg : rd.longer[j]? with
     | none => rw [eg] at g1; cases g1
     | some r =>
      rw [eg] at g1
      cases g1
      have ef : f (.ref b) = .str r.1 := by show (match H b with | some (.tup [.str y, .int _, .int _]) => V.str y | _ => .non) = _; rw [g2]; rfl
      have q := q [some (.ref b)] ⟨_, rfl⟩
      rw [ef] at q
      exact ⟨_, rfl, _, _, _, _, rfl, rfl, SqT.of (sm _ _ g2), rfl, q⟩
    have em : us.map f = (rd.longer.map (·.1)).map V.str := by
     refine List.ext_getElem? fun j => ?_
     rw [List.getElem?_map, List.getElem?_map, List.getElem?_map]
     cases eg : rd.longer[j]? with
     | none => rw [List.getElem?_eq_none (by rw [lu]; exact List.getElem?_eq_none_iff.mp eg)]; rfl
     | some r =>
      obtain ⟨b, g1, g2⟩ := h6.get (i := j) (r := encL r) (by rw [List.getElem?_map, eg]; rfl)
      rw [g1]
      show some (match H b with | some (.tup [.str y, .int _, .int _]) => V.str y | _ => .non) = _
      rw [g2]; rfl
    have s5 := qy (o := .lst (us.map f)) hp5
    refine ⟨_, _, rfl, .inl (SqL.of qm), rfl, by rw [em]; exact flat_strs _, _, rfl, ?_⟩
    show if inV (.str k1) (us.map f) = true then _ else _
    rw [em, inV_strs]
    rw [em] at s5
    refine ite2 (fun c3 => ?_) (fun c3 => ?_)
    ·have := k _ s5
     unfold roleOf at this
     rw [if_neg c1, if_neg c2, if_pos c3] at this
     exact this
    ·have := k _ s5
     unfold roleOf at this
     rw [if_neg c1, if_neg c2, if_neg c3] at this
     exact ⟨_, rfl, _, _, _, rfl, s5 _ _ h1, rfl, _, rfl, rl, k1, rd, rfl, hr2.same s5, this⟩
theorem okRunIsHalted (T : Txt K mg a) : FnOk P w K mg base CX0 1 a.fRunIsHalted a.gRunIsHalted ["self"] (spHl a) := by
 refine T.dRunIsHalted.fn.ok scRunIsHalted (fun vs H Q E h => ?_) (fun cdv A outer s H vs Q E hr h => ?_)
 ·obtain ⟨_, _, _, _, _, _, _, rfl, _⟩ := h
  all_goals rfl
 ·obtain ⟨x, B, S, rd, st, bs, rs, rfl, hR, k⟩ := h
  refine ⟨_, (ql (qp (pe_and (pe_cmpR op_gt (zd call_len (by rfl) T.n_len boot_len (qc (pe_fld (pv 0) rfl) qj star_att)) qk (nomark _)) (pe_one (pe_cmpR op_isN (zp zq (zp zr (pe_fld (pv 0) rfl) (pe_un un_neg qk) (fun _ _ => rfl)) qk (fun _ _ => rfl)) pe_non (nomark _)))))), ?_⟩
  obtain ⟨dx, rl, cn, pr, pp, pg, ur, up, rfl, R⟩ := id hR
  refine ⟨_, rfl, _, _, _, _, _, rfl, R.hx, T.c_Run, qq T.n_Run (by decide), rfl, _, _, rfl, .inl ⟨_, SqL.of R.hp, rfl⟩, _, _, rfl, rfl, _, rfl, ?_⟩
  rcases List.eq_nil_or_concat st.ps with e | ⟨qs, p, e⟩
  ·have eu : up = [] := List.eq_nil_of_length_eq_zero (by rw [R.tp.length, List.length_map, e]; rfl)
   rw [e] at k
   subst eu
   exact iteF k
  ·rw [List.concat_eq_append] at e
   obtain ⟨F, o⟩ := p
   have tp := R.tp
   rw [e] at tp k
   obtain ⟨vs, c, hus, hc, tv⟩ := tups_last tp
   rw [hal_snoc] at k
   refine iteD (by rw [hus, List.length_append, List.length_singleton]; omega) ⟨_, rfl, _, _, _, _, _, rfl, R.hx, T.c_Run, qq T.n_Run (by decide), rfl, _, rfl, _, _, _, _, rfl, rfl, SqL.of R.hp, (hus ▸ at_last vs _), _, _, _, _, rfl, rfl, SqT.of hc, rfl, rfl, k⟩
theorem okRunGoOn (T : Txt K mg a) : FnOk P w K mg base CX0 2 a.fRunGoOn a.gRunGoOn ["self", "day"] (spGo a) := by
 refine T.dRunGoOn.fn.ok scRunGoOn (fun vs H Q E h => ?_) (fun cdv A outer s H vs Q E hr h => ?_)
 ·obtain ⟨_, _, _, _, _, _, _, _, _, rfl, _⟩ := h
  all_goals rfl
 ·obtain ⟨x, B, S, rd, st, bs, rs, c, d, rfl, hR, ok, k⟩ := h
  refine ⟨_, (qi (zb (pt_not (zf (pe_meth0 (pv 0) T.c_Run T.t_dRunIsHalted (okRunIsHalted T) (hr.mono (by decide)) T.dRunIsHalted.bd .nil pass0))) (ql (qp pe_bl)) pss_nil)
   (qi (qv (i := 2) scRunGoOn.nd rfl (Or.inl rfl) (zp zq (pe_bm0 PySem.F.plainAttrs_list PySem.F.slot_list_pop PySem.F.type_list_pop mt_pop (pe_fld (pv 0) rfl)) qk (fun _ _ => rfl)))
   (qi (zb (qu op_lt (pv 2) (pv 1) (nomark _)) (ql (qz (pe_bm PySem.F.plainAttrs_list PySem.F.slot_list_append PySem.F.type_list_append mt_append (pe_fld (pv 0) rfl) (qc (zj (qc (pv 2) (qc (qx op_sub (pv 1) qk) qj zm) qg)) qj zo)))) pss_nil)
   (ql (qp pe_bl))))), ?_⟩
  obtain ⟨dx, rl, cn, pr, pp, pg, ur, up, rfl, R⟩ := id hR
  refine ⟨_, rfl, _, _, _, rfl, R.hx, rfl, x, B, _, rd, st, bs, rs, rfl, hR, _, rfl, ?_⟩
  cases eh : haltedB st.ps with
  | false =>
   rw [eh, go_same eh] at k
   exact iteT (k H (KeepS.of (Same.refl H)) hR)
  | true =>
   obtain ⟨qs, F, e⟩ := hal_ex eh
   have tp := R.tp
   rw [e] at tp
   obtain ⟨vs, c1, hus, hc, tv⟩ := tups_last tp
   rw [eh, e, go_snoc] at k
   refine iteF ⟨_, rfl, _, _, _, _, _, rfl, R.hx, T.c_Run, qq T.n_Run (by decide), rfl, .inl ⟨rfl, _, SqL.of R.hp⟩, _, _, _, rfl, rfl, R.hp, (hus ▸ last_ix vs _), ?_⟩
   have ed : up.dropLast = vs := by rw [hus, List.dropLast_concat]
   rw [ed]
   have R1 := R.setP (up' := vs) (ps' := qs) tv
   have K1 : KeepS [x, pr, pp, pg] H (upd H pp (.lst vs)) := keep_upd (by simp)
   have hc1 := (qr (o := .lst vs) (fun z => by rw [z, R.hp] at hc; cases hc)).trans hc
   generalize upd H pp _ = H1 at R1 K1 hc1 ⊢
   refine ⟨_, _, _, _, rfl, rfl, SqT.of hc1, rfl, _, rfl, _, rfl, _, _, rfl, rfl, _, rfl, ite2 (fun c2 => ?_) (fun c2 => ?_)⟩
   ·have c2 := of_decide_eq_true c2
    rw [if_pos c2] at k
    refine ⟨_, rfl, _, _, _, _, _, rfl, R1.hx, T.c_Run, qq T.n_Run (by decide), rfl, .inl ⟨rfl, _, SqL.of R1.hp⟩, _, rfl, _, rfl, _, _, rfl, rfl, fit2 _ _, fun q2 hq2 => ?_⟩
    dsimp only []
    obtain ⟨s2, e2⟩ := alc (o := .tup (encQ (F, some (d - 1)))) hq2
    have ll := ok.pl
    have lr := ok.rl
    have lq : qs.length + 1 = st.ps.length := by rw [e, List.length_append]; rfl
    have lv : vs.length = qs.length := by rw [tv.length, List.length_map]
    refine ⟨_, _, _, rfl, rfl, s2 _ _ R1.hp, lt1000 (by omega), ?_⟩
    have R2 := (R1.same s2).setP (up' := vs ++ [.ref q2]) (ps' := qs ++ [(F, some (d - 1))]) (by rw [List.map_append]; exact (R1.tp.same s2).snoc e2)
    exact k _ (fun b o n e => keep_upd (by simp) b o n (s2 _ _ (K1 b o n e))) ⟨dx, rl, cn, pr, pp, pg, ur, _, rfl, R2⟩
   ·have c2 : ¬ F < d := fun z => c2 (decide_eq_true z)
    rw [if_neg c2, List.append_nil] at k
    exact k _ K1 ⟨dx, rl, cn, pr, pp, pg, ur, vs, rfl, R1⟩
theorem okRunFinish (T : Txt K mg a) : FnOk P w K mg base CX0 3 a.fRunFinish a.gRunFinish ["self", "day"] (spFi a) := by
 refine T.dRunFinish.fn.ok scRunFinish (fun vs H Q E h => ?_) (fun cdv A outer s H vs Q E hr h => ?_)
 ·obtain ⟨_, _, _, _, _, _, _, _, _, rfl, _⟩ := h
  all_goals rfl
 ·obtain ⟨x, B, S, rd, st, bs, rs, c, d, rfl, hR, ok, k⟩ := h
  refine ⟨_, (qi (qz (pe_meth (pv 0) T.c_Run T.t_dRunGoOn (okRunGoOn T) (hr.mono (by decide)) T.dRunGoOn.bd .nil pass0 (qc (pv 1) qj qg)))
   (qi (ps_fld (pv 0) pe_bl rfl)
   (ql (qp pe_bl)))), ?_⟩
  obtain ⟨dx, rl, cn, pr, pp, pg, ur, up, rfl, R⟩ := id hR
  refine ⟨_, rfl, _, _, _, rfl, R.hx, rfl, _, rfl, x, B, _, rd, st, bs, rs, c, d, rfl, hR, ok, fun H1 K1 R1 => ?_⟩
  obtain ⟨dx1, rl1, cn1, pr1, pp1, pg1, ur1, up1, e1, X1⟩ := R1
  cases e1
  refine ⟨_, rfl, _, _, _, _, rfl, X1.hx, T.c_Run, qq T.n_Run (by decide), (show 9 < 1000 by decide), ?_⟩
  rw [show putF (Str.ofString "over") (.bl true) (rnF (.ref rl1) (.ref cn1) (.ref pr) (.bl st.over) (.int st.day) .non (.int st.units) (.ref pp) (.ref pg)) = rnF (.ref rl1) (.ref cn1) (.ref pr) (.bl true) (.int st.day) .non (.int st.units) (.ref pp) (.ref pg) by with_unfolding_all rfl]
  exact k _ (fun b o n e => keep_upd (by simp) b o n (K1 b o n e)) ⟨dx1, rl1, cn1, pr, pp, pg, ur1, up1, rfl, X1.setF (o' := true) (u' := st.units)⟩
theorem okRunIsUnderWay (T : Txt K mg a) : FnOk P w K mg base CX0 13 a.fRunIsUnderWay a.gRunIsUnderWay ["self", "day"] (spUw a) := by
 refine T.dRunIsUnderWay.fn.ok scRunIsUnderWay (fun vs H Q E h => ?_) (fun cdv A outer s H vs Q E hr h => ?_)
 ·obtain ⟨_, _, _, _, _, _, _, _, _, _, rfl, _⟩ := h
  all_goals rfl
 ·obtain ⟨x, B, S, rd, st, bs, rs, c, d, r, rfl, hR, tok, ok, lst, k⟩ := h
  refine ⟨_, (qi (qv (i := 2) scRunIsUnderWay.nd rfl (Or.inl rfl) (pe_meth0 (pv 0) T.c_Run T.t_dRunStartsOn (okRunStartsOn T) (hr.mono (by decide)) T.dRunStartsOn.bd .nil pass0))
   (qi (zb (PW.pt (pw_or (qu op_isN (pv 2) pe_non (nomark _)) (pw_or1 (qu op_le (pv 1) (pv 2) (nomark _))))) (ql (qp pe_bl)) pss_nil)
   (qi (qv (i := 3) scRunIsUnderWay.nd rfl (Or.inl rfl) (pe_meth0 (pv 0) T.c_Run T.t_dRunLastsTo (okRunLastsTo T) (hr.mono (by decide)) T.dRunLastsTo.bd .nil pass0))
   (ql (qp (pe_or (pe_cmpR op_isN (pv 3) pe_non (nomark _)) (pe_one (pe_cmpR op_le (pv 1) (pv 3) (nomark _))))))))), ?_⟩
  obtain ⟨dx, rl, cn, pr, pp, pg, ur, up, rfl, R⟩ := id hR
  refine ⟨_, rfl, _, _, _, rfl, R.hx, rfl, x, B, _, rd, st, bs, rs, rfl, hR, ?_⟩
  refine ⟨_, rfl, rfl, _, rfl, iteDn (fun z => nomatch z) ⟨_, rfl, _, rfl, _, _, rfl, rfl, _, rfl, ite2 (fun c1 => ?_) (fun c1 => ?_)⟩⟩
  ·have c1 := of_decide_eq_true c1
   have e : under st r d = false := by unfold under; rw [decide_eq_false (by omega)]; rfl
   rw [e] at k
   exact k H (Same.refl H)
  ·have c1 : ¬ d ≤ st.day := fun z => c1 (decide_eq_true z)
   refine ⟨_, rfl, _, _, _, rfl, R.hx, rfl, x, B, _, rd, st, bs, rs, c, rfl, hR, tok, ok, fun H1 r1 s1 lst1 => ?_⟩
   obtain rfl := lst_uniq ok.d0 lst1 lst
   have k := k H1 s1
   cases r1 with
   | none =>
    have e : under st none d = true := by unfold under; rw [decide_eq_true (by omega)]; rfl
    rw [e] at k
    exact ⟨_, rfl, rfl, _, rfl, iteD rfl k⟩
   | some l =>
    have e : under st (some l) d = decide (d ≤ l) := by unfold under; rw [decide_eq_true (by omega)]; rfl
    rw [e] at k
    exact ⟨_, rfl, rfl, _, rfl, iteDn (fun z => nomatch z) ⟨_, rfl, _, rfl, _, _, rfl, rfl, k⟩⟩
theorem okRunBeginAnew (T : Txt K mg a) : FnOk P w K mg base CX0 2 a.fRunBeginAnew a.gRunBeginAnew ["self", "day"] (spAn a) := by
 refine T.dRunBeginAnew.fn.ok scRunBeginAnew (fun vs H Q E h => ?_) (fun cdv A outer s H vs Q E hr h => ?_)
 ·obtain ⟨_, _, _, _, _, _, _, _, rfl, _⟩ := h
  all_goals rfl
 ·obtain ⟨x, B, S, rd, st, bs, rs, d, rfl, hR, k⟩ := h
  refine ⟨_, (qi (qz (pe_meth (pv 0) T.c_Run T.t_dRunSetOut (okRunSetOut T) (hr.mono (by decide)) T.dRunSetOut.bd .nil pass0 (qc (pv 1) (qc pe_non qj qo) qg)))
   (ql (qp pe_bl))), ?_⟩
  obtain ⟨dx, rl, cn, pr, pp, pg, ur, up, rfl, R⟩ := id hR
  have nrl : rl ≠ x := fun z => by
   obtain ⟨dxr, pe, pa, pl, vn, vw, vp, vb, vs', py, us, hrl1, _⟩ := R.rl
   rw [z, R.bx] at hrl1; cases hrl1
  refine ⟨_, rfl, _, _, _, rfl, R.hx, rfl, _, rfl, x, dx, rl, .ref cn, .ref pr, .bl st.over, _, d, rd, rfl, R.hx, .inr ⟨_, _, _, _, _, rfl⟩, R.rl.same R.sm, nrl, fun H1 pp1 pg1 b1 npp npg x1 epp epg => ?_⟩
  have nprx := Ne.symm (ne_il R.hx R.hr)
  have pne : pr ≠ pp1 := fun z => by rw [← z, R.hr] at npp; cases npp
  have sB : Same B H1 := fun b o e => b1 b o (ne_of_none e R.bx) (R.sm b o e)
  refine k H1 [x, pr, pp1, pg1] (fun b o n e => b1 b o (fun z => n (by rw [z]; simp)) e) (fun b hb => ?_) ⟨dx, rl, cn, pr, pp1, pg1, ur, [], rfl, pne, x1, b1 _ _ nprx R.hr, tups_but b1 R.hx R.tr, epp, .nil, epg, R.rl, R.kd, sB, R.bx, R.br, R.sm.free npp, R.sm.free npg⟩
  rcases List.mem_cons.mp hb with z | hb
  ·exact .inl (by rw [z]; simp)
  ·rcases List.mem_cons.mp hb with z | hb
   ·exact .inl (by rw [z]; simp)
   ·rcases List.mem_cons.mp hb with z | hb
    ·exact .inr (by rw [z]; exact npp)
    ·exact .inr (by rw [List.mem_singleton.mp hb]; exact npg)
theorem okRunLengthen (T : Txt K mg a) : FnOk P w K mg base CX0 1 a.fRunLengthen a.gRunLengthen ["self", "kind"] (spLe a) := by
 refine T.dRunLengthen.fn.ok scRunLengthen (fun vs H Q E h => ?_) (fun cdv A outer s H vs Q E hr h => ?_)
 ·obtain ⟨_, _, _, _, _, _, _, _, _, rfl, _⟩ := h
  all_goals rfl
 ·obtain ⟨x, B, S, rd, st, bs, rs, c, k1, rfl, hR, ok, kn, k⟩ := h
  refine ⟨_, (qi (qv (i := 2) scRunLengthen.nd rfl (Or.inl rfl) (pe_dget2 (hu_of hr) (pe_fld (pv 0) rfl) (pv 1) qk ⟨rfl, rfl, rfl, rfl⟩))
   (qi (ps_for PassesOwn.never rfl (pi_list (pe_fld (pe_fld (pv 0) rfl) rfl)) (pg_tup rfl (pgs_cons (pg_name (i := 3) scRunLengthen.nd rfl (Or.inl rfl)) (pgs_cons (pg_name (i := 4) scRunLengthen.nd rfl (Or.inl rfl)) (pgs_cons (pg_name (i := 5) scRunLengthen.nd rfl (Or.inl rfl)) pgs_nil)))) (ql (zb (PW.pt (pw_and (qu op_eq (pv 3) (pv 1) (nomark _)) (pw_and1 (qu op_lt (pv 2) (pv 5) (nomark _))))) (qi (ps_dput (hu_of hr) (pe_fld (pv 0) rfl) (pv 1) (qx op_add (pv 2) qk) rfl)
   (qi (ps_fldaug (pv 0) (pv 4) in_add)
   (ql (qp pe_bl)))) pss_nil)))
   (ql (qp pe_bl)))), ?_⟩
  obtain ⟨dx, rl, cn, pr, pp, pg, ur, up, rfl, R⟩ := id hR
  obtain ⟨dxr, pe, pa, pl, vn, vw, vp, vb, vs', py, us, h1, h2, h3, h4, h5, h6⟩ := R.rl.same R.sm
  refine ⟨_, rfl, _, _, _, _, _, rfl, R.hx, T.c_Run, qq T.n_Run (by decide), rfl, pg, rfl, .inl ⟨_, .inl R.hg⟩, _, rfl, _, DGet.k (k := .inr k1) R.hg, ?_⟩
  rw [gv_get ok.gi k1]
  refine ⟨_, rfl, _, _, _, _, _, rfl, R.hx, T.c_Run, qq T.n_Run (by decide), rfl, _, _, _, _, _, rfl, h1, T.c_Rule, qq T.n_Rule (by decide), rfl, _, rfl, ⟨_, SqL.of h5⟩, for_list (K := K) (a := pl) (xs := us) (fun i σ H' => H' = H ∧ (∃ v3 v4 v5 : Option V, σ = [some (.ref x), some (.str k1), some (.int (gv st.gr k1)), v3, v4, v5]) ∧ ((rd.longer.take i).find? fun t => decide (t.1 = k1) && decide (gv st.gr k1 < t.2.2)) = none) ⟨rfl, ⟨none, none, none, rfl⟩, rfl⟩ (fun i σ H' _ h => SqL.of (h.1 ▸ h5)) ?_ ?_⟩
  ·rintro i v σ H' hx ⟨rfl, ⟨v3, v4, v5, rfl⟩, hf⟩
   obtain ⟨b, t, rfl, g1, g2⟩ := h6.get' hx
   rw [List.getElem?_map] at g1
   cases eg : rd.longer[i]? with
   | none => rw [eg] at g1; cases g1
   | some z =>
    rw [eg] at g1
    cases g1
    obtain ⟨zk, zu, zt⟩ := z
    refine ⟨_, _, rfl, SqT.of g2, rfl, _, _, rfl, _, _, rfl, _, _, rfl, rfl, ?_⟩
    refine ⟨_, rfl, _, rfl, rfl, _, rfl, ite2 (fun c1 => ?_) (fun c1 => iteF ?_)⟩
    ·have c1 := V.str.inj (of_decide_eq_true c1)
     refine ⟨_, rfl, _, rfl, _, _, rfl, rfl, _, rfl, ite2 (fun c2 => ?_) (fun c2 => ?_)⟩
     ·have c2 := of_decide_eq_true c2
      have ef := find_at hf eg (by simp only; rw [decide_eq_true c1, decide_eq_true c2]; rfl)
      have lg := ok.gl
      have lr := ok.rl
      refine ⟨_, rfl, _, _, rfl, rfl, _, rfl, _, _, _, _, _, rfl, R.hx, T.c_Run, qq T.n_Run (by decide), rfl, _, rfl, pg, _, rfl, DPut.k (k := .inr k1) R.hg (by rw [sizeLine_eq]; omega), ?_⟩
      dsimp only []
      have R1 := R.setG (gr' := putK st.gr (.inr k1) (.int (gv st.gr k1 + 1)))
      have K1 : KeepS [x, pr, pp, pg] H' (upd H' pg (.dK (putK st.gr (.inr k1) (.int (gv st.gr k1 + 1))))) := keep_upd (by simp)
      generalize upd H' pg _ = H1 at R1 K1 ⊢
      refine ⟨_, rfl, _, _, _, _, _, rfl, R1.hx, T.c_Run, qq T.n_Run (by decide), rfl, _, rfl, _, _, rfl, rfl, _, _, R1.hx, (show 9 < 1000 by decide), ?_⟩
      rw [show putF (Str.ofString "units") (V.int (st.units + zu)) (rnF (.ref rl) (.ref cn) (.ref pr) (.bl st.over) (.int st.day) .non (.int st.units) (.ref pp) (.ref pg)) = rnF (.ref rl) (.ref cn) (.ref pr) (.bl st.over) (.int st.day) .non (.int (st.units + zu)) (.ref pp) (.ref pg) by with_unfolding_all rfl]
      exact k _ (zk, zu, zt) (fun b o n e => keep_upd (by simp) b o n (K1 b o n e)) ef ⟨dx, rl, cn, pr, pp, pg, ur, up, rfl, R1.setF (o' := st.over) (u' := st.units + zu)⟩
     ·have c2 : ¬ gv st.gr k1 < zt := fun q => c2 (decide_eq_true q)
      exact ⟨rfl, ⟨_, _, _, rfl⟩, find_on hf eg (by simp only; rw [decide_eq_false c2, Bool.and_false])⟩
    ·have c1 : ¬ zk = k1 := fun q => c1 (decide_eq_true (congrArg V.str q))
     exact ⟨rfl, ⟨_, _, _, rfl⟩, find_on hf eg (by simp only; rw [decide_eq_false c1, Bool.false_and])⟩
  ·rintro σ H' ⟨rfl, ⟨v3, v4, v5, rfl⟩, hf⟩
   have lu : us.length = rd.longer.length := by rw [h6.length, List.length_map]
   rw [lu, List.take_length] at hf
   exact kn hf
theorem okRunHalt (T : Txt K mg a) : FnOk P w K mg base CX0 2 a.fRunHalt a.gRunHalt ["self", "day"] (spHa a) := by
 refine T.dRunHalt.fn.ok scRunHalt (fun vs H Q E h => ?_) (fun cdv A outer s H vs Q E hr h => ?_)
 ·obtain ⟨_, _, _, _, _, _, _, _, _, rfl, _⟩ := h
  all_goals rfl
 ·obtain ⟨x, B, S, rd, st, bs, rs, c, d, rfl, hR, ok, kn, k⟩ := h
  refine ⟨_, (qi (zb (zf (pe_meth0 (pv 0) T.c_Run T.t_dRunIsHalted (okRunIsHalted T) (hr.mono (by decide)) T.dRunIsHalted.bd .nil pass0)) (ql (qp pe_bl)) pss_nil)
   (qi (qz (pe_bm PySem.F.plainAttrs_list PySem.F.slot_list_append PySem.F.type_list_append mt_append (pe_fld (pv 0) rfl) (qc (zj (qc (pv 1) (qc pe_non qj qo) qg)) qj zo)))
   (ql (qp pe_bl)))), ?_⟩
  obtain ⟨dx, rl, cn, pr, pp, pg, ur, up, rfl, R⟩ := id hR
  refine ⟨_, rfl, _, _, _, rfl, R.hx, rfl, x, B, _, rd, st, bs, rs, rfl, hR, _, rfl, ?_⟩
  cases eh : haltedB st.ps with
  | true => exact iteT (kn eh)
  | false =>
   refine iteF ⟨_, rfl, _, _, _, _, _, rfl, R.hx, T.c_Run, qq T.n_Run (by decide), rfl, .inl ⟨rfl, _, SqL.of R.hp⟩, _, rfl, fit2 _ _, fun q2 hq2 => ?_⟩
   obtain ⟨s2, e2⟩ := alc (o := .tup (encQ (d, none))) hq2
   have ll := ok.pl
   have lr := ok.rl
   have lv : up.length = st.ps.length := by rw [R.tp.length, List.length_map]
   refine ⟨_, _, _, rfl, rfl, s2 _ _ R.hp, lt1000 (by omega), ?_⟩
   have R2 := (R.same s2).setP (up' := up ++ [.ref q2]) (ps' := st.ps ++ [(d, none)]) (by rw [List.map_append]; exact (R.tp.same s2).snoc e2)
   exact k _ (fun b o n e => keep_upd (by simp) b o n (s2 _ _ e)) eh ⟨dx, rl, cn, pr, pp, pg, ur, _, rfl, R2⟩
theorem okRunWorks (T : Txt K mg a) : FnOk P w K mg base CX0 14 a.fRunWorks a.gRunWorks ["self", "word", "day", "kind"] (spWk a) := by
 refine T.dRunWorks.fn.ok scRunWorks (fun vs H Q E h => ?_) (fun cdv A outer s H vs Q E hr h => ?_)
 ·obtain ⟨_, _, _, _, _, _, _, _, _, _, _, _, rfl, _⟩ := h
  all_goals rfl
 ·obtain ⟨x, B, S, rd, st, bs, rs, c, d, w1, k1, r, rfl, hR, tok, ok, lst, k⟩ := h
  refine ⟨_, (qi (zb (qu op_eq (pv 1) zg (nomark _)) (ql (qp (pe_meth (pv 0) T.c_Run T.t_dRunFinish (okRunFinish T) (hr.mono (by decide)) T.dRunFinish.bd .nil pass0 (qc (pv 2) qj qg)))) pss_nil)
   (qi (zb (pt_not (zf (pe_meth (pv 0) T.c_Run T.t_dRunIsUnderWay (okRunIsUnderWay T) (hr.mono (by decide)) T.dRunIsUnderWay.bd .nil pass0 (qc (pv 2) qj qg)))) (ql (qp pe_bl)) pss_nil)
   (qi (zb (qu op_eq (pv 1) zg (nomark _)) (ql (qp (pe_meth (pv 0) T.c_Run T.t_dRunBeginAnew (okRunBeginAnew T) (hr.mono (by decide)) T.dRunBeginAnew.bd .nil pass0 (qc (pv 2) qj qg)))) pss_nil)
   (qi (zb (qu op_eq (pv 1) zg (nomark _)) (ql (qp (pe_meth (pv 0) T.c_Run T.t_dRunLengthen (okRunLengthen T) (hr.mono (by decide)) T.dRunLengthen.bd .nil pass0 (qc (pv 3) qj qg)))) pss_nil)
   (ql (qp (pe_ifExp (qu op_eq (pv 1) zg (nomark _)) (pe_meth (pv 0) T.c_Run T.t_dRunHalt (okRunHalt T) (hr.mono (by decide)) T.dRunHalt.bd .nil pass0 (qc (pv 2) qj qg)) (pe_meth (pv 0) T.c_Run T.t_dRunGoOn (okRunGoOn T) (hr.mono (by decide)) T.dRunGoOn.bd .nil pass0 (qc (pv 2) qj qg))))))))), ?_⟩
  obtain ⟨dx, rl, cn, pr, pp, pg, ur, up, rfl, R⟩ := id hR
  refine ⟨_, rfl, rfl, _, rfl, ite2 (fun c1 => ?_) (fun c1 => ?_)⟩
  ·have c1 := V.str.inj (of_decide_eq_true c1)
   exact ⟨_, rfl, _, _, _, rfl, R.hx, rfl, _, rfl, x, B, _, rd, st, bs, rs, c, d, rfl, hR, ok, fun H1 K1 R1 => (k H1 _ K1 Fresh.refl).2 _ (by unfold worksF; rw [if_pos c1]) R1⟩
  ·have c1 : ¬ w1 = Str.ofString "ends" := fun q => c1 (decide_eq_true (congrArg V.str q))
   refine ⟨_, rfl, _, _, _, rfl, R.hx, rfl, _, rfl, x, B, _, rd, st, bs, rs, c, d, r, rfl, hR, tok, ok, lst, fun H1 s1 => ?_⟩
   have hR1 := hR.same s1
   have R := R.same s1
   cases eu : under st r d with
   | false => exact ⟨_, rfl, iteT ((k H1 _ (KeepS.of s1) Fresh.refl).1 (by unfold worksF; rw [if_neg c1, if_pos eu]) hR1)⟩
   | true =>
    have eu' : ¬ under st r d = false := fun z => by rw [eu] at z; cases z
    refine ⟨_, rfl, iteF ⟨_, rfl, rfl, _, rfl, ite2 (fun c2 => ?_) (fun c2 => ?_)⟩⟩
    ·have c2 := V.str.inj (of_decide_eq_true c2)
     exact ⟨_, rfl, _, _, _, rfl, R.hx, rfl, _, rfl, x, B, _, rd, st, bs, rs, d, rfl, hR1, fun H2 S2 K2 F2 R2 => (k H2 S2 (fun b o n e => K2 b o n (s1 _ _ e)) (fun b hb => (F2 b hb).imp id fun z => s1.free z)).2 _ (by unfold worksF; rw [if_neg c1, if_neg eu', if_pos c2]) R2⟩
    ·have c2 : ¬ w1 = Str.ofString "anew" := fun q => c2 (decide_eq_true (congrArg V.str q))
     refine ⟨_, rfl, rfl, _, rfl, ite2 (fun c3 => ?_) (fun c3 => ?_)⟩
     ·have c3 := V.str.inj (of_decide_eq_true c3)
      refine ⟨_, rfl, _, _, _, rfl, R.hx, rfl, _, rfl, x, B, _, rd, st, bs, rs, c, k1, rfl, hR1, ok, fun en => ?_, fun H2 t K2 et R2 => ?_⟩
      ·exact (k H1 _ (KeepS.of s1) Fresh.refl).1 (by unfold worksF; rw [if_neg c1, if_neg eu', if_neg c2, if_pos c3, en]) hR1
      ·exact (k H2 _ (fun b o n e => K2 b o n (s1 _ _ e)) Fresh.refl).2 _ (by unfold worksF; rw [if_neg c1, if_neg eu', if_neg c2, if_pos c3, et]) R2
     ·have c3 : ¬ w1 = Str.ofString "longer" := fun q => c3 (decide_eq_true (congrArg V.str q))
      refine ⟨_, rfl, rfl, _, rfl, ite2 (fun c4 => ?_) (fun c4 => ?_)⟩
      ·have c4 := V.str.inj (of_decide_eq_true c4)
       refine ⟨_, rfl, _, _, _, rfl, R.hx, rfl, _, rfl, x, B, _, rd, st, bs, rs, c, d, rfl, hR1, ok, fun eh => ?_, fun H2 K2 eh R2 => ?_⟩
       ·exact (k H1 _ (KeepS.of s1) Fresh.refl).1 (by unfold worksF; rw [if_neg c1, if_neg eu', if_neg c2, if_neg c3, if_pos c4, if_pos eh]) hR1
       ·exact (k H2 _ (fun b o n e => K2 b o n (s1 _ _ e)) Fresh.refl).2 _ (by unfold worksF; rw [if_neg c1, if_neg eu', if_neg c2, if_neg c3, if_pos c4, eh, if_neg (by decide)]) R2
      ·have c4 : ¬ w1 = Str.ofString "still" := fun q => c4 (decide_eq_true (congrArg V.str q))
       refine ⟨_, rfl, _, _, _, rfl, R.hx, rfl, _, rfl, x, B, _, rd, st, bs, rs, c, d, rfl, hR1, ok, fun H2 K2 R2 => ?_⟩
       have K2' : KeepS [x, pr, pp, pg] H H2 := fun b o n e => K2 b o n (s1 _ _ e)
       cases eh : haltedB st.ps with
       | true => exact (k H2 _ K2' Fresh.refl).2 _ (by unfold worksF; rw [if_neg c1, if_neg eu', if_neg c2, if_neg c3, if_neg c4, if_pos eh]) R2
       | false =>
        rw [go_same eh] at R2
        exact (k H2 _ K2' Fresh.refl).1 (by unfold worksF; rw [if_neg c1, if_neg eu', if_neg c2, if_neg c3, if_neg c4, eh, if_neg (by decide)]) R2
theorem okRunFeel (T : Txt K mg a) : FnOk P w K mg base CX0 15 a.fRunFeel a.gRunFeel ["self", "name", "day", "kind"] (spFe a) := by
 refine T.dRunFeel.fn.ok scRunFeel (fun vs H Q E h => ?_) (fun cdv A outer s H vs Q E hr h => ?_)
 ·obtain ⟨_, _, _, _, _, _, _, _, _, _, _, _, rfl, _⟩ := h
  all_goals rfl
 ·obtain ⟨x, B, S, rd, st, bs, rs, c, d, n, k1, r, rfl, hR, tok, rok, ok, lst, k⟩ := h
  refine ⟨_, (qi (qv (i := 4) scRunFeel.nd rfl (Or.inl rfl) (pe_meth (pe_fld (pv 0) rfl) T.c_Rule T.t_dRuleRole (okRuleRole T) (hr.mono (by decide)) T.dRuleRole.bd .nil pass0 (qc (pv 3) qj qg)))
   (qi (zb (PW.pt (pw_or (qu op_eq (pv 4) zg (nomark _)) (pw_or (zf (pe_fld (pv 0) rfl)) (pw_or1 (pt_not (zf (pe_meth (pv 0) T.c_Run T.t_dRunWorks (okRunWorks T) (hr.mono (by decide)) T.dRunWorks.bd .nil pass0 (qc (pv 4) (qc (pv 2) (qc (pv 3) qj qg) qg) qg)))))))) (ql (qp pe_bl)) pss_nil)
   (qi (qz (pe_bm PySem.F.plainAttrs_list PySem.F.slot_list_append PySem.F.type_list_append mt_append (pe_fld (pv 0) rfl) (qc (zj (qc (pv 1) (qc (pv 2) (qc (pv 4) qj qg) qg) qg)) qj zo)))
   (ql (qp pe_bl))))), ?_⟩
  obtain ⟨dx, rl, cn, pr, pp, pg, ur, up, rfl, R⟩ := id hR
  have ruleH := R.rl.same R.sm
  obtain ⟨dxr, pe, pa, pl, vn, vw, vp, vb, vs', py, us, h1, _⟩ := id ruleH
  refine ⟨_, rfl, _, _, _, _, _, rfl, R.hx, T.c_Run, qq T.n_Run (by decide), rfl, _, _, _, rfl, h1, rfl, _, rfl, rl, k1, rd, rfl, ruleH, rok, fun H1 s1 => ?_⟩
  have hR1 := hR.same s1
  have R1 := R.same s1
  have no : ∀ H' S', KeepS [x, pr, pp, pg] H H' → Fresh H [x, pr, pp, pg] S' → RunAt a B H' x S' rd st bs rs → feelF rd st r n d k1 = (st, false) → Q (.bl false) H' := fun H' S' K' F' R' e => by
   have := k H' S' K' F'
   rw [e] at this
   exact this R'
  refine ⟨_, rfl, rfl, _, rfl, ite2 (fun c1 => iteT ?_) (fun c1 => ?_)⟩
  ·have c1 := V.str.inj (of_decide_eq_true c1)
   exact no H1 _ (KeepS.of s1) Fresh.refl hR1 (by unfold feelF; rw [if_pos (.inl c1)])
  ·have c1 : ¬ roleOf rd k1 = Str.ofString "" := fun q => c1 (decide_eq_true (congrArg V.str q))
   refine ⟨_, rfl, _, _, _, _, _, rfl, R1.hx, T.c_Run, qq T.n_Run (by decide), rfl, _, rfl, ite2 (fun c2 => iteT ?_) (fun c2 => ?_)⟩
   ·exact no H1 _ (KeepS.of s1) Fresh.refl hR1 (by unfold feelF; rw [if_pos (.inr c2)])
   ·have c12 : ¬ (roleOf rd k1 = Str.ofString "" ∨ st.over = true) := fun z => z.elim c1 c2
    refine ⟨_, rfl, _, _, _, rfl, R1.hx, rfl, _, rfl, _, rfl, _, rfl, x, B, _, rd, st, bs, rs, c, d, _, k1, r, rfl, hR1, tok, ok, lst, fun H2 S2 K2 F2 => ⟨fun en R2 => ?_, fun s es R2 => ?_⟩⟩
    ·exact ⟨_, rfl, iteT (no H2 S2 (fun b o n e => K2 b o n (s1 _ _ e)) (fun b hb => (F2 b hb).imp id fun z => s1.free z) R2 (by unfold feelF; rw [if_neg c12, en]))⟩
    ·have k := k
     have ef : feelF rd st r n d k1 = ({ s with rows := s.rows ++ [(n, d, roleOf rd k1)] }, true) := by unfold feelF; rw [if_neg c12, es]
     rw [ef] at k
     obtain ⟨dx2, rl2, cn2, pr2, pp2, pg2, ur2, up2, rfl, X2⟩ := R2
     refine ⟨_, rfl, iteF ⟨_, rfl, _, _, _, _, _, rfl, X2.hx, T.c_Run, qq T.n_Run (by decide), rfl, .inl ⟨rfl, _, SqL.of X2.hr⟩, _, rfl, _, rfl, _, rfl, fit3 _ _ _, fun q3 hq3 => ?_⟩⟩
     obtain ⟨s3, e3⟩ := alc (o := .tup (encR (n, d, roleOf rd k1))) hq3
     have lr : s.rows.length ≤ 400 := by rw [works_rows es]; exact ok.rl
     have lv : ur2.length = s.rows.length := by rw [X2.tr.length, List.length_map]
     refine ⟨_, _, _, rfl, rfl, s3 _ _ X2.hr, lt1000 (by omega), ?_⟩
     have X3 := (X2.same s3).setR (ur' := ur2 ++ [.ref q3]) (rows' := s.rows ++ [(n, d, roleOf rd k1)]) (by rw [List.map_append]; exact (X2.tr.same s3).snoc e3)
     have F2' : Fresh H [x, pr, pp, pg] [x, pr2, pp2, pg2] := fun b hb => (F2 b hb).imp id fun z => s1.free z
     have K2' : KeepS [x, pr, pp, pg] H H2 := fun b o n e => K2 b o n (s1 _ _ e)
     refine k _ [x, pr2, pp2, pg2] (K2'.trans F2' (fun b o n e => keep_upd (by simp) b o n (s3 _ _ e))) F2' ⟨dx2, rl2, cn2, pr2, pp2, pg2, _, up2, rfl, X3⟩
theorem okLaw (T : Txt K mg a) : FnOk P w K mg base CX0 17 a.fLaw a.gLaw ["_law_script"] (spLaw K) := by
 refine T.dLaw.fn.ok scLaw (fun vs H Q E h => ?_) (fun cdv A outer s H vs Q E hr h => ?_)
 ·obtain ⟨_, _, rfl, _⟩ := h
  all_goals rfl
 ·obtain ⟨l, ns, rfl, hS, hlen, k⟩ := h
  refine ⟨_, (qi (qv (i := 1) scLaw.nd rfl (Or.inl rfl) (zd call_sortedS (by rfl) T.n_sorted boot_sorted (qc (zc (okLawWords T) (hr.mono (by decide)) rfl T.dLawWords.mgx T.dLawWords.fn.kp T.dLawWords.bd .nil pass0 (qc (zc (okLawCellAt T) (hr.mono (by decide)) rfl T.dLawCellAt.mgx T.dLawCellAt.fn.kp T.dLawCellAt.bd .nil pass0 (qc (pv 0) (qc qk qj qo) qg)) (qc qk qj qo) zl)) qj zl)))
   (qi (qv (i := 2) scLaw.nd rfl (Or.inl rfl) (zc (okLawWords T) (hr.mono (by decide)) rfl T.dLawWords.mgx T.dLawWords.fn.kp T.dLawWords.bd .nil pass0 (qc (zc (okLawCellAt T) (hr.mono (by decide)) rfl T.dLawCellAt.mgx T.dLawCellAt.fn.kp T.dLawCellAt.bd .nil pass0 (qc (pv 0) (qc qk qj qo) qg)) (qc qk qj qo) zl)))
   (qi (qv (i := 3) scLaw.nd rfl (Or.inl rfl) (zc (okLawRule T) (hr.mono (by decide)) rfl T.dLawRule.mgx T.dLawRule.fn.kp T.dLawRule.bd .nil pass0 (qc (pv 0) (qc (pv 2) (qc (pv 1) qj qg) qg) qg)))
   (qi (qv (i := 4) scLaw.nd rfl (Or.inl rfl) (qx op_mod (zc (okLawCellAt T) (hr.mono (by decide)) rfl T.dLawCellAt.mgx T.dLawCellAt.fn.kp T.dLawCellAt.bd .nil pass0 (qc (pv 0) (qc qk qj qo) qg)) (zp zr (zh (qc (qx op_pow qk qk) (qc qk qj qo) zm)) (qx op_mod (zc (okLawCellAt T) (hr.mono (by decide)) rfl T.dLawCellAt.mgx T.dLawCellAt.fn.kp T.dLawCellAt.bd .nil pass0 (qc (pv 0) (qc qk qj qo) qg)) qk) (fun _ _ => rfl))))
   (qi (qv (i := 5) scLaw.nd rfl (Or.inl rfl) (pe_make T.k_Run (okRunInit T) (hr.mono (by decide)) rfl T.m_Run T.e_RunInit_5 (dvs := [.non]) (.cons rfl .nil) pass0 (qc (pv 3) (qc (pe_make T.k_Table (okTableInit T) (hr.mono (by decide)) rfl T.m_Table T.e_TableInit_2 (dvs := [.non, .non]) (.cons rfl (.cons rfl .nil)) pass0 (qc (zh qj) qj star_lst)) (qc (zp zr (pv 1) qk (fun _ _ => rfl)) (qc (pv 4) qj qg) zn) zl) qg)))
   (qi (qv (i := 6) scLaw.nd rfl (Or.inl rfl) (zj (qc (pv 4) (qc (pe_fld (pv 3) rfl) (qc (zh qj) (qc qk (qc (zp zr (zh (qc qk (qc qk (qc qk qj qo) qo) qo)) (qx op_mod (zc (okLawCellAt T) (hr.mono (by decide)) rfl T.dLawCellAt.mgx T.dLawCellAt.fn.kp T.dLawCellAt.bd .nil pass0 (qc (pv 0) (qc qk qj qo) qg)) qk) (fun _ _ => rfl)) qj zn) qo) star_lst) star_att) qg)))
   (qi (qv (i := 7) scLaw.nd rfl (Or.inl rfl) (zh (qc (zj (qc (zp zr (pv 1) qk (fun _ _ => rfl)) (qc (pv 4) (qc zg qj qo) qg) zn)) qj zo)))
   (qi (qv (i := 8) scLaw.nd rfl (Or.inl rfl) pe_bl)
   (qi (qv (i := 9) scLaw.nd rfl (Or.inl rfl) (pe_meth0 (pv 5) T.c_Run T.t_dRunAccount (okRunAccount T) (hr.mono (by decide)) T.dRunAccount.bd .nil pass0))
   (qi (qv (i := 10) scLaw.nd rfl (Or.inl rfl) (zj (qc (pe_meth0 (pv 5) T.c_Run T.t_dRunAccount (okRunAccount T) (hr.mono (by decide)) T.dRunAccount.bd .nil pass0) (qc (zc (okLawDue T) (hr.mono (by decide)) rfl T.dLawDue.mgx T.dLawDue.fn.kp T.dLawDue.bd .nil pass0 (qc (pv 6) (qc (pv 5) (qc pe_bl (qc (pv 7) qj qg) qo) qg) qg)) qj zl) zl)))
   (qi (ps_for PassesOwn.never rfl (pi_range3 rfl T.n_range (qc qk (qc (zd (call_max2 rfl) (by rfl) T.n_max boot_max (qc qk (qc (zd (call_min2 rfl) (by rfl) T.n_min boot_min (qc (zd call_len (by rfl) T.n_len boot_len (qc (pv 0) qj qg)) (qc qk qj qo) zl)) qj zl) qo)) (qc qk qj qo) zl) qo)) (pg_name (i := 11) scLaw.nd rfl (Or.inl rfl)) (qi (qv (i := 12) scLaw.nd rfl (Or.inl rfl) (qx op_mod (zc (okLawCellAt T) (hr.mono (by decide)) rfl T.dLawCellAt.mgx T.dLawCellAt.fn.kp T.dLawCellAt.bd .nil pass0 (qc (pv 0) (qc (qx op_add (pv 11) qk) qj zm) qg)) qk))
   (qi (qv (i := 4) scLaw.nd rfl (Or.inl rfl) (qx op_add (pv 4) (qx op_mod (zc (okLawCellAt T) (hr.mono (by decide)) rfl T.dLawCellAt.mgx T.dLawCellAt.fn.kp T.dLawCellAt.bd .nil pass0 (qc (pv 0) (qc (pv 11) qj qg) qg)) qk)))
   (qi (qv (i := 13) scLaw.nd rfl (Or.inl rfl) (zc (okLawRole T) (hr.mono (by decide)) rfl T.dLawRole.mgx T.dLawRole.fn.kp T.dLawRole.bd .nil pass0 (qc (pv 12) qj qg)))
   (qi (qv (i := 14) scLaw.nd rfl (Or.inl rfl) (pe_bm PySem.F.plainAttrs_list PySem.F.slot_list_index PySem.F.type_list_index mt_indexS (zh (qc zg (qc zg (qc zg (qc zg (qc zg (qc zg (qc zg (qc zg qj qo) qo) qo) qo) qo) qo) qo) qo)) (qc (pv 13) qj qg)))
   (qi (qv (i := 15) scLaw.nd rfl (Or.inl rfl) (pv 6))
   (qi (zb (pt_not (zf (pv 8))) (ql (qv (i := 15) scLaw.nd rfl (Or.inl rfl) (zc (okLawTurned T) (hr.mono (by decide)) rfl T.dLawTurned.mgx T.dLawTurned.fn.kp T.dLawTurned.bd .nil pass0 (qc (pv 6) (qc (pv 13) (qc (pv 4) (qc (pv 3) qj qg) qg) qg) qg)))) pss_nil)
   (qi (qv (i := 16) scLaw.nd rfl (Or.inl rfl) (pe_and (pe_not (pv 8)) (pe_one (pe_or (pe_cmpR op_in_seq (pv 13) (zj (qc zg (qc zg qj qo) qo)) (by with_unfolding_all rfl)) (pe_one (pe_cmpR (op_neTI hr.units) (pv 15) (pv 6) (nomark _)))))))
   (qi (zb (zf (pv 16)) (ql (qz (pe_bm PySem.F.plainAttrs_list PySem.F.slot_list_append PySem.F.type_list_append mt_append (pv 7) (qc (zj (qc (zp zr (pv 1) (qx op_add qk (qx op_fdiv (qx op_sub (pv 11) qk) qk)) (fun _ _ => rfl)) (qc (pv 4) (qc (zp zr (zh (qc (pv 13) (qc zg qj qo) qg)) (pe_callTy call_int1 (by rfl) T.n_int boot_int (qc (pe_cmpR op_eq (pv 13) zg (nomark _)) qj star_rel)) (fun _ _ => rfl)) qj zn) qg) zn)) qj zo)))) pss_nil)
   (qi (qv (i := 8) scLaw.nd rfl (Or.inl rfl) (pe_or (pv 8) (pe_one (pe_cmpR op_in_seq (pv 13) (zj (qc zg (qc zg qj qo) qo)) (by with_unfolding_all rfl)))))
   (qi (qv (i := 6) scLaw.nd rfl (Or.inl rfl) (pv 15))
   (qi (zb (PW.pt (pw_and (qu op_in_seq (pv 13) (zj (qc zg (qc zg qj qo) qo)) (by with_unfolding_all rfl)) (pw_and1 (qu op_eq (qx op_mod (qx op_fdiv (zc (okLawCellAt T) (hr.mono (by decide)) rfl T.dLawCellAt.mgx T.dLawCellAt.fn.kp T.dLawCellAt.bd .nil pass0 (qc (pv 0) (qc (qx op_add (pv 11) qk) qj zm) qg)) qk) qk) qk (nomark _))))) (ql (qv (i := 14) scLaw.nd rfl (Or.inl rfl) (qx op_add (pv 14) qk))) pss_nil)
   (qi (qv (i := 17) scLaw.nd rfl (Or.inl rfl) (pe_meth (pv 5) T.c_Run T.t_dRunFeel (okRunFeel T) (hr.mono (by decide)) T.dRunFeel.bd .nil pass0 (qc (zp zr (pv 1) (qx op_add qk (qx op_fdiv (qx op_sub (pv 11) qk) qk)) (fun _ _ => rfl)) (qc (pv 4) (qc (zp zr (pv 2) (pv 14) (fun _ _ => rfl)) qj zn) qg) zn)))
   (qi (zb (PW.pt (pw_or (pt_not (zf (zd call_isi (by rfl) T.n_isinstance boot_isinstance (qc (pv 17) (qc (pe_bltn (v := .ty "bool") rfl T.n_bool boot_bool rfl) qj qg) qg)))) (pw_or1 (qu op_ne (pv 17) (pv 16) (nomark _))))) (ql (qp pe_bl)) pss_nil)
   (ql (zb (pt_not (zf (zc (okLawTold T) (hr.mono (by decide)) rfl T.dLawTold.mgx T.dLawTold.fn.kp T.dLawTold.bd .nil pass0 (qc (pv 5) (qc (zc (okLawDue T) (hr.mono (by decide)) rfl T.dLawDue.mgx T.dLawDue.fn.kp T.dLawDue.bd .nil pass0 (qc (pv 6) (qc (pv 5) (qc (pv 8) (qc (pv 7) qj qg) qg) qg) qg)) (qc (pv 8) qj qg) zl) qg)))) (ql (qp pe_bl)) pss_nil))))))))))))))))
   (qi (qz (pe_bm PySem.F.plainAttrs_list PySem.F.slot_list_append PySem.F.type_list_append mt_append (zp zq (zp zq (pv 10) qk (fun _ _ => rfl)) qk (fun _ _ => rfl)) (qc (zj (qc qk (qc qk qj qo) qo)) qj zo)))
   (qi (qz (pe_bm PySem.F.plainAttrs_list PySem.F.slot_list_append PySem.F.type_list_append mt_append (zp zq (zp zq (pv 10) qk (fun _ _ => rfl)) qk (fun _ _ => rfl)) (qc (zj (qc (zp zr (pv 1) qk (fun _ _ => rfl)) (qc (pv 4) (qc zg qj qo) qg) zn)) qj zo)))
   (ql (qp (pe_and (zc (okLawTold T) (hr.mono (by decide)) rfl T.dLawTold.mgx T.dLawTold.fn.kp T.dLawTold.bd .nil pass0 (qc (pv 5) (qc (zc (okLawDue T) (hr.mono (by decide)) rfl T.dLawDue.mgx T.dLawDue.fn.kp T.dLawDue.bd .nil pass0 (qc (pv 6) (qc (pv 5) (qc (pv 8) (qc (pv 7) qj qg) qg) qg) qg)) (qc (pv 8) qj qg) zl) qg)) (pe_one (zc (okLawAlike3 T) (hr.mono (by decide)) rfl T.dLawAlike.mgx T.dLawAlike.fn.kp T.dLawAlike.bd .nil pass0 (qc (pv 9) (qc (zp zq (pv 10) qk (fun _ _ => rfl)) qj zn) qg))))))))))))))))))), ?_⟩
  refine ⟨_, rfl, _, _, _, rfl, hS, (by decide), _, 26, rfl, by decide, fun qw H1 nw s1 e1 => ?_⟩
  refine ⟨_, _, rfl, SqL.of e1, (by rw [wds_len]; decide), fun pn nm' hpn perm => ?_⟩
  have ln : nm'.length = 26 := perm.length_eq.trans (wds_len _ _)
  obtain ⟨s2, e2⟩ := alc (o := .lst (nm'.map V.str)) hpn
  generalize upd H1 pn _ = H2 at s2 e2 ⊢
  have sA := s1.trans s2
  refine ⟨_, rfl, _, _, _, rfl, sA.seq hS, (by decide), _, 10, rfl, by decide, fun pk H3 nk s3 e3 => ?_⟩
  have sB := sA.trans s3
  have hn3 := s3 _ _ e2
  refine ⟨_, rfl, _, rfl, _, rfl, l, pk, pn, ns, cell ns 4, nm', rfl, sB.seq hS, e3, hn3, ln, fun prl H4 s4 nrl hrl => ?_⟩
  have sC := sB.trans s4
  have hk4 := s4 _ _ e3
  have hn4 := s4 _ _ hn3
  generalize hrd : rd53 (cell ns 1) (cell ns 3) (cell ns 4) = rdL at hrl
  refine ⟨_, rfl, _, _, _, rfl, sC.seq hS, (by decide), _, _, rfl, rfl, ⟨by decide, by decide, by decide⟩, fit2 _ _, fun q5 hq5 => ?_⟩
  dsimp only []
  obtain ⟨s5, e5⟩ := alc (o := .lst [V.int (10 ^ (60 : Int).toNat), V.int 500]) hq5
  generalize upd H4 q5 _ = H5 at s5 e5 ⊢
  have sD := sC.trans s5
  obtain ⟨m, hm, m0⟩ := pick2 (cell ns 0) (10 ^ (60 : Int).toNat) 500 (by decide) (by decide)
  refine ⟨_, rfl, _, _, _, rfl, sD.seq hS, (by decide), _, _, rfl, rfl, (pos (by decide)), _, _, _, _, rfl, rfl, SqL.of e5, hm, _, _, rfl, rfl, (pos m0), ?_⟩
  have d0 := Int.emod_nonneg (cell ns 2) (Int.ne_of_gt m0)
  rw [start18 (v := V.ref l)]
  rotate_left
  ·rfl
  dsimp only [gName, List.set_cons_succ, List.set_cons_zero]
  generalize cell ns 2 % m = D0 at d0 ⊢
  refine ⟨_, rfl, fit0, fun p1 hp1 => ?_⟩
  obtain ⟨s6, e6⟩ := alc (o := .lst []) hp1
  generalize upd H5 p1 _ = H6 at s6 e6 ⊢
  refine fun tb dxt nxt ndt net => ?_
  have keepT : Same H6 (upd (upd H6 dxt (.own tb)) tb (.ins a.cTable dxt [])) := made_keep nxt ndt
  refine ⟨tb, dxt, p1, .non, .non, [], [], [], rfl, qm, keepT _ _ e6, .inl ⟨rfl, rfl⟩, .inl ⟨rfl, rfl⟩, okW0, okY0, by decide, okR0, fun H7 b7 tab => ⟨rfl, ?_⟩⟩
  have s7 : Same H6 H7 := b7.made nxt ndt
  have tt := tab H7 fun _ _ _ e => e
  have z47 := s5.trans (s6.trans s7)
  have sE := sC.trans z47
  have hn7 := z47 _ _ hn4
  have hk7 := z47 _ _ hk4
  have hrl7 := hrl.same z47
  clear tab b7 keepT
  obtain ⟨n0, g0⟩ : ∃ y, nm'[0]? = some y := ⟨_, List.getElem?_eq_getElem (by omega)⟩
  have at0 : atI (nm'.map V.str) 0 = some (V.str n0) := atI_nat (j := 0) (by rw [List.getElem?_map, g0]; rfl)
  refine ⟨_, rfl, _, _, _, _, rfl, rfl, SqL.of hn7, at0, _, rfl, fun x dxr nxr ndr ner => ?_⟩
  refine ⟨x, dxr, prl, tb, n0, D0, rdL, bs0, rs0, H7, rfl, qm, made_keep2 nxr ndr, nxr, hrl7, tt, fun H8 B S sBB s8 fS hR => ⟨rfl, ?_⟩⟩
  dsimp only [gName, List.set_cons_succ, List.set_cons_zero]
  have rok : RdOk rdL := by rw [← hrd]; exact rd53_ok _ _ _
  have eu : rdL.unit = uix (cell ns 1) := by rw [← hrd]; rfl
  have U1 := rok.m1
  have tok := pok0.tab
  obtain ⟨w', hw, hw2, hw3⟩ := usz_at (cell ns 1)
  have hz : ∀ u : Int, u * w' = need rdL.unit u := fun u => by rw [Int.mul_comm, hw3, eu]
  have sF := sE.trans s8
  have hrl8 := hrl7.same s8
  obtain ⟨dxr1, pe, pa, pl, vn, vw, vp, vb, vs', py, ul, g1, _⟩ := id hrl8
  refine ⟨_, rfl, _, rfl, _, _, _, _, _, rfl, g1, T.c_Rule, qq T.n_Rule (by decide), rfl, fit0, fun pq hpq => ?_⟩
  obtain ⟨s9, e9⟩ := alc (o := .lst []) hpq
  generalize upd H8 pq _ = H9 at s9 e9 ⊢
  refine ⟨fit3 _ _ _, fun q10 hq10 => ?_⟩
  obtain ⟨s10, e10⟩ := alc (o := .lst [V.int 1, V.int 7, V.int 1]) hq10
  generalize upd H9 q10 _ = H10 at s10 e10 ⊢
  have sG := sF.trans (s9.trans s10)
  refine ⟨_, rfl, _, _, _, rfl, sG.seq hS, (by decide), _, _, rfl, rfl, (pos (by decide)), _, _, _, _, rfl, rfl, SqL.of e10, hw, fit5 _ _ _ _ _, fun qh hqh => ?_⟩
  obtain ⟨s11, e11⟩ := alc (o := .tup [V.int D0, V.int rdL.many, V.ref pq, V.int 0, V.int w']) hqh
  generalize upd H10 qh _ = H11 at s11 e11 ⊢
  dsimp only [gName, List.set_cons_succ, List.set_cons_zero]
  have z11 := s9.trans (s10.trans s11)
  refine ⟨_, rfl, _, _, _, _, rfl, rfl, SqL.of ((s8.trans z11) _ _ hn7), at0, _, rfl, fit3 _ _ _, fun q12 hq12 => ?_⟩
  obtain ⟨s12, e12⟩ := alc (o := .tup [V.str n0, V.int D0, V.str (Str.ofString "begins")]) hq12
  generalize upd H11 q12 _ = H12 at s12 e12 ⊢
  refine ⟨fit1 _, fun pw hpw => ?_⟩
  obtain ⟨s13, e13⟩ := alc (o := .lst [V.ref q12]) hpw
  generalize upd H12 pw _ = H13 at s13 e13 ⊢
  dsimp only [gName, List.set_cons_succ, List.set_cons_zero]
  have z12 := z11.trans s12
  have z13 := z12.trans s13
  have hR13 := hR.same z13
  have upw : pq ≠ pw := ne_of_none ((s10.trans (s11.trans s12)) _ _ e9) hpw
  have nqS : pq ∉ S := not_own hR hpq
  have nwS : pw ∉ S := not_own hR (z12.free hpw)
  have h7w : H7 pw = none := (s8.trans z12).free hpw
  have bpw : B pw = none := by
   obtain ⟨_, _, _, _, _, _, _, _, _, R⟩ := hR
   exact (R.sm.trans z12).free hpw
  have rw13 : AtR H13 pw [(n0, D0, Str.ofString "begins")] := ⟨_, e13, .cons (s13 _ _ e12) .nil⟩
  have held13 : HeldAt H13 qh pq (hsO ⟨[(n0, D0, Str.ofString "begins")], false, D0, rdL.many, [], []⟩ (wdS (cell ns 4) 3)) w' := ⟨(s12.trans s13) _ _ e11, ⟨[], (s10.trans (s11.trans (s12.trans s13))) _ _ e9, .nil⟩⟩
  have ok0 : StOk ⟨[(n0, D0, Str.ofString "begins")], false, D0, rdL.many, [], []⟩ D0 := ⟨⟨.nil, fun _ h => absurd h List.not_mem_nil⟩, d0, U1, Nat.zero_le _, (show 1 ≤ 400 by decide), Nat.zero_le _, (fun k v h => by cases h), (fun _ h => absurd h List.not_mem_nil), fun z => nomatch z⟩
  obtain ⟨r0, ls0⟩ := lsx_ex (rd := rdL) ok0 (fun z => by cases z)
  have la0 := la_of (g := 0) ok0 ls0 (hz _) hw2
  obtain ⟨dx0, rl0, cn0, pr0, pp0, pg0, ur0, up0, eS, X13⟩ := id hR13
  refine ⟨_, rfl, _, _, _, rfl, X13.hx, rfl, x, B, _, rdL, _, bs0, rs0, D0, r0, n0, _, D0, [], rfl, hR13, tok, ok0, ls0.1, rfl, fun qe p4e p6e H14 s14 nqe n4e n6e accE => ?_⟩
  dsimp only [gName, List.set_cons_succ, List.set_cons_zero]
  have X14 := X13.same s14
  refine ⟨_, rfl, _, _, _, rfl, X14.hx, rfl, x, B, _, rdL, _, bs0, rs0, D0, r0, n0, _, D0, [], rfl, hR13.same s14, tok, ok0, ls0.1, rfl, fun qf p4f p6f H15 s15 nqf n4f n6f accF => ?_⟩
  have z15 := s14.trans s15
  refine ⟨_, rfl, _, rfl, _, rfl, qh, pq, pw, .ref x, w', 0, D0, ⟨[(n0, D0, Str.ofString "begins")], false, D0, rdL.many, [], []⟩, rdL.unit, r0, n0, _, [], rfl, held13.same z15, la0, Nat.zero_le _, rw13.same z15, rfl, fun qd p4d p6d H16 s16 nqd n4d n6d accD => ⟨fit2 _ _, fun qt hqt => ?_⟩⟩
  obtain ⟨s17, e17⟩ := alc (o := .tup [V.ref qf, V.ref qd]) hqt
  generalize upd H16 qt _ = H17 at s17 e17 ⊢
  dsimp only [gName, List.set_cons_succ, List.set_cons_zero]
  have z1417 := s15.trans (s16.trans s17)
  have z1317 := s14.trans z1417
  have z717 := s8.trans (z13.trans z1317)
  obtain ⟨F, hF⟩ : ∃ F, F = Msk (pw :: S) H17 := ⟨_, rfl⟩
  have FH : Same F H17 := by rw [hF]; exact msk_same
  have FS : ∀ b ∈ S, F b = none := fun b hb => by rw [hF]; exact msk_in (List.mem_cons_of_mem _ hb)
  have Fw : F pw = none := by rw [hF]; exact msk_in List.mem_cons_self
  have Fl : ∀ b o, b ∉ S → b ≠ pw → H17 b = some o → F b = some o := fun b o n1 n2 e => by rw [hF, msk_at (fun hb => (List.mem_cons.mp hb).elim n2 n1)]; exact e
  have F7 : Same H7 F := fun b o e => Fl b o (fun hb => by rw [fS b hb] at e; cases e) (fun z => by rw [z, h7w] at e; cases e) (z717 _ _ e)
  have X17 := X13.same z1317
  have Ft : ∀ b t, H17 b = some (.tup t) → F b = some (.tup t) := fun b t e => Fl b _ (by rw [eS]; exact own_tup X17 (Same.refl _) e) (fun z => by rw [z, z1317 _ _ e13] at e; cases e) e
  have new : ∀ {J : Hp} {p : Addr}, Same H13 J → J p = none → p ∉ S ∧ p ≠ pw := fun {J p} sJ e => ⟨not_own (hR13.same sJ) e, fun z => by rw [z, sJ _ _ e13] at e; cases e⟩
  have m4e := new (Same.refl _) n4e
  have m6e := new (Same.refl _) n6e
  have m4f := new s14 n4f
  have m6f := new s14 n6f
  have m4d := new z15 n4d
  have m6d := new z15 n6d
  have aE : AccAt F qe p4e p6e n0 _ r0 := (accE.same z1417).keep Ft (fun l e => Fl _ _ m4e.1 m4e.2 e) (fun l e => Fl _ _ m6e.1 m6e.2 e)
  have aF : AccAt F qf p4f p6f n0 _ r0 := (accF.same (s16.trans s17)).keep Ft (fun l e => Fl _ _ m4f.1 m4f.2 e) (fun l e => Fl _ _ m6f.1 m6f.2 e)
  have aD : AccAt F qd p4d p6d n0 _ r0 := (accD.same s17).keep Ft (fun l e => Fl _ _ m4d.1 m4d.2 e) (fun l e => Fl _ _ m6d.1 m6d.2 e)
  have qF := Ft _ _ e17
  have ne46 : p4e ≠ p4f ∧ p4e ≠ p6f ∧ p6e ≠ p4f ∧ p6e ≠ p6f ∧ p4d ≠ p4f ∧ p4d ≠ p6f ∧ p6d ≠ p4f ∧ p6d ≠ p6f ∧ p4f ≠ p6f ∧ B p4f = none ∧ B p6f = none := by
   obtain ⟨_, ⟨_, x4, _⟩, ⟨_, x6, _⟩⟩ := accE
   obtain ⟨_, ⟨_, y4, t4⟩, ⟨_, y6, t6⟩⟩ := accF
   refine ⟨ne_of_none x4 n4f, ne_of_none x4 n6f, ne_of_none x6 n4f, ne_of_none x6 n6f, Ne.symm (ne_of_none y4 n4d), Ne.symm (ne_of_none y6 n4d), Ne.symm (ne_of_none y4 n6d), Ne.symm (ne_of_none y6 n6d), fun z => ?_, (X14.sm).free n4f, (X14.sm).free n6f⟩
   have l4 : _ = 0 := t4.length
   have l6 : _ = 1 := t6.length
   rw [z, y6] at y4
   injection y4 with y4
   injection y4 with y4
   rw [y4] at l6
   omega
  have zH := sF.trans (z13.trans z1317)
  have pqM : pq ∉ [pw, p4f, p6f] := fun hb => by
   have q14 := (s10.trans (s11.trans (s12.trans (s13.trans s14)))) _ _ e9
   rcases List.mem_cons.mp hb with z | hb
   ·exact upw z
   ·rcases List.mem_cons.mp hb with z | hb
    ·rw [z, n4f] at q14; cases q14
    ·rw [List.mem_singleton.mp hb, n6f] at q14; cases q14
  obtain ⟨f1, ⟨u4, f4, t4⟩, ⟨u6, f6, t6⟩⟩ := aF
  refine ⟨_, rfl, _, _, rfl, .inl ⟨_, zH.seq hS, rfl⟩, _, _, rfl, _, _, rfl, _, _, _, rfl, ⟨by decide, by decide, by decide, by decide, ?_, ?_⟩, for_step (fun i σ H' => ∃ (S : List Addr) (st : RS) (D : Int) (qh pq : Addr) (uw : List V) (rw0 : List R3) (v11 v12 v13 v14 v15 v16 v17 : Option V), σ = [some (.ref l), some (.ref pn), some (.ref pk), some (.ref prl), some (.int D), some (.ref x), some (.ref qh), some (.ref pw), some (.bl st.over), some (.ref qe), some (.ref qt), v11, v12, v13, v14, v15, v16, v17] ∧ RunAt a B H' x S rdL st bs0 rs0 ∧ StOk st D ∧ (haltedB st.ps = true → Full (kf bs0 rs0 rdL.unit) st.ps st.day (need rdL.unit st.units) none) ∧ (∀ z ∈ st.ps, z.1 ≤ D) ∧ HeldAt H' qh pq (hsO st (wdS (cell ns 4) 3)) w' ∧ pq ∉ S ∧ pq ∉ [pw, p4f, p6f] ∧ H' pw = some (.lst uw) ∧ Tups H' uw (st.rows.map encR) ∧ pw ∉ S ∧ st.rows = (n0, D0, Str.ofString "begins") :: rw0 ∧ st.rows.length ≤ i + 1 ∧ Same F H' ∧ ∀ b ∈ S, F b = none) ?_ ?_ ?_⟩
  ·split <;> (try split) <;> omega
  ·split <;> (try split) <;> omega
  ·exact ⟨S, _, D0, qh, pq, [V.ref q12], [], none, none, none, none, none, none, none, rfl, hR13.same z1317, ok0, (fun z => by cases z), (fun _ h => absurd h List.not_mem_nil), held13.same z1317, nqS, pqM, z1317 _ _ e13, .cons (z1317 _ _ (s13 _ _ e12)) .nil, nwS, rfl, Nat.le_refl _, FH, FS⟩
  ·rintro i σ H' hi ⟨S, st, D, qh, pq, uw, rw0, v11, v12, v13, v14, v15, v16, v17, rfl, hR, ok, hno, hfs, hh, nqS, upw, hw1, tw, nwS, hrw, hlr, FH, FS⟩
   obtain ⟨dx1, rl1, cn1, pr, pp, pg, ur, up, rfl, R⟩ := id hR
   have z7 := F7.trans FH
   have zB := sE.trans z7
   have hi2 : i ≤ 21 := by
    have := rs_le5 (h := if (if 49 < (((ns.map V.int).length : Nat) : Int) then 49 else (((ns.map V.int).length : Nat) : Int)) > 6 then (if 49 < (((ns.map V.int).length : Nat) : Int) then 49 else (((ns.map V.int).length : Nat) : Int)) else 6) (by split <;> (try split) <;> omega)
    omega
   obtain ⟨r, lsx⟩ := lsx_ex (rd := rdL) ok (fun z => FuN.ls (hno z))
   have lr := ok.rl
   have lp := ok.pl
   refine ⟨_, rfl, _, rfl, _, _, rfl, rfl, _, _, _, rfl, zB.seq hS, (by omega), _, _, rfl, rfl, (pos (by decide)), ?_⟩
   have q0 : 0 ≤ cell ns (5 + (i : Int) * 2 + 1) % 24 := by omega
   have q24 : cell ns (5 + (i : Int) * 2 + 1) % 24 < 24 := by omega
   dsimp only [gName, List.set_cons_succ, List.set_cons_zero]
   generalize cell ns (5 + (i : Int) * 2 + 1) % 24 = cc at q0 q24 ⊢
   refine ⟨_, rfl, _, rfl, _, rfl, _, _, _, rfl, zB.seq hS, (by omega), _, _, rfl, rfl, (pos (by decide)), _, _, rfl, rfl, ?_⟩
   have dd : D ≤ D + cell ns (5 + (i : Int) * 2) % 7 := by omega
   dsimp only [gName, List.set_cons_succ, List.set_cons_zero]
   generalize D + cell ns (5 + (i : Int) * 2) % 7 = D1 at dd ⊢
   refine ⟨_, rfl, cc, rfl, q0, q24, fun j J1 j8 t1 => ?_⟩
   dsimp only [gName, List.set_cons_succ, List.set_cons_zero]
   refine ⟨fits (show 8 ≤ 100000 by decide), fun p8 hp8 => ?_⟩
   obtain ⟨t2, e8⟩ := alc (o := .lst [V.str (Str.ofString "due"), V.str (Str.ofString "ends"), V.str (Str.ofString "anew"), V.str (Str.ofString "longer"), V.str (Str.ofString "still"), V.str (Str.ofString "goes on"), V.str (Str.ofString "from"), V.str (Str.ofString "none")]) hp8
   generalize upd J1 p8 _ = J2 at t2 e8 ⊢
   have e8 : J2 p8 = some (.lst (rls.map V.str)) := e8
   refine ⟨.inl ⟨rfl, _, SqL.of e8⟩, _, rfl, p8, rls, rlw j, j, rfl, rfl, e8, (rls_at j j8).1, (rls_at j j8).2, ?_⟩
   dsimp only [gName, List.set_cons_succ, List.set_cons_zero]
   refine ⟨_, rfl, ?_⟩
   dsimp only [gName, List.set_cons_succ, List.set_cons_zero]
   have t12 := t1.trans t2
   have hfs1 : ∀ z ∈ st.ps, z.1 ≤ D1 := fun z hz => by have := hfs z hz; omega
   have hlo : rdL.longer = [(wdS (cell ns 4) 3, 1 + cell ns 3 % 4, 1 + cell ns 3 / 4 % 3)] := by rw [← hrd]; rfl
   generalize hhb : (if st.over = true then hsO st (wdS (cell ns 4) 3) else tuF rdL.many (1 + cell ns 3 % 4) (1 + cell ns 3 / 4 % 3) (hsO st (wdS (cell ns 4) 3)) r j D1) = hb
   apply use2 (p := fun (qb : Addr) (J3 : Hp) => ∃ pb, Same J2 J3 ∧ HeldAt J3 qb pb hb w' ∧ pb ∉ [x, pr, pp, pg] ∧ pb ∉ [pw, p4f, p6f])
   ·intro mm
    refine ⟨_, rfl, _, rfl, ite2 (fun c => ?_) (fun c => ?_)⟩
    ·have c : ¬ st.over = true := fun z => by rw [z] at c; cases c
     refine ⟨_, rfl, _, rfl, _, rfl, _, rfl, qh, pq, prl, j, D1, w', hsO st (wdS (cell ns 4) 3), rdL.unit, r, rdL, _, _, _, rfl, j8, hh.same t12, la_of ok lsx (hz _) hw2, (show st.ps.length ≤ 1000 by omega), hfs1, hrl7.same (z7.trans t12), hlo, fun qb pb J3 s3 f3 at3 => ?_⟩
     dsimp only [gName, List.set_cons_succ, List.set_cons_zero]
     refine mm qb J3 ⟨pb, s3, by rw [← hhb, if_neg c]; exact at3, ?_, ?_⟩
     ·rcases f3 with e | f3
      ·rw [e]; exact nqS
      ·exact not_own (hR.same t12) f3
     ·rcases f3 with e | f3
      ·rw [e]; exact upw
      ·intro hb'
       rcases List.mem_cons.mp hb' with e | hb'
       ·rw [e, t12 _ _ hw1] at f3; cases f3
       ·rcases List.mem_cons.mp hb' with e | hb'
        ·rw [e, (FH.trans t12) _ _ f4] at f3; cases f3
        ·rw [List.mem_singleton.mp hb', (FH.trans t12) _ _ f6] at f3; cases f3
    ·have c : st.over = true := by cases e : st.over with | true => rfl | false => rw [e] at c; exact absurd rfl c
     exact mm qh J2 ⟨pq, Same.refl J2, by rw [← hhb, if_pos c]; exact hh.same t12, nqS, upw⟩
   ·rintro qb J3 ⟨pb, t3, hb3, nbS, nbM⟩
    have t13 := t12.trans t3
    generalize hcb : (!st.over && (decide (j < 2) || !eqH hb (hsO st (wdS (cell ns 4) 3)) w')) = cb
    apply use2 (p := fun (b : Bool) (J4 : Hp) => Same J3 J4 ∧ b = cb)
    ·intro mm
     refine ⟨_, rfl, _, rfl, _, rfl, ite2 (fun c => ?_) (fun c => ?_)⟩
     ·refine ⟨_, rfl, fit2 _ _, fun p4 hp4 => ?_⟩
      obtain ⟨t4, e4⟩ := alc (o := .tup [V.str (Str.ofString "due"), V.str (Str.ofString "ends")]) hp4
      generalize upd J3 p4 _ = J4 at t4 e4 ⊢
      refine ⟨_, _, rfl, .inr (SqT.of e4), rfl, rfl, _, rfl, ?_⟩
      show if inV (.str (rlw j)) [V.str (Str.ofString "due"), V.str (Str.ofString "ends")] = true then _ else _
      rw [rl_de j j8]
      refine ite2 (fun c2 => ?_) (fun c2 => ?_)
      rotate_left
      ·have hb4 := hb3.same t4
       have hh4 := hh.same (t13.trans t4)
       obtain ⟨x1, x2, x3, x4⟩ := id hb4
       obtain ⟨y1, y2, y3, y4⟩ := id hh4
       refine ⟨_, rfl, _, rfl, _, _, _, _, [hb.s == (hsO st (wdS (cell ns 4) 3)).s, hb.u == (hsO st (wdS (cell ns 4) 3)).u, eqTs (hb.ps.map encQ) ((hsO st (wdS (cell ns 4) 3)).ps.map encQ), hb.g == (hsO st (wdS (cell ns 4) 3)).g, w' == w'], rfl, rfl, SqT.of x1, SqT.of y1, .cons (.flat rfl rfl) (.cons (.flat rfl rfl) (.cons (.rows x3 y3 x4 y4 (encQ_flat _) (encQ_flat _)) (.cons (.flat rfl rfl) (.cons (.flat rfl rfl) .nil)))), ?_⟩
       dsimp only [gName, List.set_cons_succ, List.set_cons_zero]
       generalize hb5 : (!List.all _ id) = b
       exact mm b J4 ⟨t4, by rw [← hb5, ← hcb, c, (Bool.not_eq_true _).mp c2]; rfl⟩
      ·exact mm true J4 ⟨t4, by rw [← hcb, c, c2]; rfl⟩
     ·exact mm false J3 ⟨Same.refl _, by rw [← hcb, (Bool.not_eq_true _).mp c]; rfl⟩
    ·rintro b J4 ⟨t4, rfl⟩
     have t14 := t13.trans t4
     have hw4 := t14 _ _ hw1
     have tw4 := tw.same t14
     obtain ⟨nx, hnx⟩ : ∃ y, nm'[1 + i]? = some y := ⟨_, List.getElem?_eq_getElem (by omega)⟩
     have natx : atI (nm'.map V.str) (1 + (5 + (i : Int) * 2 - 5) / 2) = some (V.str nx) := by
      rw [show 1 + (5 + (i : Int) * 2 - 5) / 2 = ((1 + i : Nat) : Int) by omega]
      exact atI_nat (by rw [List.getElem?_map, hnx]; rfl)
     have R4 := R.same t14
     have b7 : ∀ {b : Addr} {o : HO}, H7 b = some o → b ≠ pw := fun e => ne_of_none e h7w
     apply useP (p := fun J5 => But2 pw pw J4 J5 ∧ ((b = false ∧ J5 = J4) ∨ (b = true ∧ ∃ q8, J5 pw = some (.lst (uw ++ [.ref q8])) ∧ J5 q8 = some (.tup (encR (nx, D1, w2 j))) ∧ Tups J5 uw (st.rows.map encR))))
     ·intro mm
      refine ⟨_, rfl, _, rfl, ite2 (fun c => ?_) (fun c => ?_)⟩
      ·refine ⟨_, rfl, .inl ⟨rfl, _, SqL.of hw4⟩, _, rfl, _, rfl, _, _, rfl, rfl, _, _, rfl, rfl, ⟨by decide, by decide⟩, _, _, rfl, rfl, _, _, _, _, rfl, rfl, SqL.of ((z7.trans t14) _ _ hn7), natx, _, rfl, _, rfl, fit2 _ _, fun q7 hq7 => ?_⟩
       obtain ⟨t7, e7⟩ := alc (o := .lst [V.str (rlw j), V.str (Str.ofString "ends")]) hq7
       generalize upd J4 q7 _ = J6 at t7 e7 ⊢
       refine ⟨_, rfl, rfl, .inr ⟨_, rfl, _, _, _, _, rfl, rfl, SqL.of e7, w2_at j8, fit3 _ _ _, fun q8 hq8 => ?_⟩⟩
       obtain ⟨t8, e8⟩ := alc (o := .tup [V.str nx, V.int D1, V.str (w2 j)]) hq8
       have nq8 : q8 ≠ pw := fun z => by rw [z, t7 _ _ hw4] at hq8; cases hq8
       generalize upd J6 q8 _ = J7 at t8 e8 ⊢
       have t78 := t7.trans t8
       have lu : uw.length ≤ 90000 := by rw [tw.length, List.length_map]; omega
       refine ⟨_, _, _, rfl, rfl, t78 _ _ hw4, lt1000 lu, ?_⟩
       have k9 : But2 pw pw J4 (upd J7 pw (.lst (uw ++ [V.ref q8]))) := fun b o n1 n2 e => by rw [qr n2]; exact t78 _ _ e
       have w9 := qm (H := J7) (a := pw) (o := .lst (uw ++ [V.ref q8]))
       have q9 := (qr (o := .lst (uw ++ [V.ref q8])) nq8).trans e8
       have tw9 : Tups (upd J7 pw (.lst (uw ++ [V.ref q8]))) uw (st.rows.map encR) := (tw4.same t78).upd (t78 _ _ hw4)
       generalize upd J7 pw _ = J9 at k9 w9 q9 tw9 ⊢
       exact mm J9 ⟨k9, .inr ⟨c, q8, w9, q9, tw9⟩⟩
      ·exact mm J4 ⟨fun _ _ _ _ e => e, .inl ⟨(Bool.not_eq_true _).mp c, rfl⟩⟩
     ·rintro J5 ⟨k5, hv⟩
      have R5 := R4.but2 k5 hw4 hw4 nwS nwS bpw bpw
      have F5 : Same F J5 := fun b o e => k5 b o (ne_of_none e Fw) (ne_of_none e Fw) ((FH.trans t14) _ _ e)
      apply use2 (p := fun (o : Bool) (J6 : Hp) => Same J5 J6 ∧ o = (st.over || decide (j < 2)))
      ·intro mm
       refine ⟨_, rfl, _, rfl, ite2 (fun c => ?_) (fun c => ?_)⟩
       rotate_left
       ·refine ⟨_, rfl, fit2 _ _, fun p4 hp4 => ?_⟩
        obtain ⟨t6, e6⟩ := alc (o := .tup [V.str (Str.ofString "due"), V.str (Str.ofString "ends")]) hp4
        generalize upd J5 p4 _ = J6 at t6 e6 ⊢
        refine ⟨_, _, rfl, .inr (SqT.of e6), rfl, rfl, ?_⟩
        dsimp only [gName, List.set_cons_succ, List.set_cons_zero]
        have ei := rl_de j j8
        generalize hb5 : inV (.str (rlw j)) [V.str (Str.ofString "due"), V.str (Str.ofString "ends")] = b' at ei
        exact mm b' J6 ⟨t6, by rw [ei, (Bool.not_eq_true _).mp c]; rfl⟩
       ·exact mm true J5 ⟨Same.refl _, by rw [c]; rfl⟩
      ·rintro o J6 ⟨t6, ho⟩
       refine ⟨_, rfl, ?_⟩
       dsimp only [gName, List.set_cons_succ, List.set_cons_zero]
       apply use2 (p := fun (wh : Int) (J7 : Hp) => Same J6 J7 ∧ ∃ kk : Nat, wh = (kk : Int) ∧ (kk = j ∨ (kk = j + 7 ∧ (j = 1 ∨ j = 2))))
       ·intro mm
        refine ⟨_, rfl, fit2 _ _, fun p4 hp4 => ?_⟩
        obtain ⟨t7, e7⟩ := alc (o := .tup [V.str (Str.ofString "ends"), V.str (Str.ofString "anew")]) hp4
        generalize upd J6 p4 _ = J7 at t7 e7 ⊢
        refine ⟨_, _, rfl, .inr (SqT.of e7), rfl, rfl, _, rfl, ?_⟩
        show if inV (.str (rlw j)) [V.str (Str.ofString "ends"), V.str (Str.ofString "anew")] = true then _ else _
        rw [rl_ea j j8]
        refine ite2 (fun c => ?_) (fun c => iteF ?_)
        ·have c := of_decide_eq_true c
         refine ⟨_, rfl, _, rfl, _, _, rfl, rfl, _, _, _, rfl, ((sE.trans F7).trans (F5.trans (t6.trans t7))).seq hS, (by omega), _, _, rfl, rfl, ⟨by decide, by decide⟩, _, _, rfl, rfl, (pos (by decide)), rfl, _, rfl, ite2 (fun c2 => ?_) (fun c2 => ?_)⟩
         ·refine ⟨_, rfl, _, _, rfl, rfl, ?_⟩
          dsimp only [gName, List.set_cons_succ, List.set_cons_zero]
          generalize hwh : (j : Int) + 7 = wh
          exact mm wh J7 ⟨t7, j + 7, by omega, .inr ⟨rfl, c⟩⟩
         ·exact mm (j : Int) J7 ⟨t7, j, rfl, .inl rfl⟩
        ·exact mm (j : Int) J7 ⟨t7, j, rfl, .inl rfl⟩
       ·rintro wh J7 ⟨t7, kk, rfl, hkk⟩
        have t57 := t6.trans t7
        have F7' := F5.trans t57
        have R7 := R5.same t57
        refine ⟨_, rfl, _, _, _, rfl, R7.hx, rfl, _, rfl, _, rfl, _, _, rfl, rfl, _, _, rfl, rfl, ⟨by decide, by decide⟩, _, _, rfl, rfl, _, _, _, _, rfl, rfl, SqL.of ((F7.trans F7') _ _ hn7), natx, _, rfl, _, rfl, _, rfl, _, _, _, _, rfl, rfl, SqL.of ((F7.trans F7') _ _ hk7), (atI_nat (j := kk) (by rw [List.getElem?_map, wds_at (show kk < 10 by omega)]; rfl)), x, B, _, rdL, st, bs0, rs0, D, D1, nx, _, r, rfl, ⟨dx1, rl1, cn1, pr, pp, pg, ur, up, rfl, R7⟩, tok, rok, ok, lsx.1, fun J8 S8 k8 f8 R8 => ?_⟩
        obtain ⟨stN, dn, ef, N⟩ := nxt53 (c1 := cell ns 1) (c3 := cell ns 3) (c4 := cell ns 4) (n := nx) (z := w') j8 hkk ok dd (by omega) (by rw [hrd]; exact lsx) hfs (by rw [hrd]; exact hno)
        rw [hrd] at ef N
        rw [ef] at R8 ⊢
        have ehs := N.hs.trans hhb
        have hdn : dn = b := by rw [N.dn, ehs, hcb]
        subst hdn
        have ho : o = stN.over := by rw [ho, N.ov]
        subst ho
        have kt : ∀ b t, J5 b = some (.tup t) → J8 b = some (.tup t) := fun b t e => k8 b _ (own_tup R5 t57 (t57 _ _ e)) (t57 _ _ e)
        have k4t : ∀ b t, J4 b = some (.tup t) → J8 b = some (.tup t) := fun b t e => kt b t (k5 b _ (fun z => by rw [z, hw4] at e; cases e) (fun z => by rw [z, hw4] at e; cases e) e)
        have nbw : pb ≠ pw := fun z => nbM (by rw [z]; simp)
        have hb8 : HeldAt J8 qb pb (hsO stN (wdS (cell ns 4) 3)) w' := by
         rw [ehs]
         exact (hb3.same t4).keep k4t (fun l e => k8 _ _ nbS (t57 _ _ (k5 _ _ nbw nbw e)))
        obtain ⟨uwN, w8, tw8⟩ : ∃ us, J8 pw = some (.lst us) ∧ Tups J8 us (stN.rows.map encR) := by
         rcases hv with ⟨h1, h2⟩ | ⟨h1, q8, h2, h3, h4⟩
         ·rw [N.rows, h1, if_neg (by decide)]
          exact ⟨uw, k8 _ _ nwS (t57 _ _ (by rw [h2]; exact hw4)), tups_keep tw4 k4t⟩
         ·rw [N.rows, h1, if_pos rfl]
          refine ⟨_, k8 _ _ nwS (t57 _ _ h2), ?_⟩
          rw [List.map_append]
          exact (tups_keep h4 kt).snoc (kt _ _ h3)
        obtain ⟨rwN, hrwN⟩ : ∃ rw1, stN.rows = (n0, D0, Str.ofString "begins") :: rw1 := by
         rw [N.rows, hrw]
         cases dn
         ·exact ⟨rw0, rfl⟩
         ·exact ⟨rw0 ++ [(nx, D1, w2 j)], rfl⟩
        have lrN : stN.rows.length ≤ i + 1 + 1 := by
         rw [N.rows]
         cases dn
         ·rw [if_neg (by decide)]; omega
         ·rw [if_pos rfl, List.length_append, List.length_singleton]; omega
        have J7w : J7 pw ≠ none := fun z => by
         rcases hv with ⟨_, h2⟩ | ⟨_, q8, h2, _, _⟩
         ·rw [t57 _ _ (by rw [h2]; exact hw4)] at z; cases z
         ·rw [t57 _ _ h2] at z; cases z
        have nw8 : pw ∉ S8 := fun hb => (f8 pw hb).elim nwS J7w
        have nb8 : pb ∉ S8 := fun hb => by
         rcases f8 pb hb with z | z
         ·exact nbS z
         ·obtain ⟨_, _, y3, _⟩ := hb3.same t4
          rw [t57 _ _ (k5 _ _ nbw nbw y3)] at z; cases z
        have F8 : Same F J8 := fun b o e => k8 b o (fun hb => by rw [FS b hb] at e; cases e) (F7' _ _ e)
        have FS8 : ∀ b ∈ S8, F b = none := fun b hb => (f8 b hb).elim (FS b) F7'.free
        refine ⟨_, rfl, _, _, _, _, rfl, .bl _, kit_bool_bool, _, rfl, iteF ⟨_, rfl, _, rfl, rfl, _, rfl, iteND rfl ?_⟩⟩
        obtain ⟨rN, lsN⟩ := lsx_ex (rd := rdL) N.ok (fun z => FuN.ls (N.no z))
        have lpN := N.ok.pl
        have lrN2 := N.ok.rl
        refine ⟨_, rfl, _, rfl, _, rfl, _, rfl, _, rfl, qb, pb, pw, .ref x, w', _, D0, stN, rdL.unit, rN, n0, _, rwN, rfl, hb8, la_of N.ok lsN (hz _) hw2, by omega, ⟨uwN, w8, tw8⟩, hrwN, fun q9 p9 p9' J9 t9 _ _ _ acc9 => ?_⟩
        refine ⟨_, rfl, x, q9, p9, p9', B, _, rdL, stN, bs0, rs0, D1, D0, rN, n0, _, rwN, rfl, R8.same t9, tok, N.ok, lsN.1, hrwN, acc9, fun J10 t10 => ⟨_, rfl, iteF ?_⟩⟩
        have z10 := t9.trans t10
        exact ⟨S8, stN, D1, qb, pb, uwN, rwN, _, _, _, _, _, _, _, rfl, R8.same z10, N.ok, N.no, N.fs, hb8.same z10, nb8, nbM, z10 _ _ w8, tw8.same z10, nw8, hrwN, lrN, F8.trans z10, FS8⟩
  ·rintro σ H' ⟨S, st, D, qh, pq, uw, rw0, v11, v12, v13, v14, v15, v16, v17, rfl, hR, ok, hno, hfs, hh, nqS, upw, hw1, tw, nwS, hrw, hlr, FH, FS⟩
   obtain ⟨dx1, rl1, cn1, pr, pp, pg, ur, up, rfl, R⟩ := id hR
   have inS : ∀ {b : Addr} {o : HO}, F b = some o → b ∉ [x, pr, pp, pg] := fun e hb => by rw [FS _ hb] at e; cases e
   have hi2 : st.rows.length ≤ 23 := by
    have := rs_le5 (h := if (if 49 < (((ns.map V.int).length : Nat) : Int) then 49 else (((ns.map V.int).length : Nat) : Int)) > 6 then (if 49 < (((ns.map V.int).length : Nat) : Int) then 49 else (((ns.map V.int).length : Nat) : Int)) else 6) (by split <;> (try split) <;> omega)
    omega
   have l4 : u4.length = 0 := by rw [t4.length]; rfl
   have l6 : u6.length = 1 := by rw [t6.length]; rfl
   refine ⟨_, rfl, _, _, _, _, rfl, rfl, SqT.of (FH _ _ qF), rfl, _, _, _, _, rfl, rfl, SqT.of (FH _ _ f1), rfl, .inl ⟨rfl, _, SqL.of (FH _ _ f4)⟩, fit2 _ _, fun q1 hq1 => ?_⟩
   have s1 := qy (o := .tup [V.int 0, V.int 0]) hq1
   generalize upd H' q1 _ = J1 at s1 ⊢
   refine ⟨_, _, _, rfl, rfl, s1 _ _ (FH _ _ f4), lt1000 (by omega), ?_⟩
   have k2 : ∀ b o, b ≠ p4f → H' b = some o → upd J1 p4f (.lst (u4 ++ [V.ref q1])) b = some o := fun b o n e => by rw [qr n]; exact s1 _ _ e
   generalize upd J1 p4f _ = J2 at k2 ⊢
   obtain ⟨m1, m2, m3, m4, m5, m6, m7, m8, m9, m10, m11⟩ := ne46
   have g2 : ∀ b o, b ≠ p4f → F b = some o → J2 b = some o := fun b o n e => k2 b o n (FH _ _ e)
   have tne : ∀ {b : Addr} {t : List V} {p : Addr} {us : List V}, F b = some (.tup t) → F p = some (.lst us) → b ≠ p := fun e e' z => by rw [z, e'] at e; cases e
   have hnF := F7 _ _ hn7
   have f62 := g2 _ _ (Ne.symm m9) f6
   have nn4 : pn ≠ p4f := fun z => by
    rw [z, f4] at hnF
    injection hnF with hnF
    injection hnF with hnF
    rw [hnF, List.length_map] at l4
    omega
   refine ⟨_, rfl, _, _, _, _, rfl, rfl, SqT.of (g2 _ _ (tne qF f4) qF), rfl, _, _, _, _, rfl, rfl, SqT.of (g2 _ _ (tne f1 f4) f1), rfl, .inl ⟨rfl, _, SqL.of f62⟩, _, rfl, _, _, _, _, rfl, rfl, SqL.of (g2 _ _ nn4 hnF), at0, _, rfl, fit3 _ _ _, fun q3 hq3 => ?_⟩
   have s3 := qy (o := .tup [V.str n0, V.int D, V.str (Str.ofString "ends")]) hq3
   generalize upd J2 q3 _ = J3 at s3 ⊢
   refine ⟨_, _, _, rfl, rfl, s3 _ _ f62, lt1000 (by omega), ?_⟩
   have k4 : But2 p4f p6f H' (upd J3 p6f (.lst (u6 ++ [V.ref q3]))) := fun b o n1 n2 e => by rw [qr n2]; exact s3 _ _ (k2 b o n1 e)
   generalize upd J3 p6f _ = J4 at k4 ⊢
   have hf4 := FH _ _ f4
   have hf6 := FH _ _ f6
   have R4 := R.but2 k4 hf4 hf6 (inS f4) (inS f6) m10 m11
   have kt : ∀ b t, H' b = some (.tup t) → J4 b = some (.tup t) := fun b t e => k4 b _ (fun z => by rw [z, hf4] at e; cases e) (fun z => by rw [z, hf6] at e; cases e) e
   have Fk : ∀ b l, b ≠ p4f → b ≠ p6f → F b = some (.lst l) → J4 b = some (.lst l) := fun b l n1 n2 e => k4 b _ n1 n2 (FH _ _ e)
   have Fkt : ∀ b t, F b = some (.tup t) → J4 b = some (.tup t) := fun b t e => kt b t (FH _ _ e)
   have hh4 := hh.keep kt (fun l e => k4 _ _ (fun z => upw (by rw [z]; simp)) (fun z => upw (by rw [z]; simp)) e)
   have hw4 := k4 _ _ (ne_of_none f4 Fw).symm (ne_of_none f6 Fw).symm hw1
   have tw4 := tups_keep tw kt
   obtain ⟨r, lsx⟩ := lsx_ex (rd := rdL) ok (fun z => FuN.ls (hno z))
   have lp := ok.pl
   have hR4 : RunAt a B J4 x [x, pr, pp, pg] rdL st bs0 rs0 := ⟨dx1, rl1, cn1, pr, pp, pg, ur, up, rfl, R4⟩
   have a4E : AccAt J4 qe p4e p6e n0 _ r0 := aE.keep Fkt (fun l e => Fk _ _ m1 m2 e) (fun l e => Fk _ _ m3 m4 e)
   have a4D : AccAt J4 qd p4d p6d n0 _ r0 := aD.keep Fkt (fun l e => Fk _ _ m5 m6 e) (fun l e => Fk _ _ m7 m8 e)
   refine ⟨_, rfl, _, rfl, _, rfl, _, rfl, _, rfl, qh, pq, pw, .ref x, w', _, D0, st, rdL.unit, r, n0, _, rw0, rfl, hh4, la_of ok lsx (hz _) hw2, by omega, ⟨uw, hw4, tw4⟩, hrw, fun q9 p9 p9' J9 t9 _ _ _ acc9 => ?_⟩
   refine ⟨_, rfl, x, q9, p9, p9', B, _, rdL, st, bs0, rs0, D, D0, r, n0, _, rw0, rfl, hR4.same t9, tok, ok, lsx.1, hrw, acc9, fun J10 t10 => ⟨_, rfl, iteT ?_⟩⟩
   have z10 := t9.trans t10
   exact ⟨_, rfl, _, rfl, _, _, _, _, rfl, rfl, SqT.of (z10 _ _ (Fkt _ _ qF)), rfl, .ref qe, .ref qd, rfl, alk_acc (a4E.same z10) (a4D.same z10) (Nat.zero_le _) (show 1 ≤ 1000 by decide), fun J12 t12 => k _⟩
end
set_option maxHeartbeats 4000000 in
theorem all_mk {l : PySem.W.OpenLaw} {w : World} {K : PySem.W.Frag} {h : Heap} {mg : Str → Option Value} {fa : Addr} (X : K.In h) (G : h.Ns mainGlobals mg) (hfa : mg "law" = some (.ref fa))
  {C_Counting : Addr} {C_CourtDays : Addr} {C_Pattern : Addr} {C_Rule : Addr} {C_Run : Addr} {C_Table : Addr} {C_Weeks : Addr} {f0 : Addr} {f1 : Addr} {f2 : Addr} {f3 : Addr} {f4 : Addr} {f5 : Addr} {f6 : Addr} {f7 : Addr} {f8 : Addr} {f9 : Addr} {f10 : Addr} {f11 : Addr} {f12 : Addr} {f13 : Addr} {f14 : Addr} {f15 : Addr} {f16 : Addr} {f17 : Addr} {f18 : Addr} {f19 : Addr} {f20 : Addr} {f21 : Addr} {f22 : Addr} {f23 : Addr} {f24 : Addr} {f25 : Addr} {f26 : Addr} {f27 : Addr} {f28 : Addr} {f29 : Addr} {f30 : Addr} {f31 : Addr} {f32 : Addr} {f33 : Addr} {f34 : Addr} {f35 : Addr} {f36 : Addr} {f37 : Addr} {f38 : Addr} {f39 : Addr} {f40 : Addr} {f41 : Addr} {f42 : Addr} {f43 : Addr} {f44 : Addr} {f45 : Addr} {f46 : Addr} {od46 an46 : Option Addr} {sl46 : Array (Option Value)} {oc46 kV46 dc46 pm46 cd46 ct46 : Value} {dV46 : Value} {f47 : Addr} {f48 : Addr} {f49 : Addr} {f50 : Addr} {f51 : Addr} {f52 : Addr} {f53 : Addr} {f54 : Addr} {f55 : Addr} {f56 : Addr} {f57 : Addr} {od57 an57 : Option Addr} {sl57 : Array (Option Value)} {oc57 kV57 dc57 pm57 cd57 ct57 : Value} {dV57 : Value} {f58 : Addr} {f59 : Addr} {od59 an59 : Option Addr} {sl59 : Array (Option Value)} {oc59 kV59 dc59 pm59 cd59 ct59 : Value} {dV59 : Value} {f60 : Addr} {f61 : Addr} {f62 : Addr} {f63 : Addr} {f64 : Addr} {f65 : Addr} {f66 : Addr} {f67 : Addr} {f68 : Addr} {f69 : Addr} {f70 : Addr} {f71 : Addr} {od71 an71 : Option Addr} {sl71 : Array (Option Value)} {oc71 kV71 dc71 pm71 cd71 ct71 : Value} {tk_MOST_WEEKDAYS : Tok} {tk_MOST_YEARLY : Tok} {tk_MOST_YEARLY_DAYS : Tok} {tk_SHORT_YEAR : Tok} {tk_LONG_YEAR : Tok} {tk_MOST_ROWS : Tok} {tk_MOST_ROW_DAYS : Tok} {tk_TURN : Tok} {tk_DAYS_OF_A_WEEK : Tok} {A_WORDS : Addr} {oa_WORDS : Option Addr} {na_WORDS : Nat} {tt0_WORDS tt1_WORDS : Tok} {sa_WORDS : Array (Option Value)}
  (ca_Counting : PySem.W.nsIn K mainGlobals "Counting" = some (some (.ref C_Counting))) (ca_CourtDays : PySem.W.nsIn K mainGlobals "CourtDays" = some (some (.ref C_CourtDays))) (ca_Pattern : PySem.W.nsIn K mainGlobals "Pattern" = some (some (.ref C_Pattern))) (ca_Rule : PySem.W.nsIn K mainGlobals "Rule" = some (some (.ref C_Rule))) (ca_Run : PySem.W.nsIn K mainGlobals "Run" = some (some (.ref C_Run))) (ca_Table : PySem.W.nsIn K mainGlobals "Table" = some (some (.ref C_Table))) (ca_Weeks : PySem.W.nsIn K mainGlobals "Weeks" = some (some (.ref C_Weeks))) (p0 : Pm K C_Counting "__init__" "Counting.__init__" sCountingInit f0) (p1 : Pd K "kind_of" sKindOf f1) (p2 : Pd K "is_whole" sIsWhole f2) (p3 : Pd K "is_stretch_of" sIsStretchOf f3) (p4 : Pd K "place" sPlace f4) (p5 : Pd K "joined" sJoined f5) (p6 : Pd K "laid_over" sLaidOver f6) (p7 : Pd K "overlay" sOverlay f7) (p8 : Pm K C_Counting "days_for" "Counting.days_for" sCountingDaysFor f8) (p9 : Pm K C_Weeks "days_for" "Weeks.days_for" sWeeksDaysFor f9) (p10 : Pm K C_Counting "reach" "Counting.reach" sCountingReach f10) (p11 : Pd K "long_before" sLongBefore f11) (p12 : Pm K C_Pattern "before_year" "Pattern.before_year" sPatternBeforeYear f12) (p13 : Pm K C_Pattern "year_with" "Pattern.year_with" sPatternYearWith f13) (p14 : Pd K "first_week" sFirstWeek f14) (p15 : Pm K C_Pattern "nth" "Pattern.nth" sPatternNth f15) (p16 : Pd K "year_of" sYearOf f16) (p17 : Pd K "weekday" sWeekday f17) (p18 : Pd K "date_of" sDateOf f18) (p19 : Pd K "day_of_year" sDayOfYear f19) (p20 : Pm K C_Pattern "before" "Pattern.before" sPatternBefore f20) (p21 : Pm K C_Table "shift" "Table.shift" sTableShift f21) (p22 : Pm K C_Table "before" "Table.before" sTableBefore f22) (p23 : Pm K C_Table "nth" "Table.nth" sTableNth f23) (p24 : Pm K C_CourtDays "reach" "CourtDays.reach" sCourtDaysReach f24) (p25 : Pm K C_Counting "counted_in" "Counting.counted_in" sCountingCountedIn f25) (p26 : Pm K C_CourtDays "counted_in" "CourtDays.counted_in" sCourtDaysCountedIn f26) (p27 : Pd K "full_day" sFullDay f27) (p28 : Pm K C_Table "next_open" "Table.next_open" sTableNextOpen f28) (p29 : Pd K "first_due" sFirstDue f29) (p30 : Pd K "last_day" sLastDay f30) (p31 : Pd K "is_free_within" sIsFreeWithin f31) (p32 : Pd K "counted_up" sCountedUp f32) (p33 : Pd K "is_weekday" sIsWeekday f33) (p34 : Pd K "refuse_week" sRefuseWeek f34) (p35 : Pd K "is_yearly" sIsYearly f35) (p36 : Pd K "refuse_yearly" sRefuseYearly f36) (p37 : Pd K "list_or_empty" sListOrEmpty f37) (p38 : Pd K "is_row" sIsRow f38) (p39 : Pd K "refuse_rows" sRefuseRows f39) (p40 : Pd K "_law_cell_at" sLawCellAt f40) (p41 : Pd K "_law_words" sLawWords f41) (p42 : Pd K "_law_alike" sLawAlike f42) (p43 : Pd K "_law_last" sLawLast f43) (p44 : Pd K "_law_shut" sLawShut f44) (p45 : Pd K "_law_turned" sLawTurned f45) (a46 : PySem.W.findIn K (.ref C_Rule) "__init__" = some (some (.ref f46))) (t46 : PySem.W.typeIn K (.ref f46) = some (.type "function")) (l46 : K.lookup f46 = some ⟨oc46, od46, .func (PySem.W.fnOf "__init__" "Rule.__init__" (defArgs sRuleInit) (defBody sRuleInit) (defScope sRuleInit) dV46 kV46 dc46 pm46 an46 cd46 ct46), sl46⟩) (c46 : PySem.W.codeIn K cd46 "Rule.__init__" = true) (k46 : PySem.W.keepIn K (.ref f46) = true) (pk46 : ∀ (u0 u1 u2 u3 u4 u5 u6 u7 u8 : Value) (S : Setting), PySem.W.peek K S (bindArgs (PySem.W.fnOf "__init__" "Rule.__init__" (defArgs sRuleInit) (defBody sRuleInit) (defScope sRuleInit) dV46 kV46 dc46 pm46 an46 cd46 ct46) ⟨[u0, u1, u2, u3, u4, u5, u6, u7, u8], []⟩) = some [(Str.ofString "self", u0), (Str.ofString "name", u1), (Str.ofString "who", u2), (Str.ofString "owes", u3), (Str.ofString "opens", u4), (Str.ofString "base", u5), (Str.ofString "many", u6), (Str.ofString "unit", u7), (Str.ofString "still", u8)]) (p47 : Pd K "_law_rule" sLawRule f47) (p48 : Pm K C_Run "is_over" "Run.is_over" sRunIsOver f48) (p49 : Pm K C_Run "starts_on" "Run.starts_on" sRunStartsOn f49) (p50 : Pm K C_Run "lasts_to" "Run.lasts_to" sRunLastsTo f50) (p51 : Pm K C_Run "state_word" "Run.state_word" sRunStateWord f51) (p52 : Pm K C_Run "account" "Run.account" sRunAccount f52) (p53 : Pd K "_law_told" sLawTold f53) (p54 : Pd K "_law_due" sLawDue f54) (p55 : Pd K "_law_role" sLawRole f55) (p56 : Pm K C_Run "set_out" "Run.set_out" sRunSetOut f56) (a57 : PySem.W.findIn K (.ref C_Run) "__init__" = some (some (.ref f57))) (t57 : PySem.W.typeIn K (.ref f57) = some (.type "function")) (l57 : K.lookup f57 = some ⟨oc57, od57, .func (PySem.W.fnOf "__init__" "Run.__init__" (defArgs sRunInit) (defBody sRunInit) (defScope sRunInit) dV57 kV57 dc57 pm57 an57 cd57 ct57), sl57⟩) (c57 : PySem.W.codeIn K cd57 "Run.__init__" = true) (k57 : PySem.W.keepIn K (.ref f57) = true) (pk57 : ∀ (u0 u1 u2 u3 u4 u5 : Value) (S : Setting), PySem.W.peek K S (bindArgs (PySem.W.fnOf "__init__" "Run.__init__" (defArgs sRunInit) (defBody sRunInit) (defScope sRunInit) dV57 kV57 dc57 pm57 an57 cd57 ct57) ⟨[u0, u1, u2, u3, u4, u5], []⟩) = some [(Str.ofString "self", u0), (Str.ofString "rule", u1), (Str.ofString "table", u2), (Str.ofString "name", u3), (Str.ofString "day", u4), (Str.ofString "base", u5)]) (pe_RunInit_5 : ∀ (u0 u1 u2 u3 u4 : Value) (S : Setting), PySem.W.peek K S (bindArgs (PySem.W.fnOf "__init__" "Run.__init__" (defArgs sRunInit) (defBody sRunInit) (defScope sRunInit) dV57 kV57 dc57 pm57 an57 cd57 ct57) ⟨[u0, u1, u2, u3, u4], []⟩) = some [(Str.ofString "self", u0), (Str.ofString "rule", u1), (Str.ofString "table", u2), (Str.ofString "name", u3), (Str.ofString "day", u4), (Str.ofString "base", Value.none)]) (p58 : Pm K C_Pattern "__init__" "Pattern.__init__" sPatternInit f58) (a59 : PySem.W.findIn K (.ref C_Table) "__init__" = some (some (.ref f59))) (t59 : PySem.W.typeIn K (.ref f59) = some (.type "function")) (l59 : K.lookup f59 = some ⟨oc59, od59, .func (PySem.W.fnOf "__init__" "Table.__init__" (defArgs sTableInit) (defBody sTableInit) (defScope sTableInit) dV59 kV59 dc59 pm59 an59 cd59 ct59), sl59⟩) (c59 : PySem.W.codeIn K cd59 "Table.__init__" = true) (k59 : PySem.W.keepIn K (.ref f59) = true) (pk59 : ∀ (u0 u1 u2 u3 : Value) (S : Setting), PySem.W.peek K S (bindArgs (PySem.W.fnOf "__init__" "Table.__init__" (defArgs sTableInit) (defBody sTableInit) (defScope sTableInit) dV59 kV59 dc59 pm59 an59 cd59 ct59) ⟨[u0, u1, u2, u3], []⟩) = some [(Str.ofString "self", u0), (Str.ofString "week", u1), (Str.ofString "yearly", u2), (Str.ofString "rows", u3)]) (pe_TableInit_2 : ∀ (u0 u1 : Value) (S : Setting), PySem.W.peek K S (bindArgs (PySem.W.fnOf "__init__" "Table.__init__" (defArgs sTableInit) (defBody sTableInit) (defScope sTableInit) dV59 kV59 dc59 pm59 an59 cd59 ct59) ⟨[u0, u1], []⟩) = some [(Str.ofString "self", u0), (Str.ofString "week", u1), (Str.ofString "yearly", Value.none), (Str.ofString "rows", Value.none)]) (p60 : Pm K C_Rule "role_in_still" "Rule.role_in_still" sRuleRoleInStill f60) (p61 : Pm K C_Rule "role" "Rule.role" sRuleRole f61) (p62 : Pm K C_Run "is_halted" "Run.is_halted" sRunIsHalted f62) (p63 : Pm K C_Run "go_on" "Run.go_on" sRunGoOn f63) (p64 : Pm K C_Run "finish" "Run.finish" sRunFinish f64) (p65 : Pm K C_Run "is_under_way" "Run.is_under_way" sRunIsUnderWay f65) (p66 : Pm K C_Run "begin_anew" "Run.begin_anew" sRunBeginAnew f66) (p67 : Pm K C_Run "lengthen" "Run.lengthen" sRunLengthen f67) (p68 : Pm K C_Run "halt" "Run.halt" sRunHalt f68) (p69 : Pm K C_Run "works" "Run.works" sRunWorks f69) (p70 : Pm K C_Run "feel" "Run.feel" sRunFeel f70) (a71 : PySem.W.nsIn K mainGlobals "law" = some (some (.ref f71))) (l71 : K.lookup f71 = some ⟨oc71, od71, .func (PySem.W.fnOf "law" "law" (defArgs sLaw) (defBody sLaw) (defScope sLaw) .none kV71 dc71 pm71 an71 cd71 ct71), sl71⟩) (c71 : PySem.W.codeIn K cd71 "law" = true) (k71 : PySem.W.keepIn K (.ref f71) = true) (z_any : PySem.W.nsIn K mainGlobals "any" = some none) (z_bool : PySem.W.nsIn K mainGlobals "bool" = some none) (z_enumerate : PySem.W.nsIn K mainGlobals "enumerate" = some none) (z_int : PySem.W.nsIn K mainGlobals "int" = some none) (z_isinstance : PySem.W.nsIn K mainGlobals "isinstance" = some none) (z_len : PySem.W.nsIn K mainGlobals "len" = some none) (z_list : PySem.W.nsIn K mainGlobals "list" = some none) (z_max : PySem.W.nsIn K mainGlobals "max" = some none) (z_min : PySem.W.nsIn K mainGlobals "min" = some none) (z_range : PySem.W.nsIn K mainGlobals "range" = some none) (z_sorted : PySem.W.nsIn K mainGlobals "sorted" = some none) (z_str : PySem.W.nsIn K mainGlobals "str" = some none) (z_tuple : PySem.W.nsIn K mainGlobals "tuple" = some none) (q_MOST_WEEKDAYS : PySem.W.nsIn K mainGlobals "MOST_WEEKDAYS" = some (some (.int 6 tk_MOST_WEEKDAYS))) (q_MOST_YEARLY : PySem.W.nsIn K mainGlobals "MOST_YEARLY" = some (some (.int 4 tk_MOST_YEARLY))) (q_MOST_YEARLY_DAYS : PySem.W.nsIn K mainGlobals "MOST_YEARLY_DAYS" = some (some (.int 30 tk_MOST_YEARLY_DAYS))) (q_SHORT_YEAR : PySem.W.nsIn K mainGlobals "SHORT_YEAR" = some (some (.int 364 tk_SHORT_YEAR))) (q_LONG_YEAR : PySem.W.nsIn K mainGlobals "LONG_YEAR" = some (some (.int 371 tk_LONG_YEAR))) (q_MOST_ROWS : PySem.W.nsIn K mainGlobals "MOST_ROWS" = some (some (.int 12 tk_MOST_ROWS))) (q_MOST_ROW_DAYS : PySem.W.nsIn K mainGlobals "MOST_ROW_DAYS" = some (some (.int 40 tk_MOST_ROW_DAYS))) (q_TURN : PySem.W.nsIn K mainGlobals "TURN" = some (some (.int 17 tk_TURN))) (q_DAYS_OF_A_WEEK : PySem.W.nsIn K mainGlobals "DAYS_OF_A_WEEK" = some (some (.int 7 tk_DAYS_OF_A_WEEK))) (q_WORDS : PySem.W.nsIn K mainGlobals "WORDS" = some (some (.ref A_WORDS))) (lt_WORDS : K.lookup A_WORDS = some ⟨.type "tuple", oa_WORDS, .seq #[.str (Str.ofString "free") tt0_WORDS, .str (Str.ofString "open") tt1_WORDS] na_WORDS, sa_WORDS⟩) (cc_Counting : clsB K C_Counting = true) (cm_Counting : mkB K C_Counting f0 = true) (cn_Counting : xNo K C_Counting ["free_days", "open_days", "open_before", "pattern", "rows", "shifts", "table", "name", "who", "owes", "opens", "base", "many", "unit", "still", "ends", "anew", "longer", "yields", "rule", "counting", "over", "day", "units", "pauses", "grants"] = true) (cti_Counting_counted_in : methB K C_Counting "counted_in" f25 = true) (cti_Counting_days_for : methB K C_Counting "days_for" f8 = true) (cti_Counting_reach : methB K C_Counting "reach" f10 = true) (ci_Counting : insB K C_Counting = true) (ckd_Counting_Counting : (PySem.W.kitOne K (.ref C_Counting) (.ref C_Counting) == some true) = true) (ckd_Counting_Weeks : (PySem.W.kitOne K (.ref C_Counting) (.ref C_Weeks) == some false) = true) (ckd_Counting_CourtDays : (PySem.W.kitOne K (.ref C_Counting) (.ref C_CourtDays) == some false) = true) (ct_dCountingDaysFor : methB K C_Counting "days_for" f8 = true) (ct_dCountingReach : methB K C_Counting "reach" f10 = true) (ct_dCountingCountedIn : methB K C_Counting "counted_in" f25 = true) (cc_CourtDays : clsB K C_CourtDays = true) (cm_CourtDays : mkB K C_CourtDays f0 = true) (cn_CourtDays : xNo K C_CourtDays ["free_days", "open_days", "open_before", "pattern", "rows", "shifts", "table", "name", "who", "owes", "opens", "base", "many", "unit", "still", "ends", "anew", "longer", "yields", "rule", "counting", "over", "day", "units", "pauses", "grants"] = true) (cti_CourtDays_counted_in : methB K C_CourtDays "counted_in" f26 = true) (cti_CourtDays_days_for : methB K C_CourtDays "days_for" f8 = true) (cti_CourtDays_reach : methB K C_CourtDays "reach" f24 = true) (ci_CourtDays : insB K C_CourtDays = true) (ckd_CourtDays_Counting : (PySem.W.kitOne K (.ref C_CourtDays) (.ref C_Counting) == some true) = true) (ckd_CourtDays_Weeks : (PySem.W.kitOne K (.ref C_CourtDays) (.ref C_Weeks) == some false) = true) (ckd_CourtDays_CourtDays : (PySem.W.kitOne K (.ref C_CourtDays) (.ref C_CourtDays) == some true) = true) (ct_dCourtDaysReach : methB K C_CourtDays "reach" f24 = true) (ct_dCourtDaysCountedIn : methB K C_CourtDays "counted_in" f26 = true) (cc_Pattern : clsB K C_Pattern = true) (cm_Pattern : mkB K C_Pattern f58 = true) (cn_Pattern : xNo K C_Pattern ["free_days", "open_days", "open_before", "pattern", "rows", "shifts", "table", "name", "who", "owes", "opens", "base", "many", "unit", "still", "ends", "anew", "longer", "yields", "rule", "counting", "over", "day", "units", "pauses", "grants"] = true) (ct_dPatternBeforeYear : methB K C_Pattern "before_year" f12 = true) (ct_dPatternYearWith : methB K C_Pattern "year_with" f13 = true) (ct_dPatternNth : methB K C_Pattern "nth" f15 = true) (ct_dPatternBefore : methB K C_Pattern "before" f20 = true) (cc_Rule : clsB K C_Rule = true) (cm_Rule : mkB K C_Rule f46 = true) (cn_Rule : xNo K C_Rule ["free_days", "open_days", "open_before", "pattern", "rows", "shifts", "table", "name", "who", "owes", "opens", "base", "many", "unit", "still", "ends", "anew", "longer", "yields", "rule", "counting", "over", "day", "units", "pauses", "grants"] = true) (ct_dRuleRoleInStill : methB K C_Rule "role_in_still" f60 = true) (ct_dRuleRole : methB K C_Rule "role" f61 = true) (cc_Run : clsB K C_Run = true) (cm_Run : mkB K C_Run f57 = true) (cn_Run : xNo K C_Run ["free_days", "open_days", "open_before", "pattern", "rows", "shifts", "table", "name", "who", "owes", "opens", "base", "many", "unit", "still", "ends", "anew", "longer", "yields", "rule", "counting", "over", "day", "units", "pauses", "grants"] = true) (ct_dRunIsOver : methB K C_Run "is_over" f48 = true) (ct_dRunStartsOn : methB K C_Run "starts_on" f49 = true) (ct_dRunLastsTo : methB K C_Run "lasts_to" f50 = true) (ct_dRunStateWord : methB K C_Run "state_word" f51 = true) (ct_dRunAccount : methB K C_Run "account" f52 = true) (ct_dRunSetOut : methB K C_Run "set_out" f56 = true) (ct_dRunIsHalted : methB K C_Run "is_halted" f62 = true) (ct_dRunGoOn : methB K C_Run "go_on" f63 = true) (ct_dRunFinish : methB K C_Run "finish" f64 = true) (ct_dRunIsUnderWay : methB K C_Run "is_under_way" f65 = true) (ct_dRunBeginAnew : methB K C_Run "begin_anew" f66 = true) (ct_dRunLengthen : methB K C_Run "lengthen" f67 = true) (ct_dRunHalt : methB K C_Run "halt" f68 = true) (ct_dRunWorks : methB K C_Run "works" f69 = true) (ct_dRunFeel : methB K C_Run "feel" f70 = true) (cc_Table : clsB K C_Table = true) (cm_Table : mkB K C_Table f59 = true) (cn_Table : xNo K C_Table ["free_days", "open_days", "open_before", "pattern", "rows", "shifts", "table", "name", "who", "owes", "opens", "base", "many", "unit", "still", "ends", "anew", "longer", "yields", "rule", "counting", "over", "day", "units", "pauses", "grants"] = true) (ct_dTableShift : methB K C_Table "shift" f21 = true) (ct_dTableBefore : methB K C_Table "before" f22 = true) (ct_dTableNth : methB K C_Table "nth" f23 = true) (ct_dTableNextOpen : methB K C_Table "next_open" f28 = true) (cc_Weeks : clsB K C_Weeks = true) (cm_Weeks : mkB K C_Weeks f0 = true) (cn_Weeks : xNo K C_Weeks ["free_days", "open_days", "open_before", "pattern", "rows", "shifts", "table", "name", "who", "owes", "opens", "base", "many", "unit", "still", "ends", "anew", "longer", "yields", "rule", "counting", "over", "day", "units", "pauses", "grants"] = true) (cti_Weeks_counted_in : methB K C_Weeks "counted_in" f25 = true) (cti_Weeks_days_for : methB K C_Weeks "days_for" f9 = true) (cti_Weeks_reach : methB K C_Weeks "reach" f10 = true) (ci_Weeks : insB K C_Weeks = true) (ckd_Weeks_Counting : (PySem.W.kitOne K (.ref C_Weeks) (.ref C_Counting) == some true) = true) (ckd_Weeks_Weeks : (PySem.W.kitOne K (.ref C_Weeks) (.ref C_Weeks) == some true) = true) (ckd_Weeks_CourtDays : (PySem.W.kitOne K (.ref C_Weeks) (.ref C_CourtDays) == some false) = true) (ct_dWeeksDaysFor : methB K C_Weeks "days_for" f9 = true)
  : ∃ fd : FuncData, (∀ (s : Shared) (v : Value), BindsTo s fd ⟨[v], []⟩ [("_law_script", v)]) ∧ ∀ base : Heap, K.In base → base.Ns mainGlobals mg → FnOk l.prog w K mg base CX0 17 fa fd ["_law_script"] (spLaw K) := by
 have e := hfa.symm.trans (PySem.W.mg_of X G a71)
 cases e
 obtain ⟨g0, d0⟩ := pm_mk p0 (ps := ["self", "table"]) fun _ _ _ _ _ _ => arg2 fun _ _ => rfl
 obtain ⟨g1, d1⟩ := pd_mk X G p1 (ps := ["unit", "table"]) fun _ _ _ _ _ _ => arg2 fun _ _ => rfl
 obtain ⟨g2, d2⟩ := pd_mk X G p2 (ps := ["thing"]) fun _ _ _ _ _ _ => arg1 fun _ => rfl
 obtain ⟨g3, d3⟩ := pd_mk X G p3 (ps := ["first", "last", "most"]) fun _ _ _ _ _ _ => arg3 fun _ _ _ => rfl
 obtain ⟨g4, d4⟩ := pd_mk X G p4 (ps := ["stretches", "day"]) fun _ _ _ _ _ _ => arg2 fun _ _ => rfl
 obtain ⟨g5, d5⟩ := pd_mk X G p5 (ps := ["laid"]) fun _ _ _ _ _ _ => arg1 fun _ => rfl
 obtain ⟨g6, d6⟩ := pd_mk X G p6 (ps := ["laid", "first", "last", "word"]) fun _ _ _ _ _ _ => arg4 fun _ _ _ _ => rfl
 obtain ⟨g7, d7⟩ := pd_mk X G p7 (ps := ["rows"]) fun _ _ _ _ _ _ => arg1 fun _ => rfl
 obtain ⟨g8, d8⟩ := pm_mk p8 (ps := ["self", "units"]) fun _ _ _ _ _ _ => arg2 fun _ _ => rfl
 obtain ⟨g9, d9⟩ := pm_mk p9 (ps := ["self", "units"]) fun _ _ _ _ _ _ => arg2 fun _ _ => rfl
 obtain ⟨g10, d10⟩ := pm_mk p10 (ps := ["self", "first", "many"]) fun _ _ _ _ _ _ => arg3 fun _ _ _ => rfl
 obtain ⟨g11, d11⟩ := pd_mk X G p11 (ps := ["year"]) fun _ _ _ _ _ _ => arg1 fun _ => rfl
 obtain ⟨g12, d12⟩ := pm_mk p12 (ps := ["self", "year"]) fun _ _ _ _ _ _ => arg2 fun _ _ => rfl
 obtain ⟨g13, d13⟩ := pm_mk p13 (ps := ["self", "many"]) fun _ _ _ _ _ _ => arg2 fun _ _ => rfl
 obtain ⟨g14, d14⟩ := pd_mk X G p14 (ps := ["year"]) fun _ _ _ _ _ _ => arg1 fun _ => rfl
 obtain ⟨g15, d15⟩ := pm_mk p15 (ps := ["self", "many"]) fun _ _ _ _ _ _ => arg2 fun _ _ => rfl
 obtain ⟨g16, d16⟩ := pd_mk X G p16 (ps := ["week"]) fun _ _ _ _ _ _ => arg1 fun _ => rfl
 obtain ⟨g17, d17⟩ := pd_mk X G p17 (ps := ["day"]) fun _ _ _ _ _ _ => arg1 fun _ => rfl
 obtain ⟨g18, d18⟩ := pd_mk X G p18 (ps := ["day"]) fun _ _ _ _ _ _ => arg1 fun _ => rfl
 obtain ⟨g19, d19⟩ := pd_mk X G p19 (ps := ["day"]) fun _ _ _ _ _ _ => arg1 fun _ => rfl
 obtain ⟨g20, d20⟩ := pm_mk p20 (ps := ["self", "day"]) fun _ _ _ _ _ _ => arg2 fun _ _ => rfl
 obtain ⟨g21, d21⟩ := pm_mk p21 (ps := ["self", "row", "end"]) fun _ _ _ _ _ _ => arg3 fun _ _ _ => rfl
 obtain ⟨g22, d22⟩ := pm_mk p22 (ps := ["self", "day"]) fun _ _ _ _ _ _ => arg2 fun _ _ => rfl
 obtain ⟨g23, d23⟩ := pm_mk p23 (ps := ["self", "many"]) fun _ _ _ _ _ _ => arg2 fun _ _ => rfl
 obtain ⟨g24, d24⟩ := pm_mk p24 (ps := ["self", "first", "many"]) fun _ _ _ _ _ _ => arg3 fun _ _ _ => rfl
 obtain ⟨g25, d25⟩ := pm_mk p25 (ps := ["self", "first", "last"]) fun _ _ _ _ _ _ => arg3 fun _ _ _ => rfl
 obtain ⟨g26, d26⟩ := pm_mk p26 (ps := ["self", "first", "last"]) fun _ _ _ _ _ _ => arg3 fun _ _ _ => rfl
 obtain ⟨g27, d27⟩ := pd_mk X G p27 (ps := ["kind", "start", "units", "pauses"]) fun _ _ _ _ _ _ => arg4 fun _ _ _ _ => rfl
 obtain ⟨g28, d28⟩ := pm_mk p28 (ps := ["self", "day"]) fun _ _ _ _ _ _ => arg2 fun _ _ => rfl
 obtain ⟨g29, d29⟩ := pd_mk X G p29 (ps := ["table", "day", "pauses"]) fun _ _ _ _ _ _ => arg3 fun _ _ _ => rfl
 obtain ⟨g30, d30⟩ := pd_mk X G p30 (ps := ["kind", "start", "units", "pauses"]) fun _ _ _ _ _ _ => arg4 fun _ _ _ _ => rfl
 obtain ⟨g31, d31⟩ := pd_mk X G p31 (ps := ["within", "week", "yearly"]) fun _ _ _ _ _ _ => arg3 fun _ _ _ => rfl
 obtain ⟨g32, d32⟩ := pd_mk X G p32 (ps := ["free_days"]) fun _ _ _ _ _ _ => arg1 fun _ => rfl
 obtain ⟨g33, d33⟩ := pd_mk X G p33 (ps := ["thing"]) fun _ _ _ _ _ _ => arg1 fun _ => rfl
 obtain ⟨g34, d34⟩ := pd_mk X G p34 (ps := ["week"]) fun _ _ _ _ _ _ => arg1 fun _ => rfl
 obtain ⟨g35, d35⟩ := pd_mk X G p35 (ps := ["thing"]) fun _ _ _ _ _ _ => arg1 fun _ => rfl
 obtain ⟨g36, d36⟩ := pd_mk X G p36 (ps := ["yearly"]) fun _ _ _ _ _ _ => arg1 fun _ => rfl
 obtain ⟨g37, d37⟩ := pd_mk X G p37 (ps := ["things"]) fun _ _ _ _ _ _ => arg1 fun _ => rfl
 obtain ⟨g38, d38⟩ := pd_mk X G p38 (ps := ["row"]) fun _ _ _ _ _ _ => arg1 fun _ => rfl
 obtain ⟨g39, d39⟩ := pd_mk X G p39 (ps := ["rows"]) fun _ _ _ _ _ _ => arg1 fun _ => rfl
 obtain ⟨g40, d40⟩ := pd_mk X G p40 (ps := ["_law_script", "_law_k"]) fun _ _ _ _ _ _ => arg2 fun _ _ => rfl
 obtain ⟨g41, d41⟩ := pd_mk X G p41 (ps := ["_law_cell", "_law_many"]) fun _ _ _ _ _ _ => arg2 fun _ _ => rfl
 obtain ⟨g42, d42⟩ := pd_mk X G p42 (ps := ["_law_found", "_law_due_here"]) fun _ _ _ _ _ _ => arg2 fun _ _ => rfl
 obtain ⟨g43, d43⟩ := pd_mk X G p43 (ps := ["_law_run"]) fun _ _ _ _ _ _ => arg1 fun _ => rfl
 obtain ⟨g44, d44⟩ := pd_mk X G p44 (ps := ["_law_pauses", "_law_day"]) fun _ _ _ _ _ _ => arg2 fun _ _ => rfl
 obtain ⟨g45, d45⟩ := pd_mk X G p45 (ps := ["_law_run", "_law_role_here", "_law_day", "_law_rule_here"]) fun _ _ _ _ _ _ => arg4 fun _ _ _ _ => rfl
 obtain ⟨g47, d47⟩ := pd_mk X G p47 (ps := ["_law_script", "_law_kinds", "_law_names"]) fun _ _ _ _ _ _ => arg3 fun _ _ _ => rfl
 obtain ⟨g48, d48⟩ := pm_mk p48 (ps := ["self"]) fun _ _ _ _ _ _ => arg1 fun _ => rfl
 obtain ⟨g49, d49⟩ := pm_mk p49 (ps := ["self"]) fun _ _ _ _ _ _ => arg1 fun _ => rfl
 obtain ⟨g50, d50⟩ := pm_mk p50 (ps := ["self"]) fun _ _ _ _ _ _ => arg1 fun _ => rfl
 obtain ⟨g51, d51⟩ := pm_mk p51 (ps := ["self", "last"]) fun _ _ _ _ _ _ => arg2 fun _ _ => rfl
 obtain ⟨g52, d52⟩ := pm_mk p52 (ps := ["self"]) fun _ _ _ _ _ _ => arg1 fun _ => rfl
 obtain ⟨g53, d53⟩ := pd_mk X G p53 (ps := ["_law_run", "_law_due_here", "_law_over"]) fun _ _ _ _ _ _ => arg3 fun _ _ _ => rfl
 obtain ⟨g54, d54⟩ := pd_mk X G p54 (ps := ["_law_held", "_law_run", "_law_over", "_law_rows"]) fun _ _ _ _ _ _ => arg4 fun _ _ _ _ => rfl
 obtain ⟨g55, d55⟩ := pd_mk X G p55 (ps := ["_law_cell"]) fun _ _ _ _ _ _ => arg1 fun _ => rfl
 obtain ⟨g56, d56⟩ := pm_mk p56 (ps := ["self", "day", "base"]) fun _ _ _ _ _ _ => arg3 fun _ _ _ => rfl
 obtain ⟨g58, d58⟩ := pm_mk p58 (ps := ["self", "week", "yearly"]) fun _ _ _ _ _ _ => arg3 fun _ _ _ => rfl
 obtain ⟨g60, d60⟩ := pm_mk p60 (ps := ["self", "kind"]) fun _ _ _ _ _ _ => arg2 fun _ _ => rfl
 obtain ⟨g61, d61⟩ := pm_mk p61 (ps := ["self", "kind"]) fun _ _ _ _ _ _ => arg2 fun _ _ => rfl
 obtain ⟨g62, d62⟩ := pm_mk p62 (ps := ["self"]) fun _ _ _ _ _ _ => arg1 fun _ => rfl
 obtain ⟨g63, d63⟩ := pm_mk p63 (ps := ["self", "day"]) fun _ _ _ _ _ _ => arg2 fun _ _ => rfl
 obtain ⟨g64, d64⟩ := pm_mk p64 (ps := ["self", "day"]) fun _ _ _ _ _ _ => arg2 fun _ _ => rfl
 obtain ⟨g65, d65⟩ := pm_mk p65 (ps := ["self", "day"]) fun _ _ _ _ _ _ => arg2 fun _ _ => rfl
 obtain ⟨g66, d66⟩ := pm_mk p66 (ps := ["self", "day"]) fun _ _ _ _ _ _ => arg2 fun _ _ => rfl
 obtain ⟨g67, d67⟩ := pm_mk p67 (ps := ["self", "kind"]) fun _ _ _ _ _ _ => arg2 fun _ _ => rfl
 obtain ⟨g68, d68⟩ := pm_mk p68 (ps := ["self", "day"]) fun _ _ _ _ _ _ => arg2 fun _ _ => rfl
 obtain ⟨g69, d69⟩ := pm_mk p69 (ps := ["self", "word", "day", "kind"]) fun _ _ _ _ _ _ => arg4 fun _ _ _ _ => rfl
 obtain ⟨g70, d70⟩ := pm_mk p70 (ps := ["self", "name", "day", "kind"]) fun _ _ _ _ _ _ => arg4 fun _ _ _ _ => rfl
 have F46 := fund_mk (st := sRuleInit) l46 c46 k46
 have b46 : Binds K _ ["self", "name", "who", "owes", "opens", "base", "many", "unit", "still"] [] := bindsD (ds := []) fun us hl S => match us, hl with | [u0, u1, u2, u3, u4, u5, u6, u7, u8], _ => pk46 u0 u1 u2 u3 u4 u5 u6 u7 u8 S
 have F57 := fund_mk (st := sRunInit) l57 c57 k57
 have b57 : Binds K _ ["self", "rule", "table", "name", "day", "base"] [] := bindsD (ds := []) fun us hl S => match us, hl with | [u0, u1, u2, u3, u4, u5], _ => pk57 u0 u1 u2 u3 u4 u5 S
 have F59 := fund_mk (st := sTableInit) l59 c59 k59
 have b59 : Binds K _ ["self", "week", "yearly", "rows"] [] := bindsD (ds := []) fun us hl S => match us, hl with | [u0, u1, u2, u3], _ => pk59 u0 u1 u2 u3 S
 have F71 := fun_mk (st := sLaw) l71 c71 k71
 have b71 := F71.binds (ps := ["_law_script"]) fun _ _ _ _ _ _ us hl => match us, hl with | [_], _ => rfl
 have he_RunInit_5 : Binds K _ ["self", "rule", "table", "name", "day", "base"] [.none] := bindsD fun us hl S => match us, (show us.length = 5 by rw [List.length_append] at hl; exact Nat.add_right_cancel hl) with | [u0, u1, u2, u3, u4], _ => pe_RunInit_5 u0 u1 u2 u3 u4 S
 have he_TableInit_2 : Binds K _ ["self", "week", "yearly", "rows"] [.none, .none] := bindsD fun us hl S => match us, (show us.length = 2 by rw [List.length_append] at hl; exact Nat.add_right_cancel hl) with | [u0, u1], _ => pe_TableInit_2 u0 u1 S
 have T : Txt K mg { fCountingInit := f0, gCountingInit := g0, fKindOf := f1, gKindOf := g1, fIsWhole := f2, gIsWhole := g2, fIsStretchOf := f3, gIsStretchOf := g3, fPlace := f4, gPlace := g4, fJoined := f5, gJoined := g5, fLaidOver := f6, gLaidOver := g6, fOverlay := f7, gOverlay := g7, fCountingDaysFor := f8, gCountingDaysFor := g8, fWeeksDaysFor := f9, gWeeksDaysFor := g9, fCountingReach := f10, gCountingReach := g10, fLongBefore := f11, gLongBefore := g11, fPatternBeforeYear := f12, gPatternBeforeYear := g12, fPatternYearWith := f13, gPatternYearWith := g13, fFirstWeek := f14, gFirstWeek := g14, fPatternNth := f15, gPatternNth := g15, fYearOf := f16, gYearOf := g16, fWeekday := f17, gWeekday := g17, fDateOf := f18, gDateOf := g18, fDayOfYear := f19, gDayOfYear := g19, fPatternBefore := f20, gPatternBefore := g20, fTableShift := f21, gTableShift := g21, fTableBefore := f22, gTableBefore := g22, fTableNth := f23, gTableNth := g23, fCourtDaysReach := f24, gCourtDaysReach := g24, fCountingCountedIn := f25, gCountingCountedIn := g25, fCourtDaysCountedIn := f26, gCourtDaysCountedIn := g26, fFullDay := f27, gFullDay := g27, fTableNextOpen := f28, gTableNextOpen := g28, fFirstDue := f29, gFirstDue := g29, fLastDay := f30, gLastDay := g30, fIsFreeWithin := f31, gIsFreeWithin := g31, fCountedUp := f32, gCountedUp := g32, fIsWeekday := f33, gIsWeekday := g33, fRefuseWeek := f34, gRefuseWeek := g34, fIsYearly := f35, gIsYearly := g35, fRefuseYearly := f36, gRefuseYearly := g36, fListOrEmpty := f37, gListOrEmpty := g37, fIsRow := f38, gIsRow := g38, fRefuseRows := f39, gRefuseRows := g39, fLawCellAt := f40, gLawCellAt := g40, fLawWords := f41, gLawWords := g41, fLawAlike := f42, gLawAlike := g42, fLawLast := f43, gLawLast := g43, fLawShut := f44, gLawShut := g44, fLawTurned := f45, gLawTurned := g45, fRuleInit := f46, gRuleInit := _, fLawRule := f47, gLawRule := g47, fRunIsOver := f48, gRunIsOver := g48, fRunStartsOn := f49, gRunStartsOn := g49, fRunLastsTo := f50, gRunLastsTo := g50, fRunStateWord := f51, gRunStateWord := g51, fRunAccount := f52, gRunAccount := g52, fLawTold := f53, gLawTold := g53, fLawDue := f54, gLawDue := g54, fLawRole := f55, gLawRole := g55, fRunSetOut := f56, gRunSetOut := g56, fRunInit := f57, gRunInit := _, fPatternInit := f58, gPatternInit := g58, fTableInit := f59, gTableInit := _, fRuleRoleInStill := f60, gRuleRoleInStill := g60, fRuleRole := f61, gRuleRole := g61, fRunIsHalted := f62, gRunIsHalted := g62, fRunGoOn := f63, gRunGoOn := g63, fRunFinish := f64, gRunFinish := g64, fRunIsUnderWay := f65, gRunIsUnderWay := g65, fRunBeginAnew := f66, gRunBeginAnew := g66, fRunLengthen := f67, gRunLengthen := g67, fRunHalt := f68, gRunHalt := g68, fRunWorks := f69, gRunWorks := g69, fRunFeel := f70, gRunFeel := g70, fLaw := fa, gLaw := _, cCounting := C_Counting, cCourtDays := C_CourtDays, cPattern := C_Pattern, cRule := C_Rule, cRun := C_Run, cTable := C_Table, cWeeks := C_Weeks, tWORDS := A_WORDS } := {
  dCountingInit := d0,
  dKindOf := d1,
  dIsWhole := d2,
  dIsStretchOf := d3,
  dPlace := d4,
  dJoined := d5,
  dLaidOver := d6,
  dOverlay := d7,
  dCountingDaysFor := d8,
  dWeeksDaysFor := d9,
  dCountingReach := d10,
  dLongBefore := d11,
  dPatternBeforeYear := d12,
  dPatternYearWith := d13,
  dFirstWeek := d14,
  dPatternNth := d15,
  dYearOf := d16,
  dWeekday := d17,
  dDateOf := d18,
  dDayOfYear := d19,
  dPatternBefore := d20,
  dTableShift := d21,
  dTableBefore := d22,
  dTableNth := d23,
  dCourtDaysReach := d24,
  dCountingCountedIn := d25,
  dCourtDaysCountedIn := d26,
  dFullDay := d27,
  dTableNextOpen := d28,
  dFirstDue := d29,
  dLastDay := d30,
  dIsFreeWithin := d31,
  dCountedUp := d32,
  dIsWeekday := d33,
  dRefuseWeek := d34,
  dIsYearly := d35,
  dRefuseYearly := d36,
  dListOrEmpty := d37,
  dIsRow := d38,
  dRefuseRows := d39,
  dLawCellAt := d40,
  dLawWords := d41,
  dLawAlike := d42,
  dLawLast := d43,
  dLawShut := d44,
  dLawTurned := d45,
  dRuleInit := ⟨F46, b46, t46⟩,
  dLawRule := d47,
  dRunIsOver := d48,
  dRunStartsOn := d49,
  dRunLastsTo := d50,
  dRunStateWord := d51,
  dRunAccount := d52,
  dLawTold := d53,
  dLawDue := d54,
  dLawRole := d55,
  dRunSetOut := d56,
  dRunInit := ⟨F57, b57, t57⟩,
  dPatternInit := d58,
  dTableInit := ⟨F59, b59, t59⟩,
  dRuleRoleInStill := d60,
  dRuleRole := d61,
  dRunIsHalted := d62,
  dRunGoOn := d63,
  dRunFinish := d64,
  dRunIsUnderWay := d65,
  dRunBeginAnew := d66,
  dRunLengthen := d67,
  dRunHalt := d68,
  dRunWorks := d69,
  dRunFeel := d70,
  dLaw := ⟨F71, PySem.W.mg_of X G a71, b71⟩,
  m_Counting := PySem.W.mg_of X G ca_Counting,
  c_Counting := cls_of cc_Counting,
  k_Counting := mk_of cm_Counting,
  n_Counting := cn_Counting,
  ti_Counting_counted_in := meth_of cti_Counting_counted_in,
  ti_Counting_days_for := meth_of cti_Counting_days_for,
  ti_Counting_reach := meth_of cti_Counting_reach,
  i_Counting := ci_Counting,
  kd_Counting_Counting := beq_iff_eq.mp ckd_Counting_Counting,
  kd_Counting_Weeks := beq_iff_eq.mp ckd_Counting_Weeks,
  kd_Counting_CourtDays := beq_iff_eq.mp ckd_Counting_CourtDays,
  t_dCountingDaysFor := meth_of ct_dCountingDaysFor,
  t_dCountingReach := meth_of ct_dCountingReach,
  t_dCountingCountedIn := meth_of ct_dCountingCountedIn,
  m_CourtDays := PySem.W.mg_of X G ca_CourtDays,
  c_CourtDays := cls_of cc_CourtDays,
  k_CourtDays := mk_of cm_CourtDays,
  n_CourtDays := cn_CourtDays,
  ti_CourtDays_counted_in := meth_of cti_CourtDays_counted_in,
  ti_CourtDays_days_for := meth_of cti_CourtDays_days_for,
  ti_CourtDays_reach := meth_of cti_CourtDays_reach,
  i_CourtDays := ci_CourtDays,
  kd_CourtDays_Counting := beq_iff_eq.mp ckd_CourtDays_Counting,
  kd_CourtDays_Weeks := beq_iff_eq.mp ckd_CourtDays_Weeks,
  kd_CourtDays_CourtDays := beq_iff_eq.mp ckd_CourtDays_CourtDays,
  t_dCourtDaysReach := meth_of ct_dCourtDaysReach,
  t_dCourtDaysCountedIn := meth_of ct_dCourtDaysCountedIn,
  m_Pattern := PySem.W.mg_of X G ca_Pattern,
  c_Pattern := cls_of cc_Pattern,
  k_Pattern := mk_of cm_Pattern,
  n_Pattern := cn_Pattern,
  t_dPatternBeforeYear := meth_of ct_dPatternBeforeYear,
  t_dPatternYearWith := meth_of ct_dPatternYearWith,
  t_dPatternNth := meth_of ct_dPatternNth,
  t_dPatternBefore := meth_of ct_dPatternBefore,
  m_Rule := PySem.W.mg_of X G ca_Rule,
  c_Rule := cls_of cc_Rule,
  k_Rule := mk_of cm_Rule,
  n_Rule := cn_Rule,
  t_dRuleRoleInStill := meth_of ct_dRuleRoleInStill,
  t_dRuleRole := meth_of ct_dRuleRole,
  m_Run := PySem.W.mg_of X G ca_Run,
  c_Run := cls_of cc_Run,
  k_Run := mk_of cm_Run,
  n_Run := cn_Run,
  t_dRunIsOver := meth_of ct_dRunIsOver,
  t_dRunStartsOn := meth_of ct_dRunStartsOn,
  t_dRunLastsTo := meth_of ct_dRunLastsTo,
  t_dRunStateWord := meth_of ct_dRunStateWord,
  t_dRunAccount := meth_of ct_dRunAccount,
  t_dRunSetOut := meth_of ct_dRunSetOut,
  t_dRunIsHalted := meth_of ct_dRunIsHalted,
  t_dRunGoOn := meth_of ct_dRunGoOn,
  t_dRunFinish := meth_of ct_dRunFinish,
  t_dRunIsUnderWay := meth_of ct_dRunIsUnderWay,
  t_dRunBeginAnew := meth_of ct_dRunBeginAnew,
  t_dRunLengthen := meth_of ct_dRunLengthen,
  t_dRunHalt := meth_of ct_dRunHalt,
  t_dRunWorks := meth_of ct_dRunWorks,
  t_dRunFeel := meth_of ct_dRunFeel,
  m_Table := PySem.W.mg_of X G ca_Table,
  c_Table := cls_of cc_Table,
  k_Table := mk_of cm_Table,
  n_Table := cn_Table,
  t_dTableShift := meth_of ct_dTableShift,
  t_dTableBefore := meth_of ct_dTableBefore,
  t_dTableNth := meth_of ct_dTableNth,
  t_dTableNextOpen := meth_of ct_dTableNextOpen,
  m_Weeks := PySem.W.mg_of X G ca_Weeks,
  c_Weeks := cls_of cc_Weeks,
  k_Weeks := mk_of cm_Weeks,
  n_Weeks := cn_Weeks,
  ti_Weeks_counted_in := meth_of cti_Weeks_counted_in,
  ti_Weeks_days_for := meth_of cti_Weeks_days_for,
  ti_Weeks_reach := meth_of cti_Weeks_reach,
  i_Weeks := ci_Weeks,
  kd_Weeks_Counting := beq_iff_eq.mp ckd_Weeks_Counting,
  kd_Weeks_Weeks := beq_iff_eq.mp ckd_Weeks_Weeks,
  kd_Weeks_CourtDays := beq_iff_eq.mp ckd_Weeks_CourtDays,
  t_dWeeksDaysFor := meth_of ct_dWeeksDaysFor,
  e_RunInit_5 := he_RunInit_5,
  e_TableInit_2 := he_TableInit_2,
  n_any := PySem.W.mg_none_of X G z_any,
  n_bool := PySem.W.mg_none_of X G z_bool,
  n_enumerate := PySem.W.mg_none_of X G z_enumerate,
  n_int := PySem.W.mg_none_of X G z_int,
  n_isinstance := PySem.W.mg_none_of X G z_isinstance,
  n_len := PySem.W.mg_none_of X G z_len,
  n_list := PySem.W.mg_none_of X G z_list,
  n_max := PySem.W.mg_none_of X G z_max,
  n_min := PySem.W.mg_none_of X G z_min,
  n_range := PySem.W.mg_none_of X G z_range,
  n_sorted := PySem.W.mg_none_of X G z_sorted,
  n_str := PySem.W.mg_none_of X G z_str,
  n_tuple := PySem.W.mg_none_of X G z_tuple,
  g_MOST_WEEKDAYS := ⟨_, PySem.W.mg_of X G q_MOST_WEEKDAYS⟩,
  g_MOST_YEARLY := ⟨_, PySem.W.mg_of X G q_MOST_YEARLY⟩,
  g_MOST_YEARLY_DAYS := ⟨_, PySem.W.mg_of X G q_MOST_YEARLY_DAYS⟩,
  g_SHORT_YEAR := ⟨_, PySem.W.mg_of X G q_SHORT_YEAR⟩,
  g_LONG_YEAR := ⟨_, PySem.W.mg_of X G q_LONG_YEAR⟩,
  g_MOST_ROWS := ⟨_, PySem.W.mg_of X G q_MOST_ROWS⟩,
  g_MOST_ROW_DAYS := ⟨_, PySem.W.mg_of X G q_MOST_ROW_DAYS⟩,
  g_TURN := ⟨_, PySem.W.mg_of X G q_TURN⟩,
  g_DAYS_OF_A_WEEK := ⟨_, PySem.W.mg_of X G q_DAYS_OF_A_WEEK⟩,
  g_WORDS := PySem.W.mg_of X G q_WORDS, s_WORDS := fun H => .inr ⟨_, _, _, lt_WORDS, rfl, rfl, by show 2 ≤ sizeLine; rw [sizeLine_eq]; decide, .cons ⟨_, rfl⟩ (.cons ⟨_, rfl⟩ (.nil))⟩ }
 exact ⟨_, fun s v => .of_eq rfl, fun base _ _ => okLaw T⟩
theorem walk {l : PySem.W.OpenLaw} {q : Program} {loose : List Str} {XP : (Str → Option Value) → Heap → Prop} {YP : World → Heap → Prop} {d : DefRec} {K : Params → PySem.W.Frag} (hn : l.most = some 63) (hdf : d.params.defaults = [])
  (hY : ∀ (w : World) (h : Heap), YP w h → (K w.params).In h)
  (F : ∀ (w : World) (mg : Str → Option Value) (fa : Addr) (h : Heap), (K w.params).In h → h.Ns mainGlobals mg → mg d.name = some (.ref fa) →
   ∃ fd : FuncData, (∀ (s : Shared) (u : Value), BindsTo s fd ⟨[u], []⟩ [("_law_script", u)]) ∧ ∀ base : Heap, (K w.params).In base → base.Ns mainGlobals mg → FnOk l.prog w (K w.params) mg base CX0 17 fa fd ["_law_script"] (spLaw (K w.params))) :
  PySem.W.WalkO q loose XP YP l.row.toRowW d [] (fun f vs => PySem.call f vs) :=
 L2.walk_of (n := 63) (k := 17) (x := "_law_script") (CX := fun _ => CX0) (sp := fun w => spLaw (K w.params)) hn (by decide) hdf ⟨rfl, by decide, by decide⟩ hY F (fun _ _ a ns hl _ hS => ⟨a, ns, rfl, hS, hl, fun _ => rfl⟩) fun _ _ _ _ _ z => z
end K53
namespace PySem.W.Fast
noncomputable def tw11222612014422625473 : Unit := ()
noncomputable def tw12728702158682682267 : Unit := ()
noncomputable def tw12984430168097732112 : Unit := ()
noncomputable def tw5683191002862434927 : Unit := ()
noncomputable def tw16572867977130728740 : Unit := ()
noncomputable def tw17538359980274522901 : Unit := ()
noncomputable def tw8932858061351573177 : Unit := ()
noncomputable def tw17038099706626390966 : Unit := ()
noncomputable def tw11294986109972175341 : Unit := ()
noncomputable def tw14588786217462799271 : Unit := ()
noncomputable def tw16087995904918814012 : Unit := ()
noncomputable def tw16099663209715486066 : Unit := ()
noncomputable def tw4913597718417824636 : Unit := ()
noncomputable def tw18151927691170721588 : Unit := ()
noncomputable def tw14646976166809536545 : Unit := ()
noncomputable def tw15133297372766946133 : Unit := ()
noncomputable def tw4849796765974997208 : Unit := ()
noncomputable def tw2258315263418288033 : Unit := ()
noncomputable def tw9572227680017717753 : Unit := ()
noncomputable def tw15904978002596871878 : Unit := ()
noncomputable def tw1110163440179476315 : Unit := ()
noncomputable def tw13225099445484427643 : Unit := ()
noncomputable def tw16589075674245322107 : Unit := ()
noncomputable def tw3726552853432911080 : Unit := ()
noncomputable def tw10334919244088923647 : Unit := ()
noncomputable def tw13723519118930076252 : Unit := ()
noncomputable def tw262258110596865527 : Unit := ()
noncomputable def tw3144712263995452485 : Unit := ()
noncomputable def tw18029572185073522032 : Unit := ()
noncomputable def tw16864965344926827629 : Unit := ()
noncomputable def tw8479688632388550071 : Unit := ()
noncomputable def tw7153163406583507111 : Unit := ()
noncomputable def tw12430079553325299281 : Unit := ()
noncomputable def tw8851519743856279675 : Unit := ()
noncomputable def tw12113423909556161074 : Unit := ()
noncomputable def tw15112264898557786380 : Unit := ()
noncomputable def tw16116972086488593569 : Unit := ()
noncomputable def tw7530120023342746381 : Unit := ()
noncomputable def tw11868889099441421776 : Unit := ()
noncomputable def tw4245226354520023311 : Unit := ()
noncomputable def tw14091435901701426192 : Unit := ()
noncomputable def tw716008310898672479 : Unit := ()
noncomputable def tw1990116297311586464 : Unit := ()
noncomputable def tw1224270352728272904 : Unit := ()
noncomputable def tw1075913693477069868 : Unit := ()
noncomputable def tw4288196635254200509 : Unit := ()
noncomputable def tw14995780044921407510 : Unit := ()
noncomputable def tw15270615787981862272 : Unit := ()
noncomputable def tw8313391501607035650 : Unit := ()
noncomputable def tw11199024421490396491 : Unit := ()
noncomputable def tw2639725365574956320 : Unit := ()
noncomputable def tw13206931641691618482 : Unit := ()
noncomputable def tw5949535708788627986 : Unit := ()
noncomputable def tw17853823428498021813 : Unit := ()
noncomputable def tw1298346539586921417 : Unit := ()
noncomputable def tw11387685279995796455 : Unit := ()
noncomputable def tw8934279897578838763 : Unit := ()
noncomputable def tw2841626930718621374 : Unit := ()
noncomputable def tw4605475033630359132 : Unit := ()
noncomputable def tw14542668533332619006 : Unit := ()
noncomputable def tw17367948893979409875 : Unit := ()
noncomputable def tw7849913590518898601 : Unit := ()
end PySem.W.Fast
open PySem PySem.W PyProof.Rows
set_option maxRecDepth 100000 in
set_option maxHeartbeats 0 in
theorem PySem.Challenge.cw_termcourt_k53_anew_and_over_holds : PySem.Challenge.rw_termcourt_k53_anew_and_over.Holds := by
 w_on; o_law; k_head; (case hw => w_witness2)
 k_fill
 refine K53.walk (l := PySem.Challenge.rw_termcourt_k53_anew_and_over) rfl rfl (fun w h Y => PySem.W.kIn_of Y) ?F
 case F =>
  intro w mg fa h KX G hmg
  refine' K53.all_mk KX G hmg ?ca_Counting ?ca_CourtDays ?ca_Pattern ?ca_Rule ?ca_Run ?ca_Table ?ca_Weeks ?p0 ?p1 ?p2 ?p3 ?p4 ?p5 ?p6 ?p7 ?p8 ?p9 ?p10 ?p11 ?p12 ?p13 ?p14 ?p15 ?p16 ?p17 ?p18 ?p19 ?p20 ?p21 ?p22 ?p23 ?p24 ?p25 ?p26 ?p27 ?p28 ?p29 ?p30 ?p31 ?p32 ?p33 ?p34 ?p35 ?p36 ?p37 ?p38 ?p39 ?p40 ?p41 ?p42 ?p43 ?p44 ?p45 ?a46 ?t46 ?l46 ?c46 ?k46 ?pk46 ?p47 ?p48 ?p49 ?p50 ?p51 ?p52 ?p53 ?p54 ?p55 ?p56 ?a57 ?t57 ?l57 ?c57 ?k57 ?pk57 ?pe_RunInit_5 ?p58 ?a59 ?t59 ?l59 ?c59 ?k59 ?pk59 ?pe_TableInit_2 ?p60 ?p61 ?p62 ?p63 ?p64 ?p65 ?p66 ?p67 ?p68 ?p69 ?p70 ?a71 ?l71 ?c71 ?k71 ?z_any ?z_bool ?z_enumerate ?z_int ?z_isinstance ?z_len ?z_list ?z_max ?z_min ?z_range ?z_sorted ?z_str ?z_tuple ?q_MOST_WEEKDAYS ?q_MOST_YEARLY ?q_MOST_YEARLY_DAYS ?q_SHORT_YEAR ?q_LONG_YEAR ?q_MOST_ROWS ?q_MOST_ROW_DAYS ?q_TURN ?q_DAYS_OF_A_WEEK ?q_WORDS ?lt_WORDS ?cc_Counting ?cm_Counting ?cn_Counting ?cti_Counting_counted_in ?cti_Counting_days_for ?cti_Counting_reach ?ci_Counting ?ckd_Counting_Counting ?ckd_Counting_Weeks ?ckd_Counting_CourtDays ?ct_dCountingDaysFor ?ct_dCountingReach ?ct_dCountingCountedIn ?cc_CourtDays ?cm_CourtDays ?cn_CourtDays ?cti_CourtDays_counted_in ?cti_CourtDays_days_for ?cti_CourtDays_reach ?ci_CourtDays ?ckd_CourtDays_Counting ?ckd_CourtDays_Weeks ?ckd_CourtDays_CourtDays ?ct_dCourtDaysReach ?ct_dCourtDaysCountedIn ?cc_Pattern ?cm_Pattern ?cn_Pattern ?ct_dPatternBeforeYear ?ct_dPatternYearWith ?ct_dPatternNth ?ct_dPatternBefore ?cc_Rule ?cm_Rule ?cn_Rule ?ct_dRuleRoleInStill ?ct_dRuleRole ?cc_Run ?cm_Run ?cn_Run ?ct_dRunIsOver ?ct_dRunStartsOn ?ct_dRunLastsTo ?ct_dRunStateWord ?ct_dRunAccount ?ct_dRunSetOut ?ct_dRunIsHalted ?ct_dRunGoOn ?ct_dRunFinish ?ct_dRunIsUnderWay ?ct_dRunBeginAnew ?ct_dRunLengthen ?ct_dRunHalt ?ct_dRunWorks ?ct_dRunFeel ?cc_Table ?cm_Table ?cn_Table ?ct_dTableShift ?ct_dTableBefore ?ct_dTableNth ?ct_dTableNextOpen ?cc_Weeks ?cm_Weeks ?cn_Weeks ?cti_Weeks_counted_in ?cti_Weeks_days_for ?cti_Weeks_reach ?ci_Weeks ?ckd_Weeks_Counting ?ckd_Weeks_Weeks ?ckd_Weeks_CourtDays ?ct_dWeeksDaysFor
  (case ca_Counting | ca_CourtDays | ca_Pattern | ca_Rule | ca_Run | ca_Table | ca_Weeks => k_is)
  (case p0 => refine' K53.pm_of ?pa ?pt ?pl ?pc ?pk; (case pa | pt | pl | pc | pk => k_is))
  (case p1 | p2 | p3 | p4 | p5 | p6 | p7 => refine' K53.pd_of ?pa ?pl ?pc ?pk; (case pa | pl | pc | pk => k_is))
  (case p8 | p9 | p10 => refine' K53.pm_of ?pa ?pt ?pl ?pc ?pk; (case pa | pt | pl | pc | pk => k_is))
  (case p11 => refine' K53.pd_of ?pa ?pl ?pc ?pk; (case pa | pl | pc | pk => k_is))
  (case p12 | p13 => refine' K53.pm_of ?pa ?pt ?pl ?pc ?pk; (case pa | pt | pl | pc | pk => k_is))
  (case p14 => refine' K53.pd_of ?pa ?pl ?pc ?pk; (case pa | pl | pc | pk => k_is))
  (case p15 => refine' K53.pm_of ?pa ?pt ?pl ?pc ?pk; (case pa | pt | pl | pc | pk => k_is))
  (case p16 | p17 | p18 | p19 => refine' K53.pd_of ?pa ?pl ?pc ?pk; (case pa | pl | pc | pk => k_is))
  (case p20 | p21 | p22 | p23 | p24 | p25 | p26 => refine' K53.pm_of ?pa ?pt ?pl ?pc ?pk; (case pa | pt | pl | pc | pk => k_is))
  (case p27 => refine' K53.pd_of ?pa ?pl ?pc ?pk; (case pa | pl | pc | pk => k_is))
  (case p28 => refine' K53.pm_of ?pa ?pt ?pl ?pc ?pk; (case pa | pt | pl | pc | pk => k_is))
  (case p29 | p30 | p31 | p32 | p33 | p34 | p35 | p36 | p37 | p38 | p39 | p40 | p41 | p42 | p43 | p44 | p45 => refine' K53.pd_of ?pa ?pl ?pc ?pk; (case pa | pl | pc | pk => k_is))
  (case a46 | t46 | l46 | c46 | k46 => k_is)
  (case pk46 => intros; kernel_rfl)
  (case p47 => refine' K53.pd_of ?pa ?pl ?pc ?pk; (case pa | pl | pc | pk => k_is))
  (case p48 | p49 | p50 | p51 | p52 => refine' K53.pm_of ?pa ?pt ?pl ?pc ?pk; (case pa | pt | pl | pc | pk => k_is))
  (case p53 | p54 | p55 => refine' K53.pd_of ?pa ?pl ?pc ?pk; (case pa | pl | pc | pk => k_is))
  (case p56 => refine' K53.pm_of ?pa ?pt ?pl ?pc ?pk; (case pa | pt | pl | pc | pk => k_is))
  (case a57 | t57 | l57 | c57 | k57 => k_is)
  (case pk57 | pe_RunInit_5 => intros; kernel_rfl)
  (case p58 => refine' K53.pm_of ?pa ?pt ?pl ?pc ?pk; (case pa | pt | pl | pc | pk => k_is))
  (case a59 | t59 | l59 | c59 | k59 => k_is)
  (case pk59 | pe_TableInit_2 => intros; kernel_rfl)
  (case p60 | p61 | p62 | p63 | p64 | p65 | p66 | p67 | p68 | p69 | p70 => refine' K53.pm_of ?pa ?pt ?pl ?pc ?pk; (case pa | pt | pl | pc | pk => k_is))
  (case a71 | l71 | c71 | k71 | z_any | z_bool | z_enumerate | z_int | z_isinstance | z_len | z_list | z_max | z_min | z_range | z_sorted | z_str | z_tuple | q_MOST_WEEKDAYS | q_MOST_YEARLY | q_MOST_YEARLY_DAYS | q_SHORT_YEAR | q_LONG_YEAR | q_MOST_ROWS | q_MOST_ROW_DAYS | q_TURN | q_DAYS_OF_A_WEEK | q_WORDS | lt_WORDS => k_is)
  (case cc_Counting | cm_Counting | cn_Counting | cti_Counting_counted_in | cti_Counting_days_for | cti_Counting_reach | ci_Counting | ckd_Counting_Counting | ckd_Counting_Weeks | ckd_Counting_CourtDays | ct_dCountingDaysFor | ct_dCountingReach | ct_dCountingCountedIn | cc_CourtDays | cm_CourtDays | cn_CourtDays | cti_CourtDays_counted_in | cti_CourtDays_days_for | cti_CourtDays_reach | ci_CourtDays | ckd_CourtDays_Counting | ckd_CourtDays_Weeks | ckd_CourtDays_CourtDays | ct_dCourtDaysReach | ct_dCourtDaysCountedIn | cc_Pattern | cm_Pattern | cn_Pattern | ct_dPatternBeforeYear | ct_dPatternYearWith | ct_dPatternNth | ct_dPatternBefore | cc_Rule | cm_Rule | cn_Rule | ct_dRuleRoleInStill | ct_dRuleRole | cc_Run | cm_Run | cn_Run | ct_dRunIsOver | ct_dRunStartsOn | ct_dRunLastsTo | ct_dRunStateWord | ct_dRunAccount | ct_dRunSetOut | ct_dRunIsHalted | ct_dRunGoOn | ct_dRunFinish | ct_dRunIsUnderWay | ct_dRunBeginAnew | ct_dRunLengthen | ct_dRunHalt | ct_dRunWorks | ct_dRunFeel | cc_Table | cm_Table | cn_Table | ct_dTableShift | ct_dTableBefore | ct_dTableNth | ct_dTableNextOpen | cc_Weeks | cm_Weeks | cn_Weeks | cti_Weeks_counted_in | cti_Weeks_days_for | cti_Weeks_reach | ci_Weeks | ckd_Weeks_Counting | ckd_Weeks_Weeks | ckd_Weeks_CourtDays | ct_dWeeksDaysFor => kernel_rfl)
