import PyProof.Rows.All
import Wide.All
import OpenK.AllK
import Wide.FinOn
import Lean
import PyProof.EqAt
import PyProof.EqKinds
import PyProof.TupleCall
import PySem.Challenge.RW_ownroom_k21_plain_rooms_refused
set_option Elab.async false
set_option linter.all false
set_option maxRecDepth 100000
namespace L2
open PySem PySem.Spec PyProof.Rows

/-- a key: an int or a str -/
noncomputable abbrev Key := Sum Int Str
noncomputable def keyIs : Key → Value → Bool
  | .inl k, v => Value.isInt k v
  | .inr x, v => Value.isStrOf x v
noncomputable def keyH (w : World) : Key → Int
  | .inl k => hashInt k
  | .inr x => hashStr w x
theorem keyIs_shape : ∀ {k : Key} {v : Value}, keyIs k v = true → (∃ i t, k = Sum.inl i ∧ v = Value.int i t) ∨ (∃ x t, k = Sum.inr x ∧ v = Value.str x t)
  | .inl i, v, h => by
    obtain ⟨t, e⟩ := Value.isInt_shape (k := i) (v := v) h
    exact .inl ⟨i, t, rfl, e⟩
  | .inr x, v, h => by
    obtain ⟨t, e⟩ := Value.isStrOf_shape (x := x) (v := v) h
    exact .inr ⟨x, t, rfl, e⟩
theorem keyIs_int (i : Int) (t : Tok) : keyIs (.inl i) (.int i t) = true := by simp [keyIs, Value.isInt]
theorem keyIs_str (x : Str) (t : Tok) : keyIs (.inr x) (.str x t) = true := by simp [keyIs, Value.isStrOf]
theorem key_ll (a b : Int) : decide ((Sum.inl a : Key) = Sum.inl b) = (a == b) := by
  by_cases e : a = b
  · subst e; simp
  · have h : ¬ (Sum.inl a : Key) = Sum.inl b := fun q => e (Sum.inl.inj q)
    rw [decide_eq_false h]
    exact (beq_eq_false_iff_ne.mpr e).symm
theorem key_rr (a b : Str) : decide ((Sum.inr a : Key) = Sum.inr b) = decide (a = b) := by
  by_cases e : a = b
  · subst e; simp
  · have h : ¬ (Sum.inr a : Key) = Sum.inr b := fun q => e (Sum.inr.inj q)
    rw [decide_eq_false h, decide_eq_false e]
theorem key_lr (a : Int) (b : Str) : decide ((Sum.inl a : Key) = Sum.inr b) = false := decide_eq_false (fun q => nomatch q)
theorem key_rl (a : Str) (b : Int) : decide ((Sum.inr a : Key) = Sum.inl b) = false := decide_eq_false (fun q => nomatch q)

noncomputable def mixKind (prog : Program) (w : World) : PySem.KeyKind prog w Key where
  is := keyIs
  hash := keyH w
  inj := fun v a b ha hb => by
    rcases keyIs_shape ha with ⟨i, t, rfl, rfl⟩ | ⟨x, t, rfl, rfl⟩
    · rcases keyIs_shape hb with ⟨j, u, rfl, e⟩ | ⟨y, u, rfl, e⟩
      · injection e with e1 _; rw [e1]
      · exact nomatch e
    · rcases keyIs_shape hb with ⟨j, u, rfl, e⟩ | ⟨y, u, rfl, e⟩
      · exact nomatch e
      · injection e with e1 _; rw [e1]
  byValue := fun k v h => by
    rcases keyIs_shape h with ⟨i, t, rfl, rfl⟩ | ⟨x, t, rfl, rfl⟩ <;> rfl
  pyHash := fun hv h => by
    rcases keyIs_shape hv with ⟨i, t, rfl, rfl⟩ | ⟨x, t, rfl, rfl⟩
    · exact wpAny_pyHash_int h
    · exact wpAny_pyHash_str h
  eqBool := fun hu hv h => by
    rcases keyIs_shape hu with ⟨i, t, rfl, rfl⟩ | ⟨x, t, rfl, rfl⟩
    · rcases keyIs_shape hv with ⟨j, u, rfl, rfl⟩ | ⟨y, u, rfl, rfl⟩
      · rw [key_ll] at h; exact wpAny_eqBool_int h
      · rw [key_lr] at h; exact SeqAt.EqAt.int_str i t y u _ _ _ _ h
    · rcases keyIs_shape hv with ⟨j, u, rfl, rfl⟩ | ⟨y, u, rfl, rfl⟩
      · rw [key_rl] at h; exact SeqAt.EqAt.str_int x t j u _ _ _ _ h
      · rw [key_rr] at h; exact wpAny_eqBool_str h
  «strs» := fun k x t v h => by
    rcases keyIs_shape h with ⟨i, u, rfl, e⟩ | ⟨y, u, rfl, e⟩
    · exact nomatch e
    · injection e with e1 _
      subst e1
      cases v <;> rfl

theorem mixKind_int (prog : Program) (w : World) (i : Int) (t : Tok) : (mixKind prog w).is (.inl i) (.int i t) = true := keyIs_int i t
theorem mixKind_str (prog : Program) (w : World) (x : Str) (t : Tok) : (mixKind prog w).is (.inr x) (.str x t) = true := keyIs_str x t
end L2

namespace L2
open PySem PySem.Spec PyProof.Rows

/-- a value, without the heap -/
inductive V where
  | non | bl (b : Bool) | int (i : Int) | str (x : Str) | byt (b : Array UInt8) | flt (b : UInt64) | ref (a : Addr) | ty (n : String)
  deriving DecidableEq

noncomputable def RelV : V → Value → Prop
  | .non, u => u = Value.none
  | .bl b, u => u = Value.bool b
  | .int i, u => ∃ t, u = Value.int i t
  | .str x, u => ∃ t, u = Value.str x t
  | .byt b, u => ∃ t, u = Value.bytes b t
  | .flt b, u => ∃ t, u = Value.float b t
  | .ref a, u => u = Value.ref a
  | .ty n, u => u = Value.type n

noncomputable abbrev Vals : List V → List Value → Prop := Paired RelV
theorem Vals.length {xs : List V} {us : List Value} (r : Vals xs us) : xs.length = us.length := Paired.length r
theorem Vals.get : ∀ {xs : List V} {us : List Value} {i : Nat} {x : V}, Vals xs us → xs[i]? = some x → ∃ u, us[i]? = some u ∧ RelV x u
  | _, _, _, _, .nil, e => by simp at e
  | _, _, 0, _, .cons r _, e => by simp at e; subst e; exact ⟨_, rfl, r⟩
  | _, _, i + 1, x, .cons _ t, e => by
    obtain ⟨u, h1, h2⟩ := Vals.get (i := i) (x := x) t (by simpa using e)
    exact ⟨u, by simpa using h1, h2⟩
theorem Vals.append : ∀ {xs ys : List V} {us ws : List Value}, Vals xs us → Vals ys ws → Vals (xs ++ ys) (us ++ ws)
  | _, _, _, _, .nil, s => s
  | _, _, _, _, .cons r t, s => .cons r (Vals.append t s)
theorem Vals.take : ∀ {xs : List V} {us : List Value} (n : Nat), Vals xs us → Vals (xs.take n) (us.take n)
  | _, _, 0, _ => .nil
  | _, _, _ + 1, .nil => .nil
  | _, _, n + 1, .cons r t => .cons r (Vals.take n t)
theorem Vals.drop : ∀ {xs : List V} {us : List Value} (n : Nat), Vals xs us → Vals (xs.drop n) (us.drop n)
  | _, _, 0, r => r
  | _, _, _ + 1, .nil => .nil
  | _, _, n + 1, .cons _ t => Vals.drop n t
noncomputable def RelO : Option V → Option Value → Prop
  | some v, some u => RelV v u
  | none, none => True
  | _, _ => False
noncomputable def KV {κ : Type} : List (κ × V) → List (κ × Value) → Prop := Paired fun (p : κ × V) (q : κ × Value) => p.1 = q.1 ∧ RelV p.2 q.2

/-- a key of a dict (00_mix): an int or a text -/
noncomputable def kV : Key → V
  | .inl i => .int i
  | .inr x => .str x

/-- what stands at a tracked address -/
inductive HO where
  /-- a list -/
  | lst (xs : List V)
  /-- a tuple (never changes) -/
  | tup (xs : List V)
  /-- a dict whose keys are ints and texts; one whose keys are tuples of ints and texts (the empty one is both) -/
  | dK (kvs : List (Key × V)) | dT (kvs : List (List Key × V))
  /-- a set of ints: its members, its size -/
  | set (S : Int → Bool) (n : Nat)
  /-- an instance of the class at C, its dict at dx, its attributes -/
  | ins (C dx : Addr) (fs : List (Str × V))
  /-- the dict of the instance at x -/
  | own (x : Addr)
  /-- the dict of an exception -/
  | xd (fs : List (Str × V))
  /-- a bound method, f of x -/
  | met (f x : Addr)
  /-- a range object lo, lo + 1, .. below hi -/
  | rng (lo hi : Int)
  /-- a thing that is known to the object (the script; a dict while a loop walks it): read, never written while it is so -/
  | frz (o : Obj) (u : HO)
  /-- a code object's table -/
  | tbl (ps : Array Value)
  /-- any other thing, by what is true of its one object (a def of one's own: SetO a S n := HO.ext fun h => ..) -/
  | ext (φ : Heap → Prop)

noncomputable abbrev Hp := Addr → Option HO
noncomputable def upd (H : Hp) (a : Addr) (o : HO) : Hp := fun b => if b = a then some o else H b
theorem upd_same {H : Hp} {a : Addr} {o : HO} : upd H a o a = some o := by unfold upd; rw [if_pos rfl]
theorem upd_ne {H : Hp} {a b : Addr} {o : HO} (h : b ≠ a) : upd H a o b = H b := by unfold upd; rw [if_neg h]
/-- two objects of different content stand apart -/
theorem ne_of {H : Hp} {a b : Addr} {o u : HO} (h : H a = some o) (h' : H b = some u) (d : o ≠ u) : a ≠ b := by
  intro e; subst e; rw [h] at h'; exact d (Option.some.inj h')
theorem ne_of_none {H : Hp} {a b : Addr} {o : HO} (h : H a = some o) (h' : H b = none) : a ≠ b := by
  intro e; subst e; rw [h] at h'; cases h'

section
variable (P : Program) (w : World)
noncomputable def ObjOk (H : Hp) (h : Heap) (a : Addr) : HO → Prop
  | .lst xs => xs.length ≤ sizeLine ∧ ∃ (its : List Value) (n : Nat), Vals xs its ∧ h.get? a = some { cls := .type "list", data := .seq its.toArray n }
  | .tup xs => xs.length ≤ sizeLine ∧ ∃ its : List Value, Vals xs its ∧ IsTup h a its.toArray
  | .dK kvs => kvs.length ≤ sizeLine ∧ (a == sysModules) = false ∧ ∃ vs, KV kvs vs ∧ h.DictOf (mixKind P w) a vs
  | .dT kvs => kvs.length ≤ sizeLine ∧ (a == sysModules) = false ∧ ∃ xs : List (List Key × Addr × Value),
      Paired (fun (p : List Key × V) (q : List Key × Addr × Value) => p.1 = q.1 ∧ H q.2.1 = some (.tup (p.1.map kV)) ∧ RelV p.2 q.2.2) kvs xs ∧
      ∃ o es ep, h.get? a = some o ∧ o.ExactDict ∧ o.data = .dict es ep ∧ es.toList = xs.map (entryOfKey (tupleKind (mixKind P w))) ∧ (xs.map (·.1)).Nodup
  | .set S n => h.SetOf (intKind P w) a S n
  | .ins C dx fs => H dx = some (.own a) ∧ fs.length ≤ 1000 ∧ dx ≠ a ∧ h.get? a = some (PySem.W.instObj C dx) ∧
      ∃ mA, h.Ns1 dx mA ∧ (∀ f, RelO (fs.lookup f) (mA f)) ∧ PySem.Within mA (fs.map (·.1))
  | .own _ => ∃ o, h.get? a = some o
  | .xd fs => ∃ mA, h.Ns1 a mA ∧ ∀ f, RelO (fs.lookup f) (mA f)
  | .rng lo hi => ∃ t u v, h.get? a = some { cls := .type "range", data := .fields #[.int lo t, .int hi u, .int 1 v] }
  | .frz o u => h.get? a = some o ∧ ObjOk H h a u
  | .tbl ps => h.get? a = some { cls := .none, data := .fields ps }
  | .met f x => h.get? a = some (PySem.W.methodObj (.ref f) (.ref x))
  | .ext φ => φ h ∧ (∃ o, h.get? a = some o) ∧ ∀ h1 h2 : Heap, φ h1 → (∀ o, h1.get? a = some o → h2.get? a = some o) → φ h2
/-- the abstract heap is held -/
noncomputable def HOk (H : Hp) (h : Heap) : Prop := ∀ a o, H a = some o → ObjOk P w H h a o
end

section
variable {P : Program} {w : World} {H H' : Hp} {h h' : Heap} {a : Addr} {o : HO}
theorem ObjOk.lt (x : ObjOk P w H h a o) : a < h.objs.size := by
  cases o with
  | lst xs => obtain ⟨_, _, _, _, e⟩ := x; exact Heap.lt_size e
  | tup xs => obtain ⟨_, _, _, p⟩ := x; exact p.lt
  | dK kvs => obtain ⟨_, _, _, _, o, _, _, e, _⟩ := x; exact Heap.lt_size e
  | dT kvs => obtain ⟨_, _, _, _, o, _, _, e, _⟩ := x; exact Heap.lt_size e
  | set S n => obtain ⟨o, _, _, _, e, _⟩ := x; exact Heap.lt_size e
  | ins C dx fs => obtain ⟨_, _, _, e, _⟩ := x; exact Heap.lt_size e
  | own y => obtain ⟨_, e⟩ := x; exact Heap.lt_size e
  | xd fs => obtain ⟨_, ⟨_, _, _, e, _⟩, _⟩ := x; exact Heap.lt_size e
  | rng lo hi => obtain ⟨_, _, _, e⟩ := x; exact Heap.lt_size e
  | frz ob u => obtain ⟨e, _⟩ := x; exact Heap.lt_size e
  | tbl ps => exact Heap.lt_size (show h.get? a = some _ from x)
  | met f y => exact Heap.lt_size (show h.get? a = some _ from x)
  | ext φ => obtain ⟨_, ⟨_, e⟩, _⟩ := x; exact Heap.lt_size e
theorem Paired.mapP {α β : Type} {F G : α → β → Prop} : ∀ {l₁ : List α} {l₂ : List β}, Paired F l₁ l₂ → (∀ a b, F a b → G a b) → Paired G l₁ l₂
  | _, _, .nil, _ => .nil
  | _, _, .cons r t, f => .cons (f _ _ r) (Paired.mapP t f)
/-- what an object's description leans on: its own object, its own dict, the tuples -/
theorem ObjOk.stay (x : ObjOk P w H h a o) (k : ∀ b u, (b = a ∨ H b = some (.own a)) → h.get? b = some u → h'.get? b = some u)
    (ho : ∀ b, H b = some (.own a) → H' b = some (.own a)) (ht : ∀ b xs, H b = some (.tup xs) → H' b = some (.tup xs)) : ObjOk P w H' h' a o := by
  induction o with
  | lst xs => obtain ⟨z, its, n, r, e⟩ := x; exact ⟨z, its, n, r, k _ _ (.inl rfl) e⟩
  | tup xs => obtain ⟨z, its, r, ob, e, c⟩ := x; exact ⟨z, its, r, ob, k _ _ (.inl rfl) e, c⟩
  | dK kvs => obtain ⟨z, y, vs, r, ob, es, ep, e, c⟩ := x; exact ⟨z, y, vs, r, ob, es, ep, k _ _ (.inl rfl) e, c⟩
  | dT kvs =>
    obtain ⟨z, y, xs, r, ob, es, ep, e, c⟩ := x
    exact ⟨z, y, xs, Paired.mapP r fun p q z => ⟨z.1, ht _ _ z.2.1, z.2.2⟩, ob, es, ep, k _ _ (.inl rfl) e, c⟩
  | set S n => obtain ⟨ob, es, ep, t, e, c⟩ := x; exact ⟨ob, es, ep, t, k _ _ (.inl rfl) e, c⟩
  | ins C dx fs =>
    obtain ⟨d, z, ne, e, mA, ⟨od, es, ep, e2, c⟩, r⟩ := x
    exact ⟨ho _ d, z, ne, k _ _ (.inl rfl) e, mA, ⟨od, es, ep, k _ _ (.inr d) e2, c⟩, r⟩
  | own y => obtain ⟨ob, e⟩ := x; exact ⟨ob, k _ _ (.inl rfl) e⟩
  | xd fs => obtain ⟨mA, ⟨od, es, ep, e, c⟩, r⟩ := x; exact ⟨mA, ⟨od, es, ep, k _ _ (.inl rfl) e, c⟩, r⟩
  | rng lo hi => obtain ⟨t, u, v, e⟩ := x; exact ⟨t, u, v, k _ _ (.inl rfl) e⟩
  | frz ob u ih => obtain ⟨e, q⟩ := x; exact ⟨k _ _ (.inl rfl) e, ih q⟩
  | tbl ps =>
    have e : h.get? a = some { cls := .none, data := .fields ps } := x
    show h'.get? a = some { cls := .none, data := .fields ps }
    exact k a _ (.inl rfl) e
  | met f y =>
    have e : h.get? a = some (PySem.W.methodObj (.ref f) (.ref y)) := x
    show h'.get? a = some (PySem.W.methodObj (.ref f) (.ref y))
    exact k a _ (.inl rfl) e
  | ext φ => obtain ⟨p, ⟨o, e⟩, st⟩ := x; exact ⟨st _ _ p fun o q => k _ _ (.inl rfl) q, ⟨o, k _ _ (.inl rfl) e⟩, st⟩
theorem HOk.lt (x : HOk P w H h) (e : H a = some o) : a < h.objs.size := (x a o e).lt
theorem HOk.fresh (x : HOk P w H h) (e : h.objs.size ≤ a) : H a = none := by
  cases q : H a with
  | none => rfl
  | some u => exact absurd (Nat.lt_of_lt_of_le (x.lt q) e) (Nat.lt_irrefl _)
/-- every object of the heap is kept -/
theorem HOk.kept (x : HOk P w H h) (k : ∀ b u, h.get? b = some u → h'.get? b = some u) : HOk P w H h' := fun a o e =>
  (x a o e).stay (fun b u _ q => k b u q) (fun _ q => q) fun _ _ q => q
/-- a new object is laid and tracked -/
theorem HOk.laid (x : HOk P w H h) (k : ∀ b u, h.get? b = some u → h'.get? b = some u) (hp : h.objs.size ≤ a) (new : ObjOk P w (upd H a o) h' a o) : HOk P w (upd H a o) h' := fun b u e => by
  have hn := x.fresh hp
  by_cases hb : b = a
  · subst hb; rw [upd_same] at e; cases e; exact new
  · rw [upd_ne hb] at e
    exact (x b u e).stay (fun c v _ q => k c v q) (fun c q => by rw [upd_ne (ne_of_none q hn)]; exact q) fun c xs q => by rw [upd_ne (ne_of_none q hn)]; exact q
end

/-- what may be read as u: it is u, or a known u -/
noncomputable def Rd (H : Hp) (a : Addr) (u : HO) : Prop := H a = some u ∨ ∃ o, H a = some (.frz o u)
theorem Rd.ok {P : Program} {w : World} {H : Hp} {h : Heap} {a : Addr} {u : HO} (r : Rd H a u) (x : HOk P w H h) : ObjOk P w H h a u := by
  rcases r with r | ⟨o, r⟩
  · exact x a u r
  · obtain ⟨_, q⟩ := x a _ r
    exact q
/-- what may be written -/
noncomputable def Mut : Option HO → Prop
  | some (.lst _) => True
  | some (.dK _) => True
  | some (.dT _) => True
  | some (.set _ _) => True
  | some (.ins _ _ _) => True
  | some (.ext _) => True
  | _ => False
section
variable {P : Program} {w : World} {H : Hp} {h h' : Heap} {x e : Addr} {o' : HO}
/-- the object at e is changed: x itself, or the dict of the instance x -/
theorem HOk.write (ok : HOk P w H h) (mu : Mut (H x)) (he : e = x ∨ H e = some (.own x)) (k : ∀ b u, b ≠ e → h.get? b = some u → h'.get? b = some u) (heo : ∃ u, h'.get? e = some u)
    (new : ObjOk P w (upd H x o') h' x o') : HOk P w (upd H x o') h' := fun b u q => by
  have nown : ∀ c y, H c = some (.own y) → c ≠ x := fun c y r z => by subst z; rw [r] at mu; exact mu
  have ntup : ∀ c xs, H c = some (.tup xs) → c ≠ x := fun c xs r z => by subst z; rw [r] at mu; exact mu
  by_cases hb : b = x
  · subst hb; rw [upd_same] at q; cases q; exact new
  · rw [upd_ne hb] at q
    by_cases hbe : b = e
    · have q' : H b = some (.own x) := by
        rcases he with z | z
        · exact absurd (hbe.trans z) hb
        · rw [hbe]; exact z
      rw [q] at q'; cases q'
      obtain ⟨v, hv⟩ := heo
      exact ⟨v, by rw [hbe]; exact hv⟩
    · refine (ok b u q).stay (fun c v hc r => k c v ?_ r) (fun c r => by rw [upd_ne (nown c b r)]; exact r) fun c xs r => by rw [upd_ne (ntup c xs r)]; exact r
      rcases hc with rfl | hc
      · exact hbe
      · rintro rfl
        rcases he with z | z
        · exact nown c b hc z
        · rw [hc] at z; cases z; exact hb rfl
end

structure Un (fs ex : List Addr) (H H' : Hp) (h h' : Heap) : Prop where
  keep : ∀ b o, h.get? b = some o → H b = none → b ∉ fs → b ∉ ex → h'.get? b = some o
  slot : ∀ b o, h.get? b = some o → H b = none → b ∈ fs → b ∉ ex → ∃ sl, h'.get? b = some { o with slots := sl }
  free : ∀ b o, h.get? b = some o → H b = none → b ∉ ex → H' b = none
  there : ∀ b o, h.get? b = some o → b ∉ ex → ∃ o', h'.get? b = some o'
  tups : ∀ b xs, H b = some (.tup xs) → H' b = some (.tup xs)
  frzs : ∀ b o u, H b = some (.frz o u) → H' b = some (.frz o u)
  tbls : ∀ b ps, H b = some (.tbl ps) → ∃ more, H' b = some (.tbl (ps ++ more))
section
variable {fs fs' ex ex' : List Addr} {H H1 H2 : Hp} {h h1 h2 h' : Heap} {a x e : Addr} {o : HO}
theorem Un.any (u : Un fs ex H H1 h h1) {b : Addr} {ob : Obj} (q : h.get? b = some ob) (n : H b = none) (hx : b ∉ ex) : ∃ sl, h1.get? b = some { ob with slots := sl } := by
  by_cases hb : b ∈ fs
  · exact u.slot b ob q n hb hx
  · exact ⟨ob.slots, u.keep b ob q n hb hx⟩
theorem Un.kept (k : ∀ b u, h.get? b = some u → h'.get? b = some u) : Un fs ex H H h h' :=
  ⟨fun b ob q _ _ _ => k b ob q, fun b ob q _ _ _ => ⟨ob.slots, k b ob q⟩, fun _ _ _ n _ => n, fun b ob q _ => ⟨ob, k b ob q⟩, fun _ _ q => q, fun _ _ _ q => q, fun _ ps q => ⟨#[], by rw [q]; simp⟩⟩
theorem Un.refl : Un fs ex H H h h := Un.kept fun _ _ q => q
theorem Un.laid (k : ∀ b u, h.get? b = some u → h'.get? b = some u) (hp : h.objs.size ≤ a) (hn : H a = none) : Un fs ex H (upd H a o) h h' where
  keep := fun b u q _ _ _ => k b u q
  slot := fun b u q _ _ _ => ⟨u.slots, k b u q⟩
  free := fun b u q n _ => by rw [upd_ne (Nat.ne_of_lt (Nat.lt_of_lt_of_le (Heap.lt_size q) hp))]; exact n
  there := fun b u q _ => ⟨u, k b u q⟩
  tups := fun b xs q => by rw [upd_ne (ne_of_none q hn)]; exact q
  frzs := fun b u xs q => by rw [upd_ne (ne_of_none q hn)]; exact q
  tbls := fun b ps q => ⟨#[], by rw [upd_ne (ne_of_none q hn), q]; simp⟩
theorem Un.write (mu : Mut (H x)) (he : e = x ∨ H e = some (.own x)) (k : ∀ b u, b ≠ e → h.get? b = some u → h'.get? b = some u) (heo : ∃ u, h'.get? e = some u) : Un fs ex H (upd H x o) h h' := by
  have hx : ∀ b, H b = none → b ≠ x := fun b n z => by subst z; rw [n] at mu; exact mu
  have hb : ∀ b, H b = none → b ≠ e := fun b n z => by
    subst z
    rcases he with r | r
    · exact hx b n r
    · rw [n] at r; cases r
  have hm : ∀ b u, H b = some u → ¬ Mut (some u) → b ≠ x := fun b u q nm z => by subst z; rw [q] at mu; exact nm mu
  refine ⟨fun b u q n _ _ => k b u (hb b n) q, fun b u q n _ _ => ⟨u.slots, k b u (hb b n) q⟩, fun b u q n _ => by rw [upd_ne (hx b n)]; exact n, fun b u q _ => ?_,
    fun b xs q => by rw [upd_ne (hm b _ q fun z => z)]; exact q, fun b u xs q => by rw [upd_ne (hm b _ q fun z => z)]; exact q, fun b ps q => ⟨#[], by rw [upd_ne (hm b _ q fun z => z), q]; simp⟩⟩
  by_cases hbe : b = e
  · subst hbe; exact heo
  · exact ⟨u, k b u hbe q⟩
end

noncomputable def trk (h : Heap) (H : Hp) : List Addr := (List.range h.objs.size).filter fun a => (H a).isSome
noncomputable def hidT (h : Heap) (H : Hp) : Heap := PySem.W.hideAll h (trk h H)
theorem hidT_size (h : Heap) (H : Hp) : (hidT h H).objs.size = h.objs.size := PySem.W.hideAll_size _ _
theorem hidT_get {h : Heap} {H : Hp} {b : Addr} {o : Obj} (e : h.get? b = some o) (n : H b = none) : (hidT h H).get? b = some o :=
  PySem.W.hideAll_get _ e fun hm => by
    have q : (H b).isSome = true := (List.mem_filter.mp hm).2
    rw [n] at q; simp at q
theorem of_hidT {h : Heap} {H : Hp} {b : Addr} {o : Obj} (e : (hidT h H).get? b = some o) : h.get? b = some o ∧ H b = none := by
  have e' : h.get? b = some o := PySem.W.of_hideAll (trk h H) e
  refine ⟨e', ?_⟩
  cases q : H b with
  | none => rfl
  | some x =>
    have hm : b ∈ trk h H := List.mem_filter.mpr ⟨List.mem_range.mpr (Heap.lt_size e'), by simp [q]⟩
    have z : (hidT h H).get? b = none := PySem.W.hideAll_none (trk h H) hm
    rw [z] at e; cases e

end L2

namespace L2
open PySem PySem.Spec PyProof.Rows

/-- the module's facts, over the base: the heap at the law's entry without what is tracked there -/
structure Mod (K : PySem.W.Frag) (mg : Str → Option Value) (base : Heap) : Prop where
  kin : K.In base
  glob : base.Ns mainGlobals mg
  blt : ∃ mb, base.Ns builtinsNs mb ∧ ∀ x : Str, x ≠ "__name__" → mb x = bootBuiltins x
  nolimit : base.NoLimit

/-- the context: a def's body (or a comprehension's block) running. base: fixed through the whole law; s₀, H₀: the entry; outer: the frames whose slots others may change (a def's callers); stack: all frames that run;
   ex: iterators that were made ahead of the entry and are walked here (a comprehension's); fn: the names whose cells were made at the entry (a def: all; a comprehension's block: its own); calm: not within an except suite; pn: pins that every state bears; xe: what is wanted of an exception that leaves the code -/
structure Cx where
  prog : Program
  w : World
  K : PySem.W.Frag
  mg : Str → Option Value
  base : Heap
  A : Around
  N : List Str
  s₀ : Shared
  H₀ : Hp
  env : Env
  outer : List Env
  stack : List Env
  ex : List Addr
  fn : Str → Bool
  calm : Bool
  pn : List (Addr × Obj)
  xe : Value → Shared → Prop
/-- the callers' frames -/
noncomputable def frs (l : List Env) : List Addr := l.filterMap (·.frame)
noncomputable abbrev Cx.fs (X : Cx) : List Addr := frs X.outer

noncomputable def Vis (sc : Scope) (x : Str) : Prop := sc.names.lookup x = some .local ∨ sc.names.lookup x = some .cell ∨ sc.names.lookup x = some .free
noncomputable def Loc (sc : Scope) (x : Str) : Prop := sc.names.lookup x = some .local ∨ sc.names.lookup x = some .cell
noncomputable def Look (env : Env) (h : Heap) (m : Str → Option Value) (x : Str) (u : Value) : Prop :=
  (env.kindOf x = some .local ∧ m x = some u) ∨ ((env.kindOf x = some .cell ∨ env.kindOf x = some .free) ∧ ∃ c, env.cells.lookup x = some c ∧ h.IsCell c (some u))

structure Cx.Ok (X : Cx) : Prop where
  mod : Mod X.K X.mg X.base
  kind : X.env.scope.kind = .function
  glob : X.env.globals = mainGlobals
  blt : X.env.builtins = builtinsNs
  above : X.s₀.heap.objs.size ≤ X.env.locals
  inj : ∀ x y c, X.env.cells.lookup x = some c → X.env.cells.lookup y = some c → x = y
  has : ∀ x, (X.env.kindOf x = some .cell ∨ X.env.kindOf x = some .free) → ∃ c, X.env.cells.lookup x = some c
  cab : ∀ x c, X.fn x = true → X.env.cells.lookup x = some c → X.s₀.heap.objs.size ≤ c
  hd : X.calm = true → X.A.handled = none
  frames : X.A.frames = some X.stack
  stk : X.stack = X.outer ∨ (X.stack = X.env :: X.outer ∧ X.env.frame = some X.env.locals)
  exf : ∀ b ∈ X.ex, b ≠ X.env.locals ∧ ∀ x c, X.env.cells.lookup x = some c → c ≠ b
  bs : ∀ b o, X.base.get? b = some o → X.s₀.heap.get? b = some o ∧ X.H₀ b = none
  bsz : X.base.objs.size ≤ X.s₀.heap.objs.size
  noex : ∀ b o, X.base.get? b = some o → b ∉ X.ex
  exfs : ∀ b ∈ X.ex, b ∉ X.fs
  funs : X.s₀.heap.FunFrames X.base X.outer
  frf : ∀ b ∈ X.fs, X.H₀ b = none

structure Inv (X : Cx) (pins : List (Addr × Obj)) (σ : List (Option V)) (H : Hp) (s : Shared) : Prop where
  ok : X.Ok
  os : s.os = X.s₀.os
  bare : AllBare s.gens
  base : Un X.fs X.ex X.H₀ H X.s₀.heap s.heap
  loc : ∃ m, s.heap.Ns X.env.locals m ∧ ∀ (i : Nat) (x : Str) (v : V), X.N[i]? = some x → σ[i]? = some (some v) → Vis X.env.scope x → ∃ u, RelV v u ∧ Look X.env s.heap m x u
  cell : ∀ x c, X.env.cells.lookup x = some c → ∃ v, s.heap.IsCell c v
  free : H X.env.locals = none
  freeC : ∀ x c, X.env.cells.lookup x = some c → H c = none
  pin : ∀ p ∈ X.pn ++ pins, s.heap.get? p.1 = some p.2 ∧ H p.1 = none ∧ p.1 ≠ X.env.locals ∧ p.1 ∉ X.fs ∧ ∀ v, p.2.data ≠ .cell v
  hok : HOk X.prog X.w H s.heap
  len : σ.length = X.N.length

section
variable {X : Cx} {pins : List (Addr × Obj)} {σ : List (Option V)} {H H' : Hp} {s : Shared} {h' : Heap}

theorem Cx.Ok.nofr (ok : X.Ok) {b : Addr} {o : Obj} (e : X.base.get? b = some o) : b ∉ X.fs := fun hb => by
  have := (ok.funs.mem hb).1
  rw [e] at this; cases this
theorem Inv.bs (I : Inv X pins σ H s) : ∀ b o, X.base.get? b = some o → s.heap.get? b = some o ∧ H b = none := fun b o e =>
  ⟨I.base.keep b o (I.ok.bs b o e).1 (I.ok.bs b o e).2 (I.ok.nofr e) (I.ok.noex b o e), I.base.free b o (I.ok.bs b o e).1 (I.ok.bs b o e).2 (I.ok.noex b o e)⟩
theorem Inv.bk (I : Inv X pins σ H s) : ∀ b o, X.base.get? b = some o → s.heap.get? b = some o := fun b o e => (I.bs b o e).1
theorem Inv.mod (I : Inv X pins σ H s) : Mod X.K X.mg X.base := I.ok.mod
theorem Inv.kIn (I : Inv X pins σ H s) : X.K.In s.heap := I.ok.mod.kin.keeps I.bk
theorem Inv.lt (I : Inv X pins σ H s) : X.env.locals < s.heap.objs.size := let ⟨_, hn, _⟩ := I.loc; hn.lt
theorem Inv.sz (I : Inv X pins σ H s) : X.s₀.heap.objs.size ≤ s.heap.objs.size := Nat.le_trans I.ok.above (Nat.le_of_lt I.lt)
theorem Inv.nofs (I : Inv X pins σ H s) {a : Addr} (h : s.heap.objs.size ≤ a) : a ∉ X.fs := fun hb => by
  obtain ⟨_, o, ho, _⟩ := I.ok.funs.mem hb
  exact absurd (Nat.lt_of_lt_of_le (Heap.lt_size ho) (Nat.le_trans I.sz h)) (Nat.lt_irrefl _)
theorem Inv.cne (I : Inv X pins σ H s) : ∀ x c, X.env.cells.lookup x = some c → c ≠ X.env.locals := fun x c e z => by
  obtain ⟨v, o, ho, hd⟩ := I.cell x c e
  obtain ⟨m, ⟨o', es, ep, ho', hd', _⟩, _⟩ := I.loc
  rw [z, ho'] at ho; cases ho; rw [hd'] at hd; cases hd
theorem Inv.funs (I : Inv X pins σ H s) : s.heap.FunFrames X.base X.outer := by
  have all : ∀ (l : List Env), (∀ b ∈ frs l, b ∈ X.fs) → X.s₀.heap.FunFrames X.base l → s.heap.FunFrames X.base l := by
    intro l
    induction l with
    | nil => intro _ _; trivial
    | cons env r ih =>
      intro hs hl
      obtain ⟨hk, ⟨L, o, hf, hn, ho, hd⟩, hr⟩ := hl
      have hL : L ∈ X.fs := hs L (by unfold frs; rw [List.filterMap_cons, hf]; exact List.mem_cons_self)
      obtain ⟨sl, e⟩ := I.base.slot L o ho (I.ok.frf L hL) hL fun z => I.ok.exfs L z hL
      exact ⟨hk, ⟨L, _, hf, hn, e, hd⟩, ih (fun b hb => hs b (by unfold frs; rw [List.filterMap_cons, hf]; exact List.mem_cons_of_mem _ hb)) hr⟩
  exact all X.outer (fun _ hb => hb) I.ok.funs

/-- the frames that run, for a call -/
theorem Inv.stack (I : Inv X pins σ H s) : s.heap.FunFrames X.base X.stack := by
  rcases I.ok.stk with e | ⟨e, hf⟩
  · rw [e]; exact I.funs
  · rw [e]
    obtain ⟨m, hn, _⟩ := I.loc
    refine .cons (by rw [I.ok.kind]; decide) hf hn ?_ I.funs
    exact Heap.get?_none_of_le (Nat.le_trans I.ok.bsz I.ok.above)
theorem Inv.stkSub (I : Inv X pins σ H s) : ∀ b ∈ frs X.stack, b ∈ X.env.locals :: X.fs := fun b hb => by
  rcases I.ok.stk with e | ⟨e, hf⟩
  · rw [e] at hb; exact List.mem_cons_of_mem _ hb
  · rw [e] at hb
    unfold frs at hb
    rw [List.filterMap_cons, hf] at hb
    exact hb
theorem Inv.stkFree (I : Inv X pins σ H s) : ∀ b ∈ frs X.stack, H b = none := fun b hb => by
  rcases List.mem_cons.mp (I.stkSub b hb) with e | hb
  · rw [e]; exact I.free
  · obtain ⟨_, o, ho, _⟩ := I.ok.funs.mem hb
    exact I.base.free b o ho (I.ok.frf b hb) fun z => I.ok.exfs b z hb

/-- THE STEP: the untracked objects but the frame and the records at ch are kept (the callers' frames up to slots), the frame's map is kept, the new abstract heap is held -/
theorem Inv.step {g' : Array GenState} {t' : Nat} {d' : Drawn} {ch : List Addr} (I : Inv X pins σ H s)
    (hch : ∀ b ∈ ch, (b ∈ X.ex ∨ X.s₀.heap.objs.size ≤ b) ∧ b ≠ X.env.locals ∧ (∀ x c, X.env.cells.lookup x = some c → c ≠ b) ∧ ∀ p ∈ X.pn ++ pins, p.1 ≠ b)
    (keep : ∀ b o, b ≠ X.env.locals → b ∉ X.fs → b ∉ ch → s.heap.get? b = some o → H b = none → h'.get? b = some o)
    (slot : ∀ b o, b ≠ X.env.locals → b ∈ X.fs → b ∉ ch → s.heap.get? b = some o → H b = none → ∃ sl, h'.get? b = some { o with slots := sl }) (free : ∀ b o, b ∉ ch → s.heap.get? b = some o → H b = none → H' b = none)
    (there : ∀ b o, b ∉ ch → s.heap.get? b = some o → ∃ o', h'.get? b = some o')
    (tups : ∀ b xs, H b = some (.tup xs) → H' b = some (.tup xs)) (frzs : ∀ b o u, H b = some (.frz o u) → H' b = some (.frz o u)) (tbls : ∀ b ps, H b = some (.tbl ps) → ∃ more, H' b = some (.tbl (ps ++ more)))
    (ns : ∀ m, s.heap.Ns X.env.locals m → h'.Ns X.env.locals m) (hok : HOk X.prog X.w H' h') (hg : AllBare g') :
    Inv X pins σ H' { s with heap := h', gens := g', drawn := d', toks := t' } := by
  have neL : ∀ b o, X.s₀.heap.get? b = some o → b ≠ X.env.locals := fun b o e => Nat.ne_of_lt (Nat.lt_of_lt_of_le (Heap.lt_size e) I.ok.above)
  have neC : ∀ b o, X.s₀.heap.get? b = some o → b ∉ X.ex → b ∉ ch := fun b o e hx hb => by
    rcases (hch b hb).1 with z | z
    · exact hx z
    · exact absurd (Nat.lt_of_lt_of_le (Heap.lt_size e) z) (Nat.lt_irrefl _)
  have cellK : ∀ x c, X.env.cells.lookup x = some c → ∀ v, s.heap.IsCell c v → h'.IsCell c v := fun x c e v zq1_4 => by
    obtain ⟨o, ho, hd⟩ := zq1_4
    have nch : c ∉ ch := fun z => (hch c z).2.2.1 x c e rfl
    by_cases hc : c ∈ X.fs
    · obtain ⟨sl, q⟩ := slot c o (I.cne x c e) hc nch ho (I.freeC x c e)
      exact ⟨_, q, hd⟩
    · exact ⟨o, keep c o (I.cne x c e) hc nch ho (I.freeC x c e), hd⟩
  refine ⟨I.ok, I.os, hg, ⟨fun b o e n hb hx => ?_, fun b o e n hb hx => ?_, fun b o e n hx => ?_, fun b o e hx => ?_, fun b xs e => tups b xs (I.base.tups b xs e), fun b o xs e => frzs b o xs (I.base.frzs b o xs e), fun b ps e => ?_⟩, ?_, fun x c e => ?_, ?_, fun x c e => ?_, fun p hp => ?_, hok, I.len⟩
  · exact keep b o (neL b o e) hb (neC b o e hx) (I.base.keep b o e n hb hx) (I.base.free b o e n hx)
  · obtain ⟨sl, e1⟩ := I.base.slot b o e n hb hx
    obtain ⟨sl', e2⟩ := slot b _ (neL b o e) hb (neC b o e hx) e1 (I.base.free b o e n hx)
    exact ⟨sl', e2⟩
  · obtain ⟨o', e1⟩ := I.base.there b o e hx
    exact free b o' (neC b o e hx) e1 (I.base.free b o e n hx)
  · obtain ⟨o', e1⟩ := I.base.there b o e hx
    exact there b o' (neC b o e hx) e1
  · obtain ⟨m1, e1⟩ := I.base.tbls b ps e
    obtain ⟨m2, e2⟩ := tbls b _ e1
    exact ⟨m1 ++ m2, by rw [e2, Array.append_assoc]⟩
  · obtain ⟨m, hn, hl⟩ := I.loc
    refine ⟨m, ns m hn, fun i x v e1 e2 e3 => ?_⟩
    obtain ⟨u, r, l⟩ := hl i x v e1 e2 e3
    refine ⟨u, r, ?_⟩
    rcases l with l | ⟨k, c, e, z⟩
    · exact .inl l
    · exact .inr ⟨k, c, e, cellK x c e _ z⟩
  · obtain ⟨v, z⟩ := I.cell x c e
    exact ⟨v, cellK x c e v z⟩
  · obtain ⟨m, ⟨o, _, _, ho, _⟩, _⟩ := I.loc
    exact free _ o (fun z => (hch _ z).2.1 rfl) ho I.free
  · obtain ⟨v, o, ho, hd⟩ := I.cell x c e
    exact free c o (fun z => (hch c z).2.2.1 x c e rfl) ho (I.freeC x c e)
  · obtain ⟨e, n, ne, nf, d⟩ := I.pin p hp
    have nch : p.1 ∉ ch := fun z => (hch p.1 z).2.2.2 p hp rfl
    exact ⟨keep p.1 p.2 ne nf nch e n, free p.1 p.2 nch e n, ne, nf, d⟩
/-- .. where the frame's own object is kept too -/
theorem Inv.un {t' : Nat} (I : Inv X pins σ H s) (u : Un X.fs [] H H' s.heap h') (hok : HOk X.prog X.w H' h') : Inv X pins σ H' { s with heap := h', toks := t' } := by
  obtain ⟨m, ⟨o, es, ep, ho, r⟩, _⟩ := id I.loc
  obtain ⟨sl, hL⟩ := u.any ho I.free (by simp)
  exact I.step (g' := s.gens) (d' := s.drawn) (ch := []) (fun _ z => nomatch z) (fun b o _ hb _ e n => u.keep b o e n hb (by simp)) (fun b o _ hb _ e n => u.slot b o e n hb (by simp)) (fun b o _ e n => u.free b o e n (by simp)) (fun b o _ e => u.there b o e (by simp)) u.tups u.frzs u.tbls (fun m' hm => by
    obtain ⟨o', es', ep', ho', r'⟩ := hm
    rw [ho] at ho'; cases ho'
    exact ⟨_, es', ep', hL, r'⟩) hok I.bare
/-- behind a call (or a comprehension's block): the slots of this frame may have changed too, the records at ch may have turned -/
theorem Inv.call {g' : Array GenState} {t' : Nat} {d' : Drawn} {ch : List Addr} (I : Inv X pins σ H s) (u : Un (frs X.stack) ch H H' s.heap h') (hok : HOk X.prog X.w H' h') (hg : AllBare g')
    (hch : ∀ b ∈ ch, (b ∈ X.ex ∨ X.s₀.heap.objs.size ≤ b) ∧ b ≠ X.env.locals ∧ (∀ x c, X.env.cells.lookup x = some c → c ≠ b) ∧ ∀ p ∈ X.pn ++ pins, p.1 ≠ b) :
    Inv X pins σ H' { s with heap := h', gens := g', drawn := d', toks := t' } := by
  obtain ⟨m, ⟨o, es, ep, ho, r⟩, _⟩ := id I.loc
  obtain ⟨sl, hL⟩ := u.any ho I.free fun z => (hch _ z).2.1 rfl
  exact I.step (ch := ch) hch (fun b o hL hb hc e n => u.keep b o e n (fun z => (List.mem_cons.mp (I.stkSub b z)).elim hL hb) hc) (fun b o _ _ hc e n => u.any e n hc) (fun b o hc e n => u.free b o e n hc) (fun b o hc e => u.there b o e hc) u.tups u.frzs u.tbls (fun m' hm => by
    obtain ⟨o', es', ep', ho', r'⟩ := hm
    rw [ho] at ho'; cases ho'
    exact ⟨_, es', ep', hL, r'⟩) hok hg
/-- an untracked record of ours (an iterator) has turned -/
theorem Inv.turned {t' : Nat} {it : Addr} (I : Inv X pins σ H s) (k : ∀ b o, b ≠ it → s.heap.get? b = some o → h'.get? b = some o) (hn : H it = none) (hL : it ≠ X.env.locals)
    (h1 : it ∈ X.ex ∨ X.s₀.heap.objs.size ≤ it) (h2 : ∀ x c, X.env.cells.lookup x = some c → c ≠ it) (h3 : ∀ p ∈ X.pn ++ pins, p.1 ≠ it) : Inv X pins σ H { s with heap := h', toks := t' } := by
  have nit : ∀ b u, H b = some u → b ≠ it := fun b u e z => by rw [z, hn] at e; cases e
  refine I.step (g' := s.gens) (d' := s.drawn) (ch := [it]) (fun b hb => ?_) (fun b o _ _ hc e _ => k b o (fun z => hc (by simp [z])) e) (fun b o _ _ hc e _ => ⟨o.slots, k b o (fun z => hc (by simp [z])) e⟩) (fun _ _ _ _ n => n)
    (fun b o hc e => ⟨o, k b o (fun z => hc (by simp [z])) e⟩) (fun _ _ e => e) (fun _ _ _ e => e) (fun b ps e => ⟨#[], by rw [e]; simp⟩) (fun m hm => ?_) (fun b u e => ?_) I.bare
  · have e : b = it := by simpa using hb
    subst e
    exact ⟨h1, hL, h2, h3⟩
  · obtain ⟨o, es, ep, ho, r⟩ := hm
    exact ⟨o, es, ep, k _ o (Ne.symm hL) ho, r⟩
  · refine (I.hok b u e).stay (fun c v hc q => k c v ?_ q) (fun _ q => q) fun _ _ q => q
    rcases hc with z | z
    · rw [z]; exact nit b u e
    · exact nit c _ z
theorem Inv.tok (I : Inv X pins σ H s) (t : Nat) : Inv X pins σ H { s with toks := t } := I.un (h' := s.heap) (t' := t) Un.refl I.hok
/-- all objects kept -/
theorem Inv.kept {t' : Nat} (I : Inv X pins σ H s) (k : ∀ b u, s.heap.get? b = some u → h'.get? b = some u) : Inv X pins σ H { s with heap := h', toks := t' } := I.un (Un.kept k) (I.hok.kept k)
/-- a new object laid and tracked -/
theorem Inv.laid {a : Addr} {o : HO} {t' : Nat} (I : Inv X pins σ H s) (k : ∀ b u, s.heap.get? b = some u → h'.get? b = some u) (hp : s.heap.objs.size ≤ a) (new : ObjOk X.prog X.w (upd H a o) h' a o) :
    Inv X pins σ (upd H a o) { s with heap := h', toks := t' } := I.un (Un.laid k hp (I.hok.fresh hp)) (I.hok.laid k hp new)
/-- an object written -/
theorem Inv.write {x e : Addr} {o : HO} {t' : Nat} (I : Inv X pins σ H s) (mu : Mut (H x)) (he : e = x ∨ H e = some (.own x)) (k : ∀ b u, b ≠ e → s.heap.get? b = some u → h'.get? b = some u) (heo : ∃ u, h'.get? e = some u)
    (new : ObjOk X.prog X.w (upd H x o) h' x o) : Inv X pins σ (upd H x o) { s with heap := h', toks := t' } := I.un (Un.write mu he k heo) (I.hok.write mu he k heo new)
theorem Inv.pins_of {pins' : List (Addr × Obj)} (I : Inv X pins σ H s) (h : ∀ p ∈ pins', s.heap.get? p.1 = some p.2 ∧ H p.1 = none ∧ p.1 ≠ X.env.locals ∧ p.1 ∉ X.fs ∧ ∀ v, p.2.data ≠ .cell v) : Inv X pins' σ H s :=
  ⟨I.ok, I.os, I.bare, I.base, I.loc, I.cell, I.free, I.freeC, fun p hp => (List.mem_append.mp hp).elim (fun z => I.pin p (List.mem_append_left _ z)) (h p), I.hok, I.len⟩

theorem nodup_ix {N : List Str} (hN : N.Nodup) {i j : Nat} {x : Str} (a : N[i]? = some x) (b : N[j]? = some x) : i = j := by
  obtain ⟨h1, e1⟩ := List.getElem?_eq_some_iff.mp a
  obtain ⟨h2, e2⟩ := List.getElem?_eq_some_iff.mp b
  exact (List.getElem_inj hN).mp (e1.trans e2.symm)

/-- a name is stored; what changed -/
theorem store_ok2 {M : Model} {A : Around} {E : Value → Shared → Prop} {i : Nat} {x : Str} {v : V} {u : Value} {Q : Unit → Shared → Prop} (I : Inv X pins σ H s) (hN : X.N.Nodup) (hi : X.N[i]? = some x) (hx : Loc X.env.scope x) (r : RelV v u)
    (h : ∀ s', Inv X pins (σ.set i (some v)) H s' → (∃ a, Heap.SameBut a s.heap s'.heap ∧ (a = X.env.locals ∨ X.env.cells.lookup x = some a)) → Q () s') (hf : X.fn x = true ∨ X.env.scope.names.lookup x = some .local := by first | exact .inl rfl | exact .inr rfl | assumption) : wpAny M A (storeName X.env x u) Q E s := by
  obtain ⟨m, hn, hl⟩ := id I.loc
  have hcls : (X.env.scope.kind == .class || (X.env.scope.kind == .module && X.env.locals != X.env.globals)) = false := by rw [I.ok.kind]; rfl
  have hiσ : i < σ.length := by rw [I.len]; exact (List.getElem?_eq_some_iff.mp hi).1
  have cne := I.cne
  have tracked : ∀ {a : Addr} {h' : Heap}, (∃ o, s.heap.get? a = some o ∧ H a = none) → Heap.SameBut a s.heap h' → HOk X.prog X.w H h' := fun {a h'} ha hs b ob e => by
    obtain ⟨_, _, hfree⟩ := ha
    refine (I.hok b ob e).stay (fun c w' hc q => (hs.2 c ?_).trans q) (fun _ q => q) fun _ _ q => q
    rintro rfl
    rcases hc with rfl | hc
    · rw [hfree] at e; cases e
    · rw [hfree] at hc; cases hc
  rcases hx with hk | hk
  · refine wpAny_storeName_local hk hn (fun h' hn' hs => ?_) hcls
    obtain ⟨oL, _, _, hoL, _⟩ := id hn
    refine h _ ⟨I.ok, I.os, I.bare, ⟨fun b o e n hb hx => ?_, fun b o e n hb hx => ?_, I.base.free, fun b o e hx => ?_, I.base.tups, I.base.frzs, I.base.tbls⟩, ⟨_, hn', fun j y v' e1 e2 e3 => ?_⟩, fun y c e => ?_, I.free, I.freeC, fun p hp => ?_, tracked ⟨oL, hoL, I.free⟩ hs, by simpa using I.len⟩ ⟨_, hs, .inl rfl⟩
    · exact (hs.2 b (Nat.ne_of_lt (Nat.lt_of_lt_of_le (Heap.lt_size e) I.ok.above))).trans (I.base.keep b o e n hb hx)
    · obtain ⟨sl, e1⟩ := I.base.slot b o e n hb hx
      exact ⟨sl, (hs.2 b (Nat.ne_of_lt (Nat.lt_of_lt_of_le (Heap.lt_size e) I.ok.above))).trans e1⟩
    · obtain ⟨o', e1⟩ := I.base.there b o e hx
      exact ⟨o', (hs.2 b (Nat.ne_of_lt (Nat.lt_of_lt_of_le (Heap.lt_size e) I.ok.above))).trans e1⟩
    · by_cases hj : j = i
      · subst hj
        rw [hi] at e1; cases e1
        rw [List.getElem?_set_self hiσ] at e2
        cases e2
        exact ⟨u, r, .inl ⟨hk, by simp⟩⟩
      · rw [List.getElem?_set_ne (Ne.symm hj)] at e2
        obtain ⟨u', r', q⟩ := hl j y v' e1 e2 e3
        refine ⟨u', r', ?_⟩
        rcases q with ⟨k, e⟩ | ⟨k, c, e, z⟩
        · refine .inl ⟨k, ?_⟩
          have : y ≠ x := fun e => hj (nodup_ix hN e1 (e ▸ hi))
          simp [this, e]
        · exact .inr ⟨k, c, e, z.sameBut hs (cne y c e)⟩
    · obtain ⟨w', z⟩ := I.cell y c e
      exact ⟨w', z.sameBut hs (cne y c e)⟩
    · obtain ⟨e, n, ne, nf, d⟩ := I.pin p hp
      exact ⟨(hs.2 p.1 ne).trans e, n, ne, nf, d⟩
  · have hfn : X.fn x = true := by
      rcases hf with z | z
      · exact z
      · rw [z] at hk; cases hk
    obtain ⟨c, hc⟩ := I.ok.has x (.inl hk)
    obtain ⟨w', z⟩ := I.cell x c hc
    refine wpAny_storeName_cell I.ok.kind hk hc z (fun h' hc' hs => ?_)
    obtain ⟨oc, hoc, hocd⟩ := id z
    refine h { s with heap := h' } ⟨I.ok, I.os, I.bare, ⟨fun b o e n hb hx => ?_, fun b o e n hb hx => ?_, I.base.free, fun b o e hx => ?_, I.base.tups, I.base.frzs, I.base.tbls⟩, ⟨m, hn.sameBut hs (Ne.symm (cne x c hc)), fun j y v' e1 e2 e3 => ?_⟩, fun y c' e => ?_, I.free, I.freeC, fun p hp => ?_, tracked ⟨oc, hoc, I.freeC x c hc⟩ hs, by simpa using I.len⟩ ⟨c, hs, .inr hc⟩
    · exact (hs.2 b (Nat.ne_of_lt (Nat.lt_of_lt_of_le (Heap.lt_size e) (I.ok.cab x c hfn hc)))).trans (I.base.keep b o e n hb hx)
    · obtain ⟨sl, e1⟩ := I.base.slot b o e n hb hx
      exact ⟨sl, (hs.2 b (Nat.ne_of_lt (Nat.lt_of_lt_of_le (Heap.lt_size e) (I.ok.cab x c hfn hc)))).trans e1⟩
    · obtain ⟨o', e1⟩ := I.base.there b o e hx
      exact ⟨o', (hs.2 b (Nat.ne_of_lt (Nat.lt_of_lt_of_le (Heap.lt_size e) (I.ok.cab x c hfn hc)))).trans e1⟩
    · by_cases hj : j = i
      · subst hj
        rw [hi] at e1; cases e1
        rw [List.getElem?_set_self hiσ] at e2
        cases e2
        exact ⟨u, r, .inr ⟨.inl hk, c, hc, hc'⟩⟩
      · rw [List.getElem?_set_ne (Ne.symm hj)] at e2
        obtain ⟨u', r', q⟩ := hl j y v' e1 e2 e3
        refine ⟨u', r', ?_⟩
        rcases q with q | ⟨k, c', e, z'⟩
        · exact .inl q
        · refine .inr ⟨k, c', e, z'.sameBut hs ?_⟩
          rintro rfl
          exact hj (nodup_ix hN e1 (I.ok.inj _ _ _ e hc ▸ hi))
    · by_cases hcc : c' = c
      · subst hcc; exact ⟨_, hc'⟩
      · obtain ⟨w2, z2⟩ := I.cell y c' e
        exact ⟨w2, z2.sameBut hs hcc⟩
    · obtain ⟨e, n, ne, nf, d⟩ := I.pin p hp
      refine ⟨(hs.2 p.1 ?_).trans e, n, ne, nf, d⟩
      intro q
      rw [q, hoc] at e
      have q' : oc = p.2 := Option.some.inj e
      exact d w' (by rw [← q']; exact hocd)
theorem store_ok {M : Model} {A : Around} {E : Value → Shared → Prop} {i : Nat} {x : Str} {v : V} {u : Value} {Q : Unit → Shared → Prop} (I : Inv X pins σ H s) (hN : X.N.Nodup) (hi : X.N[i]? = some x) (hx : Loc X.env.scope x) (r : RelV v u)
    (h : ∀ s', Inv X pins (σ.set i (some v)) H s' → Q () s') (hf : X.fn x = true ∨ X.env.scope.names.lookup x = some .local := by first | exact .inl rfl | exact .inr rfl | assumption) : wpAny M A (storeName X.env x u) Q E s :=
  store_ok2 I hN hi hx r (fun s' I' _ => h s' I') hf
/-- behind a call or a block, the state as it is -/
theorem Inv.call' {s' : Shared} {ch : List Addr} (I : Inv X pins σ H s) (ho : s'.os = s.os) (u : Un (frs X.stack) ch H H' s.heap s'.heap) (hok : HOk X.prog X.w H' s'.heap) (hg : AllBare s'.gens)
    (hch : ∀ b ∈ ch, (b ∈ X.ex ∨ X.s₀.heap.objs.size ≤ b) ∧ b ≠ X.env.locals ∧ (∀ x c, X.env.cells.lookup x = some c → c ≠ b) ∧ ∀ p ∈ X.pn ++ pins, p.1 ≠ b) : Inv X pins σ H' s' := by
  obtain ⟨h', g', d', t', o'⟩ := s'
  have e : o' = s.os := ho
  subst e
  exact I.call (g' := g') (t' := t') (d' := d') u hok hg hch
end

/-- an exception: its class, its own dict's address (where it has one), the abstract heap behind it -/
noncomputable abbrev XK := Value → Option Addr → Hp → Prop
noncomputable abbrev St := List (Option V)
noncomputable abbrev VK := V → Hp → Prop
/-- an expression's reading; a test's; an argument list's -/
noncomputable abbrev TE := St → Hp → VK → Prop
noncomputable abbrev TT := St → Hp → (Bool → Hp → Prop) → Prop
noncomputable abbrev TA := St → Hp → (List V → Hp → Prop) → Prop
/-- what is wanted behind a statement -/
structure Ends where
  nx : St → Hp → Prop
  rt : VK
  bk : St → Hp → Prop := fun _ _ => False
  ct : St → Hp → Prop := fun _ _ => False
noncomputable abbrev TS := Ends → St → Hp → Prop

noncomputable def EP (X : Cx) (pins : List (Addr × Obj)) (σ : St) (Q : VK) (u : Value) (s' : Shared) : Prop := ∃ v H', Inv X pins σ H' s' ∧ RelV v u ∧ Q v H'
noncomputable def TP (X : Cx) (pins : List (Addr × Obj)) (σ : St) (Q : Bool → Hp → Prop) (b : Bool) (s' : Shared) : Prop := ∃ H', Inv X pins σ H' s' ∧ Q b H'
noncomputable def AP (X : Cx) (pins : List (Addr × Obj)) (σ : St) (Q : List V → Hp → Prop) (us : List Value) (s' : Shared) : Prop := ∃ vs H', Inv X pins σ H' s' ∧ Vals vs us ∧ Q vs H'
noncomputable def SP (X : Cx) (pins : List (Addr × Obj)) (D : Ends) (f : Flow) (s' : Shared) : Prop :=
  match f with
  | .next => ∃ σ' H', Inv X pins σ' H' s' ∧ D.nx σ' H'
  | .brk => ∃ σ' H', Inv X pins σ' H' s' ∧ D.bk σ' H'
  | .cont => ∃ σ' H', Inv X pins σ' H' s' ∧ D.ct σ' H'
  | .ret u => ∃ v σ' H', Inv X pins σ' H' s' ∧ RelV v u ∧ D.rt v H'

noncomputable def PE (X : Cx) (e : Expr) (t : TE) : Prop :=
  ∀ (pins : List (Addr × Obj)) (s : Shared) (σ : St) (H : Hp) (Q : VK), Inv X pins σ H s → t σ H Q → wpAny (model X.prog X.w) X.A (eval e X.env) (EP X pins σ Q) X.xe s
noncomputable def PT (X : Cx) (e : Expr) (t : TT) : Prop :=
  ∀ (pins : List (Addr × Obj)) (s : Shared) (σ : St) (H : Hp) (Q : Bool → Hp → Prop), Inv X pins σ H s → t σ H Q → wpAny (model X.prog X.w) X.A (isTrue e X.env (eval e X.env)) (TP X pins σ Q) X.xe s
/-- a test whatever its 'whole' is (and, or) -/
noncomputable def PW (X : Cx) (e : Expr) (t : TT) : Prop :=
  ∀ (whole : Sem Value) (pins : List (Addr × Obj)) (s : Shared) (σ : St) (H : Hp) (Q : Bool → Hp → Prop), Inv X pins σ H s → t σ H Q → wpAny (model X.prog X.w) X.A (isTrue e X.env whole) (TP X pins σ Q) X.xe s
theorem PW.pt {X : Cx} {e : Expr} {t : TT} (h : PW X e t) : PT X e t := h _
/-- an argument list (no star), from the left -/
noncomputable def PA (X : Cx) (es : List Expr) (t : TA) : Prop :=
  ∀ (pos : Pos) (pins : List (Addr × Obj)) (s : Shared) (σ : St) (H : Hp) (Q : List V → Hp → Prop), Inv X pins σ H s → t σ H Q → wpAny (model X.prog X.w) X.A (spliced (backTo pos (starEach es X.env))) (AP X pins σ Q) X.xe s
noncomputable def PS (X : Cx) (st : Stmt) (t : TS) : Prop :=
  ∀ (pins : List (Addr × Obj)) (s : Shared) (σ : St) (H : Hp) (D : Ends), Inv X pins σ H s → t D σ H → wpAny (model X.prog X.w) X.A (exec st X.env) (SP X pins D) X.xe s
noncomputable def PSs (X : Cx) (st : List Stmt) (t : TS) : Prop :=
  ∀ (pins : List (Addr × Obj)) (s : Shared) (σ : St) (H : Hp) (D : Ends), Inv X pins σ H s → t D σ H → wpAny (model X.prog X.w) X.A (execs st X.env) (SP X pins D) X.xe s
/-- weaken the end -/
theorem thn {α : Type} {t : Sem α} {Q Q' : α → Shared → Prop} {M : Model} {A : Around} {E : Value → Shared → Prop} {s : Shared} (h : wpAny M A t Q E s) (hQ : ∀ a s, Q a s → Q' a s) : wpAny M A t Q' E s := wpAny_mono h hQ fun _ _ x => x
end L2

namespace L2
open PySem PySem.Spec PyProof.Rows
section
variable {X : Cx}

noncomputable def tVar (i : Nat) : TE := fun σ H Q => ∃ v, σ[i]? = some (some v) ∧ Q v H
noncomputable def tC (v : V) : TE := fun _ H Q => Q v H
theorem pe_var {i : Nat} {x : Str} {pos : Pos} (hN : X.N[i]? = some x) (hv : Vis X.env.scope x) (hd : (x == ("__debug__" : Str)) = false := by decide) (hcd : (x == ("__classdict__" : Str)) = false := by decide) : PE X (.Name x pos) (tVar i) := by
  intro pins s σ H Q I h
  obtain ⟨v, e, h⟩ := h
  obtain ⟨m, hn, hl⟩ := I.loc
  obtain ⟨u, r, l⟩ := hl i x v hN e hv
  have fin : EP X pins σ Q u s := ⟨v, H, I, r, h⟩
  rcases l with ⟨hk, hm⟩ | ⟨hk, c, hc, hcell⟩
  · exact wpAny_Name (wpAny_loadName_local I.ok.kind hk hn hm fin) hd
  · rcases hk with hk | hk
    · exact wpAny_Name (wpAny_loadName_cell I.ok.kind hk hc hcell fin) hd
    · exact wpAny_Name (wpAny_loadName_free I.ok.kind hk hc hcell fin hcd) hd
theorem pe_int {i j pos} : PE X (.Constant (.int i) j pos) (tC (.int i)) := fun _ _ _ H _ I h => wpAny_Constant_int ⟨.int i, H, I.tok _, ⟨_, rfl⟩, h⟩
theorem pe_bl {b j pos} : PE X (.Constant (.bool b) j pos) (tC (.bl b)) := fun _ _ _ H _ I h => Constant_bool ⟨.bl b, H, I, rfl, h⟩
theorem pe_non {j pos} : PE X (.Constant .none j pos) (tC .non) := fun _ _ _ H _ I h => Constant_none ⟨.non, H, I, rfl, h⟩
theorem pe_str {x j pos} : PE X (.Constant (.str x) j pos) (tC (.str x)) := fun _ _ _ H _ I h => Calls.Constant_str ⟨.str x, H, I.tok _, ⟨_, rfl⟩, h⟩

/-- a global name of the def -/
noncomputable def Gl (X : Cx) (x : Str) : Prop := X.env.kindOf x = some .globalImplicit
theorem ld_glob {E : Value → Shared → Prop} {pins : List (Addr × Obj)} {s : Shared} {σ : St} {H : Hp} {x : Str} {u : Value} {pos : Pos} {Q : Value → Shared → Prop} (I : Inv X pins σ H s) (hg : Gl X x) (hm : X.mg x = some u) (h : Q u s)
    (hd : (x == ("__debug__" : Str)) = false := by decide) : wpAny (model X.prog X.w) X.A (eval (.Name x pos) X.env) Q E s :=
  Calls.Name_function_global I.ok.kind hg (Calls.loadGlobal_global (by rw [I.ok.glob]; exact I.mod.glob.keeps I.bk) hm h) hd
theorem ld_blt {E : Value → Shared → Prop} {pins : List (Addr × Obj)} {s : Shared} {σ : St} {H : Hp} {x : Str} {u : Value} {pos : Pos} {Q : Value → Shared → Prop} (I : Inv X pins σ H s) (hg : Gl X x) (hm : X.mg x = none) (hv : bootBuiltins x = some u) (h : Q u s)
    (hn : x ≠ "__name__" := by decide) (hd : (x == ("__debug__" : Str)) = false := by decide) : wpAny (model X.prog X.w) X.A (eval (.Name x pos) X.env) Q E s := by
  obtain ⟨mb, h1, h2⟩ := I.mod.blt
  exact Calls.Name_function_global I.ok.kind hg (Calls.loadGlobal_builtin (by rw [I.ok.glob]; exact I.mod.glob.keeps I.bk) hm (by rw [I.ok.blt]; exact h1.keeps I.bk) ((h2 x hn).trans hv) h) hd
/-- a module's constant, a class, a function, as a value -/
theorem pe_glob {x : Str} {v : V} {u : Value} {pos : Pos} (hg : Gl X x) (hm : X.mg x = some u) (r : RelV v u) (hd : (x == ("__debug__" : Str)) = false := by decide) : PE X (.Name x pos) (tC v) :=
  fun _ _ _ H _ I h => ld_glob I hg hm ⟨v, H, I, r, h⟩ hd
theorem pe_bltn {x : Str} {v : V} {u : Value} {pos : Pos} (hg : Gl X x) (hm : X.mg x = none) (hv : bootBuiltins x = some u) (r : RelV v u) (hn : x ≠ "__name__" := by decide) (hd : (x == ("__debug__" : Str)) = false := by decide) : PE X (.Name x pos) (tC v) :=
  fun _ _ _ H _ I h => ld_blt I hg hm hv ⟨v, H, I, r, h⟩ hn hd

variable {a b : Expr} {ta tb : TE} {pos : Pos}
noncomputable def PC (X : Cx) (op : CmpOp) (a b : Expr) (t : TE) : Prop :=
  ∀ (pins : List (Addr × Obj)) (s : Shared) (σ : St) (H : Hp) (Q : VK), Inv X pins σ H s → t σ H Q →
    wpAny (model X.prog X.w) X.A (eval a X.env) (fun v s₁ => wpAny (model X.prog X.w) X.A (eval b X.env) (fun u s₂ => wpAny (model X.prog X.w) X.A (compareOp op v u) (EP X pins σ Q) X.xe s₂) X.xe s₁) X.xe s
/-- a comparison as a value, as a test -/
noncomputable def tB (t : TE) : TT := fun σ H Q => t σ H fun x H1 => ∃ c, x = .bl c ∧ Q c H1
theorem pt_cmp {op : CmpOp} {t : TE} (h : PC X op a b t) (h1 : behindInMarks op b = false := by first | exact nobehind _ (by decide) (by decide) | rfl) : PT X (.Compare a [op] [b] pos) (tB t) := by
  intro pins s σ H Q I hw
  refine wpAny_isTrue_Compare1 (thn (h pins s σ H _ I hw) fun v s1 h1 => thn h1 fun u s2 h2 => thn h2 fun c s3 ⟨x, H1, I1, r1, q1⟩ => ?_) h1
  obtain ⟨d, rfl, q⟩ := q1
  cases r1
  exact wpAny_truthy_bool ⟨H1, I1, q⟩
/-- an expression whose value is a bool, as a test -/
theorem pt_val {e : Expr} {t : TE} (h : PE X e t) (he : ∀ whole, isTrue e X.env whole = (do let v ← whole; standAt e.pos; holding [v] (truthy v)) := by intro _; rfl) : PT X e (tB t) := by
  intro pins s σ H Q I hw
  refine isTrue_plain (thn (h pins s σ H _ I hw) fun v s1 ⟨x, H1, I1, r1, q1⟩ => ?_) (he _)
  obtain ⟨d, rfl, q⟩ := q1
  cases r1
  exact wpAny_truthy_bool ⟨H1, I1, q⟩

variable {tA tB' : TT} {rest : List Expr}
noncomputable def tAnd (t u : TT) : TT := fun σ H Q => t σ H fun c H1 => if c = true then u σ H1 Q else Q false H1
noncomputable def tOr (t u : TT) : TT := fun σ H Q => t σ H fun c H1 => if c = true then Q true H1 else u σ H1 Q
noncomputable def tNot (t : TT) : TT := fun σ H Q => t σ H fun c H1 => Q (!c) H1
theorem pw_and1 (ha : PT X a tA) : PW X (.BoolOp .And [a] pos) tA := by
  intro wh pins s σ H Q I h
  refine isTrue_and (thn (ha pins s σ H Q I h) fun c s1 e => ?_)
  cases c with
  | true => exact isTrue_and_nil e
  | false => exact e
theorem pw_or1 (ha : PT X a tA) : PW X (.BoolOp .Or [a] pos) tA := by
  intro wh pins s σ H Q I h
  refine isTrue_or (thn (ha pins s σ H Q I h) fun c s1 e => ?_)
  cases c with
  | false => exact isTrue_or_nil e
  | true => exact e
theorem pw_and (ha : PT X a tA) (hb : PW X (.BoolOp .And (b :: rest) pos) tB') : PW X (.BoolOp .And (a :: b :: rest) pos) (tAnd tA tB') := by
  intro wh pins s σ H Q I h
  refine isTrue_and (thn (ha pins s σ H _ I h) fun c s1 zq8_2 => ?_)
  obtain ⟨H1, I1, q1⟩ := zq8_2
  cases c with
  | true => exact hb wh pins s1 σ H1 Q I1 q1
  | false => exact ⟨H1, I1, q1⟩
theorem pw_or (ha : PT X a tA) (hb : PW X (.BoolOp .Or (b :: rest) pos) tB') : PW X (.BoolOp .Or (a :: b :: rest) pos) (tOr tA tB') := by
  intro wh pins s σ H Q I h
  refine isTrue_or (thn (ha pins s σ H _ I h) fun c s1 zq9_2 => ?_)
  obtain ⟨H1, I1, q1⟩ := zq9_2
  cases c with
  | true => exact ⟨H1, I1, q1⟩
  | false => exact hb wh pins s1 σ H1 Q I1 q1
theorem pt_not (ha : PT X a tA) : PT X (.UnaryOp .Not a pos) (tNot tA) := by
  intro pins s σ H Q I h
  exact isTrue_not (ha pins s σ H (fun c H1 => Q (!c) H1) I h)
/-- .. as values (bools) -/
noncomputable def tAndV (ta tb : TE) : TE := fun σ H Q => ta σ H fun x H1 => ∃ c, x = .bl c ∧ if c = true then tb σ H1 Q else Q (.bl false) H1
theorem pe_one {op} {t : TE} (h : PE X a t) : PE X (.BoolOp op [a] pos) t := fun pins s σ H Q I hw => BoolOp_one (h pins s σ H Q I hw)
theorem pe_and (ha : PE X a ta) (hb : PE X (.BoolOp .And (b :: rest) pos) tb) : PE X (.BoolOp .And (a :: b :: rest) pos) (tAndV ta tb) := by
  intro pins s σ H Q I h
  refine BoolOp_and (thn (ha pins s σ H _ I h) fun v s1 zq10_2 => ?_)
  obtain ⟨x, H1, I1, r1, q1⟩ := zq10_2
  obtain ⟨c, rfl, q1⟩ := q1
  cases r1
  refine wpAny_truthy_bool ?_
  cases c with
  | true => exact hb pins s1 σ H1 Q I1 q1
  | false => exact ⟨.bl false, H1, I1, rfl, q1⟩
/-- a if t else b -/
noncomputable def tIf (t : TT) (ta tb : TE) : TE := fun σ H Q => t σ H fun c H1 => if c = true then ta σ H1 Q else tb σ H1 Q
theorem pe_ifExp {c : Expr} (hc : PT X c tA) (ha : PE X a ta) (hb : PE X b tb) : PE X (.IfExp c a b pos) (tIf tA ta tb) := by
  intro pins s σ H Q I h
  refine wpAny_IfExp (thn (hc pins s σ H _ I h) fun d s1 zq13_2 => ?_)
  obtain ⟨H1, I1, q1⟩ := zq13_2
  cases d with
  | true => exact ha pins s1 σ H1 Q I1 q1
  | false => exact hb pins s1 σ H1 Q I1 q1
end
end L2

namespace L2
open PySem PySem.Spec PyProof.Rows

noncomputable def SqL (K : PySem.W.Frag) (H : Hp) (a : Addr) (xs : List V) : Prop :=
  Rd H a (.lst xs) ∨
    ∃ (o : Obj) (its : Array Value) (n : Nat), K.lookup a = some o ∧ o.cls = .type "list" ∧ o.dict = none ∧ o.data = .seq its n ∧ its.size ≤ sizeLine ∧ Vals xs its.toList
noncomputable def SqT (K : PySem.W.Frag) (H : Hp) (a : Addr) (xs : List V) : Prop :=
  Rd H a (.tup xs) ∨
    ∃ (o : Obj) (its : Array Value) (n : Nat), K.lookup a = some o ∧ o.cls = .type "tuple" ∧ o.data = .seq its n ∧ its.size ≤ sizeLine ∧ Vals xs its.toList
noncomputable def absV : Value → Option V
  | .none => some .non
  | .bool b => some (.bl b)
  | .int i _ => some (.int i)
  | .str x _ => some (.str x)
  | .bytes b _ => some (.byt b)
  | .float b _ => some (.flt b)
  | .ref a => some (.ref a)
  | .type n => some (.ty n)
  | _ => none
theorem RelV.abs {x : V} {u : Value} (r : RelV x u) : absV u = some x := by
  cases x with
  | non => cases r; rfl
  | bl _ => cases r; rfl
  | int _ => obtain ⟨t, rfl⟩ := r; rfl
  | str _ => obtain ⟨t, rfl⟩ := r; rfl
  | byt _ => obtain ⟨t, rfl⟩ := r; rfl
  | flt _ => obtain ⟨t, rfl⟩ := r; rfl
  | ref _ => cases r; rfl
  | ty _ => cases r; rfl
theorem RelV.inj {x y : V} {u : Value} (r : RelV x u) (q : RelV y u) : x = y := Option.some.inj (r.abs.symm.trans q.abs)
theorem Vals.inj : ∀ {xs ys : List V} {us : List Value}, Vals xs us → Vals ys us → xs = ys
  | _, _, _, .nil, .nil => rfl
  | _, _, _, .cons r t, .cons r' t' => by rw [r.inj r', Vals.inj t t']
section
variable {X : Cx} {pins : List (Addr × Obj)} {σ : St} {H : Hp} {s : Shared} {a : Addr} {xs ys : List V}
theorem SqL.of {K : PySem.W.Frag} (h : H a = some (.lst xs)) : SqL K H a xs := .inl (.inl h)
theorem SqT.of {K : PySem.W.Frag} (h : H a = some (.tup xs)) : SqT K H a xs := .inl (.inl h)
theorem Inv.list (I : Inv X pins σ H s) (h : SqL X.K H a xs) : ∃ its : List Value, Vals xs its ∧ PlainL s.heap a its.toArray ∧ xs.length ≤ sizeLine := by
  rcases h with h | ⟨o, its, n, hk, hc, hd, hs, hz, r⟩
  · obtain ⟨z, its, n, r, e⟩ := h.ok I.hok
    exact ⟨its, r, ⟨_, n, e, rfl, rfl, rfl⟩, z⟩
  · refine ⟨its.toList, r, ⟨o, n, I.kIn a o hk, hc, hd, by simpa using hs⟩, ?_⟩
    have e := r.length
    simp only [Array.length_toList] at e
    (first | lia | omega)
theorem Inv.tuple (I : Inv X pins σ H s) (h : SqT X.K H a xs) : ∃ its : List Value, Vals xs its ∧ IsTup s.heap a its.toArray ∧ xs.length ≤ sizeLine := by
  rcases h with h | ⟨o, its, n, hk, hc, hs, hz, r⟩
  · obtain ⟨z, its, r, p⟩ := h.ok I.hok
    exact ⟨its, r, p, z⟩
  · refine ⟨its.toList, r, ⟨o, I.kIn a o hk, hc, n, by simpa using hs⟩, ?_⟩
    have e := r.length
    simp only [Array.length_toList] at e
    (first | lia | omega)
theorem Inv.list_inj (I : Inv X pins σ H s) (h : SqL X.K H a xs) (h' : SqL X.K H a ys) : xs = ys := by
  obtain ⟨its, r, ⟨o, n, e, _, _, d⟩, _⟩ := I.list h
  obtain ⟨its', r', ⟨o', n', e', _, _, d'⟩, _⟩ := I.list h'
  rw [e] at e'; cases e'
  rw [d] at d'
  injection d' with d1 _
  have : its = its' := by simpa using congrArg Array.toList d1
  subst this
  exact r.inj r'
end

noncomputable abbrev Cx.wish (X : Cx) (E : Value → Shared → Prop) : Cx := { X with xe := E }
/-- no exception leaves -/
noncomputable abbrev Cx.nox (X : Cx) : Cx := X.wish fun _ _ => False
theorem Cx.Ok.wish {X : Cx} (ok : X.Ok) (E : Value → Shared → Prop) : (X.wish E).Ok :=
  ⟨ok.mod, ok.kind, ok.glob, ok.blt, ok.above, ok.inj, ok.has, ok.cab, ok.hd, ok.frames, ok.stk, ok.exf, ok.bs, ok.bsz, ok.noex, ok.exfs, ok.funs, ok.frf⟩
theorem Cx.Ok.unwish {X : Cx} {E : Value → Shared → Prop} (ok : (X.wish E).Ok) : X.Ok :=
  ⟨ok.mod, ok.kind, ok.glob, ok.blt, ok.above, ok.inj, ok.has, ok.cab, ok.hd, ok.frames, ok.stk, ok.exf, ok.bs, ok.bsz, ok.noex, ok.exfs, ok.funs, ok.frf⟩
section
variable {X : Cx} {pins : List (Addr × Obj)} {σ : St} {H : Hp} {s : Shared} {E : Value → Shared → Prop}
theorem Inv.wish (I : Inv X pins σ H s) (E : Value → Shared → Prop) : Inv (X.wish E) pins σ H s := ⟨I.ok.wish E, I.os, I.bare, I.base, I.loc, I.cell, I.free, I.freeC, I.pin, I.hok, I.len⟩
theorem Inv.unwish (I : Inv (X.wish E) pins σ H s) : Inv X pins σ H s := ⟨I.ok.unwish, I.os, I.bare, I.base, I.loc, I.cell, I.free, I.freeC, I.pin, I.hok, I.len⟩
theorem SP.unwish {D : Ends} {f : Flow} {s' : Shared} (h : SP (X.wish E) pins D f s') : SP X pins D f s' := by
  cases f with
  | next => obtain ⟨σ', H', I, q⟩ := h; exact ⟨σ', H', I.unwish, q⟩
  | brk => obtain ⟨σ', H', I, q⟩ := h; exact ⟨σ', H', I.unwish, q⟩
  | cont => obtain ⟨σ', H', I, q⟩ := h; exact ⟨σ', H', I.unwish, q⟩
  | ret u => obtain ⟨v, σ', H', I, r, q⟩ := h; exact ⟨v, σ', H', I.unwish, r, q⟩
theorem PSs.nox {st : List Stmt} {t : TS} (h : PSs X.nox st t) : PSs X st t := fun pins s σ H D I hw =>
  wpAny_mono (h pins s σ H D (I.wish _) hw) (fun _ _ q => q.unwish) fun _ _ z => False.elim z
end

section
variable {X : Cx} {st : Stmt} {rest : List Stmt} {t u : TS} {e : Expr} {te : TE} {pos : Pos}
noncomputable def tNext : TS := fun D σ H => D.nx σ H
noncomputable def tSeq (t u : TS) : TS := fun D σ H => t { D with nx := u D } σ H
theorem pss_nil : PSs X [] tNext := fun _ _ σ H _ I h => wpAny_execs_nil ⟨σ, H, I, h⟩
theorem pss_cons (h1 : PS X st t) (h2 : PSs X rest u) : PSs X (st :: rest) (tSeq t u) := by
  intro pins s σ H D I h
  refine wpAny_execs_cons (thn (h1 pins s σ H { D with nx := u D } I h) fun f s1 q => ?_)
  cases f with
  | next =>
    obtain ⟨σ', H', I', q⟩ := q
    exact h2 pins s1 σ' H' D I' q
  | ret v => exact q
  | brk => exact q
  | cont => exact q
theorem pss_one (h1 : PS X st t) : PSs X [st] t := by
  intro pins s σ H D I h
  refine wpAny_execs_cons (thn (h1 pins s σ H D I h) fun f s1 q => ?_)
  cases f with
  | next => exact wpAny_execs_nil q
  | ret v => exact q
  | brk => exact q
  | cont => exact q
/-- in a def's body nothing is shown -/
theorem Inv.quiet {pins : List (Addr × Obj)} {σ : St} {H : Hp} {s : Shared} (I : Inv X pins σ H s) : interactive X.env = false := by simp [interactive, I.ok.kind]
/-- an expression whose value is dropped -/
noncomputable def tDrop (te : TE) : TS := fun D σ H => te σ H fun _ H1 => D.nx σ H1
theorem ps_expr (he : PE X e te) (hs : swapsWith e none pos.line X.env = pure false := by rfl) : PS X (.Expr e pos) (tDrop te) := by
  intro pins s σ H D I h
  exact wpAny_Expr_any (thn (he pins s σ H _ I h) fun v s1 zq16_2 => by obtain ⟨x, H1, I1, r1, q1⟩ := zq16_2; exact ⟨σ, H1, I1, q1⟩) I.quiet hs
noncomputable def tRet (te : TE) : TS := fun D σ H => te σ H D.rt
theorem ps_ret (he : PE X e te) : PS X (.Return (some e) pos) (tRet te) := by
  intro pins s σ H D I h
  exact wpAny_Return_some (thn (he pins s σ H _ I h) fun v s1 zq17_2 => by obtain ⟨x, H1, I1, r1, q1⟩ := zq17_2; exact ⟨x, σ, H1, I1, r1, q1⟩)
noncomputable def tIfS (c : TT) (t u : TS) : TS := fun D σ H => c σ H fun b H1 => if b = true then t D σ H1 else u D σ H1
theorem ps_if {c : Expr} {a b : List Stmt} {tc : TT} (hc : PT X c tc) (ha : PSs X a t) (hb : PSs X b u) : PS X (.If c a b pos) (tIfS tc t u) := by
  intro pins s σ H D I h
  refine wpAny_If (thn (hc pins s σ H _ I h) fun d s1 zq18_2 => ?_)
  obtain ⟨H1, I1, q1⟩ := zq18_2
  cases d with
  | true => exact ha pins s1 σ H1 D I1 q1
  | false => exact hb pins s1 σ H1 D I1 q1
end

noncomputable abbrev TG := V → St → Hp → (St → Hp → Prop) → Prop
noncomputable abbrev TGs := List V → St → Hp → (St → Hp → Prop) → Prop
noncomputable def PG (X : Cx) (target : Expr) (t : TG) : Prop :=
  ∀ (pins : List (Addr × Obj)) (s : Shared) (σ : St) (H : Hp) (v : V) (u : Value) (Q : St → Hp → Prop), Inv X pins σ H s → RelV v u → t v σ H Q →
    wpAny (model X.prog X.w) X.A (assign target X.env u) (fun _ s' => ∃ σ' H', Inv X pins σ' H' s' ∧ Q σ' H') X.xe s
/-- several targets, one after another -/
noncomputable def PGs (X : Cx) (ts : List Expr) (t : TGs) : Prop :=
  ∀ (pins : List (Addr × Obj)) (s : Shared) (σ : St) (H : Hp) (vs : List V) (us : List Value) (Q : St → Hp → Prop), Inv X pins σ H s → Vals vs us → t vs σ H Q →
    wpAny (model X.prog X.w) X.A (assignInOrder ((assignEach ts X.env).map (·.2)) us) (fun _ s' => ∃ σ' H', Inv X pins σ' H' s' ∧ Q σ' H') X.xe s
section
variable {X : Cx} {pos : Pos}
noncomputable def gName (i : Nat) : TG := fun v σ H Q => Q (σ.set i (some v)) H
theorem pg_name {i : Nat} {x : Str} (hN : X.N.Nodup) (hi : X.N[i]? = some x) (hx : Loc X.env.scope x) (hf : X.fn x = true ∨ X.env.scope.names.lookup x = some .local := by first | exact .inl rfl | exact .inr rfl | assumption) : PG X (.Name x pos) (gName i) := by
  intro pins s σ H v u Q I r h
  exact wpAny_assign_Name (store_ok I hN hi hx r (fun s' I' => ⟨_, H, I', h⟩) hf)
noncomputable def gNil : TGs := fun vs σ H Q => vs = [] ∧ Q σ H
noncomputable def gCons (t : TG) (u : TGs) : TGs := fun vs σ H Q => ∃ v r, vs = v :: r ∧ t v σ H fun σ' H' => u r σ' H' Q
theorem pgs_nil : PGs X [] gNil := by
  intro pins s σ H vs us Q I r h
  obtain ⟨e, h⟩ := h
  subst e
  cases r
  exact assignInOrder_nil ⟨σ, H, I, h⟩
theorem pgs_cons {e : Expr} {es : List Expr} {t : TG} {u : TGs} (h1 : PG X e t) (h2 : PGs X es u)
    (hs : (assignEach (e :: es) X.env).map (·.2) = assign e X.env :: (assignEach es X.env).map (·.2) := by rfl) : PGs X (e :: es) (gCons t u) := by
  intro pins s σ H vs us Q I r h
  obtain ⟨v, vr, e1, h⟩ := h
  subst e1
  cases r with
  | cons r rr =>
    rw [hs]
    refine assignInOrder_cons (thn (h1 pins s σ H _ _ _ I r h) fun _ s1 zq19_2 => ?_)
    obtain ⟨σ1, H1, I1, q1⟩ := zq19_2
    exact h2 pins s1 σ1 H1 _ _ Q I1 rr q1
/-- (a, b, ..) = a tuple of that length -/
noncomputable def gTup (K : PySem.W.Frag) (n : Nat) (t : TGs) : TG := fun v σ H Q => ∃ a xs, v = .ref a ∧ SqT K H a xs ∧ xs.length = n ∧ t xs σ H Q
theorem pg_tup {es : List Expr} {k : Nat} {t : TGs} {n : Nat} (hc : X.calm = true) (h : PGs X es t)
    (hn : (assignEach es X.env).length = n := by rfl) (hst : (assignEach es X.env).findIdx? (·.1) = none := by rfl) : PG X (.Tuple es k pos) (gTup X.K n t) := by
  intro pins s σ H v u Q I r hw
  obtain ⟨a, xs, e1, hq, hl, hw⟩ := hw
  subst e1
  cases r
  obtain ⟨its, rv, ht, hz⟩ := I.tuple hq
  refine assign_Tuple_tuple (I.ok.hd hc) ht (by simp [hn, ← hl, rv.length]) hst fun h' hx => ?_
  have I1 : Inv X pins σ H { s with heap := h' } := I.kept (t' := s.toks) fun b o e => hx b o (Nat.ne_of_lt (Heap.lt_size e)) e
  exact h pins _ σ H xs _ Q I1 (by simpa using rv) hw
/-- target = value -/
noncomputable def tAsg (te : TE) (g : TG) : TS := fun D σ H => te σ H fun x H1 => g x σ H1 D.nx
theorem ps_asg {tg e : Expr} {te : TE} {g : TG} (he : PE X e te) (hg : PG X tg g) (hs : swapsWithSole [tg] e pos.line X.env = pure false := by rfl) (hw : swappedStores [tg] e X.env = pure none := by rfl)
    (h1 : (assignEach [tg] X.env).map (·.2) = [assign tg X.env] := by rfl) : PS X (.Assign [tg] e pos) (tAsg te g) := by
  intro pins s σ H D I h
  refine wpAny_Assign_stores (thn (he pins s σ H _ I h) fun v s1 ⟨x, H1, I1, r1, q1⟩ => ?_) hs hw
  rw [h1]
  exact thn (hg pins s1 σ H1 x v _ I1 r1 q1) fun _ s2 q => q
/-- name = value -/
theorem ps_set {i : Nat} {x : Str} {e : Expr} {te : TE} {pos' : Pos} (hN : X.N.Nodup) (hi : X.N[i]? = some x) (hx : Loc X.env.scope x) (he : PE X e te) (hs : swapsWith e (some (.Name x pos')) pos.line X.env = pure false := by rfl) (hf : X.fn x = true ∨ X.env.scope.names.lookup x = some .local := by first | exact .inl rfl | exact .inr rfl | assumption) :
    PS X (.Assign [.Name x pos'] e pos) (tAsg te (gName i)) := by
  intro pins s σ H D I h
  refine wpAny_Assign_Name (thn (he pins s σ H _ I h) fun v s1 ⟨y, H1, I1, r1, q1⟩ => ?_) hs
  exact store_ok I1 hN hi hx r1 (fun s2 I2 => ⟨_, H1, I2, q1⟩) hf
end

section
variable {X : Cx} {pos : Pos}
end

/-- at turn i: it yields x (the heap may grow), or it stops -/
structure It where
  go : Nat → Hp → Prop
  yld : Nat → Hp → V → Hp → Prop
  stop : Nat → Hp → Prop
/-- the iterator's own objects may turn: they are not the frame's, not pinned, younger than the entry (or a comprehension's own) -/
noncomputable def FpOk (X : Cx) (pins : List (Addr × Obj)) (H : Hp) (b : Addr) : Prop :=
  H b = none ∧ b ≠ X.env.locals ∧ b ∉ X.fs ∧ (b ∈ X.ex ∨ X.s₀.heap.objs.size ≤ b) ∧ (∀ x c, X.env.cells.lookup x = some c → c ≠ b) ∧ ∀ p ∈ X.pn ++ pins, p.1 ≠ b
theorem Inv.fpOk {X : Cx} {pins : List (Addr × Obj)} {σ : St} {H H' : Hp} {s : Shared} {b : Addr} (I : Inv X pins σ H s) (hb : s.heap.objs.size ≤ b) (hn : H' b = none) : FpOk X pins H' b := by
  refine ⟨hn, Nat.ne_of_gt (Nat.lt_of_lt_of_le I.lt hb), I.nofs hb, .inr (Nat.le_trans I.sz hb), fun x c e z => ?_, fun p hp z => ?_⟩
  · obtain ⟨v, q⟩ := I.cell x c e
    exact absurd (Nat.lt_of_lt_of_le q.lt (by rw [z]; exact hb)) (Nat.lt_irrefl _)
  · exact absurd (Nat.lt_of_lt_of_le (Heap.lt_size (I.pin p hp).1) (by rw [z]; exact hb)) (Nat.lt_irrefl _)
structure Turn (P : Program) (w : World) (K : PySem.W.Frag) (tg : Expr) (J : It) (fp : List Addr) (it : Addr) (tn : Nat → Heap → Prop) : Prop where
  mem : it ∈ fp
  obj : ∀ i h, tn i h → ∀ b ∈ fp, ∃ o, h.get? b = some o ∧ ∀ v, o.data ≠ .cell v
  keep : ∀ i h h', tn i h → (∀ b ∈ fp, ∀ o, h.get? b = some o → h'.get? b = some o) → tn i h'
  item : ∀ (X : Cx), X.prog = P → X.w = w → X.K = K → X.calm = true → ∀ (i : Nat) (pins : List (Addr × Obj)) (s : Shared) (σ : St) (H : Hp) (E : Value → Shared → Prop), Inv X pins σ H s → (∀ b ∈ fp, FpOk X pins H b) → tn i s.heap → J.go i H →
    wpAny (model P w) X.A (pyNext (.ref it)) (fun r s1 => ∃ u, r = some u ∧
      wpAny (model P w) X.A (letOwnedTupleGo tg (.ref it) u) (fun _ s2 => ∃ x H', Inv X pins σ H' s2 ∧ RelV x u ∧ J.yld i H x H' ∧ tn (i + 1) s2.heap ∧ ∀ b ∈ fp, H' b = none) E s1) E s
  done : ∀ (X : Cx), X.prog = P → X.w = w → X.K = K → X.calm = true → ∀ (i : Nat) (pins : List (Addr × Obj)) (s : Shared) (σ : St) (H : Hp) (E : Value → Shared → Prop), Inv X pins σ H s → (∀ b ∈ fp, FpOk X pins H b) → tn i s.heap → J.stop i H →
    wpAny (model P w) X.A (pyNext (.ref it)) (fun r s1 => r = none ∧ Inv X pins σ H s1) E s
  self : ∀ (A : Around) (i : Nat) (s : Shared) (Q : Value → Shared → Prop) (E : Value → Shared → Prop), tn i s.heap → Q (.ref it) s → wpAny (model P w) A (pyIter (.ref it)) Q E s
noncomputable abbrev TI := St → Hp → (It → Hp → Prop) → Prop
/-- an iterator has come -/
noncomputable def PIE (X : Cx) (pins : List (Addr × Obj)) (σ : St) (tg : Expr) (R : It → Hp → Prop) (itv : Value) (s2 : Shared) : Prop :=
  ∃ (it : Addr) (fp : List Addr) (tn : Nat → Heap → Prop) (J : It) (H' : Hp), itv = .ref it ∧ Inv X pins σ H' s2 ∧ Turn X.prog X.w X.K tg J fp it tn ∧ tn 0 s2.heap ∧ (∀ b ∈ fp, FpOk X pins H' b) ∧ R J H'
noncomputable def PI (X : Cx) (tg iter : Expr) (wi : TI) : Prop :=
  ∀ (pins : List (Addr × Obj)) (s : Shared) (σ : St) (H : Hp) (R : It → Hp → Prop), Inv X pins σ H s → wi σ H R →
    wpAny (model X.prog X.w) X.A (eval iter X.env) (fun v s1 => wpAny (model X.prog X.w) X.A (pyIter v) (PIE X pins σ tg R) X.xe s1) X.xe s

/-- the step ahead of the store is nothing for an iterator that keeps no tuple -/
theorem go_of {M : Model} {A : Around} {E : Value → Shared → Prop} {s : Shared} {tg : Expr} {it : Addr} {u : Value} {o : Obj} {n : String} {vs : Array Value} {Q : Unit → Shared → Prop} (ho : s.heap.get? it = some o) (hc : o.cls = .type n) (hd : o.data = .fields vs)
    (hn : ["enumerate", "zip", "dict_itemiterator", "dict_reverseitemiterator", "odict_iterator", "itertools.zip_longest", "itertools.pairwise"].contains n = false) (hQ : Q () s) : wpAny M A (letOwnedTupleGo tg (.ref it) u) Q E s := by
  unfold letOwnedTupleGo
  cases tg <;> first
    | exact wpAny_pure hQ
    | (cases u <;> first
        | exact wpAny_pure hQ
        | (refine wpAny_bind (wpAny_load ho ?_)
           rw [hc, hd]
           show wpAny M A (if (["enumerate", "zip", "dict_itemiterator", "dict_reverseitemiterator", "odict_iterator", "itertools.zip_longest", "itertools.pairwise"].contains n && vs[0]? == some (rawInt _)) = true then _ else _) Q E s
           rw [if_neg (by intro h; rw [hn, Bool.false_and] at h; cases h)]
           exact wpAny_pure hQ))

/-- the list at a, as it stands at each turn (a loop may append to it) -/
noncomputable def Itl (K : PySem.W.Frag) (a : Addr) : It :=
  ⟨fun i H => ∃ xs x, SqL K H a xs ∧ xs[i]? = some x, fun i H x H' => H' = H ∧ ∀ xs, SqL K H a xs → xs[i]? = some x, fun i H => ∃ xs, SqL K H a xs ∧ xs.length ≤ i⟩
/-- lo, lo + 1, .. (n of them) -/
noncomputable def Itr (lo : Int) (n : Nat) : It := ⟨fun i _ => i < n, fun i H x H' => H' = H ∧ x = .int (lo + i), fun i _ => n ≤ i⟩
theorem turn_list {P : Program} {w : World} {K : PySem.W.Frag} {tg : Expr} (a it : Addr) : Turn P w K tg (Itl K a) [it] it (fun i h => h.IsListIter it a i) where
  mem := by simp
  obj := fun i h st b hb => by
    have e : b = it := by simpa using hb
    subst e
    obtain ⟨o, e, c, d⟩ := st
    exact ⟨o, e, fun v z => by rw [d] at z; cases z⟩
  keep := fun i h h' st k => st.at fun o e => k it (by simp) o e
  item := by
    intro X hP hw hK hc i pins s σ H E I hf st hg
    subst hP hw hK
    obtain ⟨xs, x, hq, hx⟩ := hg
    obtain ⟨its, rv, p, hz⟩ := I.list hq
    obtain ⟨u, hu, ru⟩ := rv.get hx
    obtain ⟨f0, f1, f2, f3, f4, f5⟩ := hf it (by simp)
    refine wpAny_pyNext_list_item st p.isList (x := u) (by simpa using hu) fun h' st' sb => ?_
    have I1 : Inv X pins σ H { s with heap := h' } := I.turned (t' := s.toks) (fun b o hb e => (sb.2 b hb).trans e) f0 f1 f3 f4 f5
    obtain ⟨o, e, c, d⟩ := id st'
    exact ⟨u, rfl, go_of (s := { s with heap := h' }) e c d (by decide) ⟨x, H, I1, ru, ⟨rfl, fun ys hy => by rw [I.list_inj hy hq]; exact hx⟩, st', fun b hb => (hf b hb).1⟩⟩
  done := by
    intro X hP hw hK hc i pins s σ H E I hf st hg
    subst hP hw hK
    obtain ⟨xs, hq, hx⟩ := hg
    obtain ⟨its, rv, p, hz⟩ := I.list hq
    obtain ⟨f0, f1, f2, f3, f4, f5⟩ := hf it (by simp)
    have hl := rv.length
    exact wpAny_pyNext_list_end (I.ok.hd hc) st p.isList (by simp; (first | lia | omega)) fun h' eb => ⟨rfl, I.turned (t' := s.toks) (fun b o hb e => eb b o hb e) f0 f1 f3 f4 f5⟩
  self := fun _ _ _ _ _ st h => wpAny_pyIter_listiter st h
theorem turn_range {P : Program} {w : World} {K : PySem.W.Frag} {tg : Expr} (it : Addr) (lo : Int) (n : Nat) : Turn P w K tg (Itr lo n) [it] it (fun i h => IsRangeIter h it (lo + (i : Nat) * 1) ((n : Int) - (i : Nat)) 1) where
  mem := by simp
  obj := fun i h st b hb => by
    have e : b = it := by simpa using hb
    subst e
    exact ⟨_, st, fun v z => by
      have z' : Data.fields _ = Data.cell v := z
      cases z'⟩
  keep := fun i h h' st k => k it (by simp) _ st
  item := by
    intro X hP hw hK hc i pins s σ H E I hf st hg
    subst hP hw hK
    obtain ⟨f0, f1, f2, f3, f4, f5⟩ := hf it (by simp)
    have W := Walks.range (prog := X.prog) (w := X.w) (I.ok.hd hc) it lo 1 n
    refine W.item i s _ _ hg st fun v h' tk hv st' kk => ?_
    obtain ⟨t, rfl⟩ := hv
    have I1 : Inv X pins σ H { s with heap := h', toks := tk } := I.turned (fun b o hb e => kk b o (by simpa using hb) e) f0 f1 f3 f4 f5
    refine ⟨_, rfl, go_of (s := { s with heap := h', toks := tk }) (n := "range_iterator") st' rfl rfl (by decide) ⟨.int (lo + i), H, I1, ⟨t, ?_⟩, ⟨rfl, rfl⟩, st', fun b hb => (hf b hb).1⟩⟩
    rw [Int.mul_one]
  done := by
    intro X hP hw hK hc i pins s σ H E I hf st hg
    subst hP hw hK
    obtain ⟨f0, f1, f2, f3, f4, f5⟩ := hf it (by simp)
    exact wpAny_pyNext_range_end (I.ok.hd hc) st (by have : n ≤ i := hg; (first | lia | omega)) fun h' eb => ⟨rfl, I.turned (t' := s.toks) (fun b o hb e => eb b o hb e) f0 f1 f3 f4 f5⟩
  self := fun _ _ _ _ _ st h => wpAny_pyIter_rangeiter st h
end L2

namespace L2
open PySem PySem.Spec PyProof.Rows
section
variable {X : Cx} {tg : Expr}
noncomputable def iList (K : PySem.W.Frag) (tl : TE) : TI := fun σ H R => tl σ H fun x H1 => ∃ a, x = .ref a ∧ (∃ xs, SqL K H1 a xs) ∧ R (Itl K a) H1
theorem pi_list {l : Expr} {tl : TE} (hl : PE X l tl) : PI X tg l (iList X.K tl) := by
  intro pins s σ H R I h
  refine thn (hl pins s σ H _ I h) fun v s1 zq35_2 => ?_
  obtain ⟨x, H1, I1, r1, q1⟩ := zq35_2
  obtain ⟨a, e, ⟨xs, hq⟩, q⟩ := q1
  subst e
  cases r1
  obtain ⟨its, rv, p, hz⟩ := I1.list hq
  refine wpAny_pyIter_list p.isList ?_
  refine ⟨s1.heap.objs.size, [s1.heap.objs.size], _, _, H1, rfl, I1.kept (t' := s1.toks) fun b o e => Heap.get?_push_of_some _ e, turn_list a _, ⟨_, Heap.get?_push_size _ rfl, rfl, rfl⟩, fun b hb => ?_, q⟩
  have e : b = s1.heap.objs.size := by simpa using hb
  subst e
  exact I1.fpOk (Nat.le_refl _) (I1.hok.fresh (Nat.le_refl _))
/-- a range object just made, walked -/
theorem range_it {pins : List (Addr × Obj)} {σ : St} {H : Hp} {s : Shared} {R : It → Hp → Prop} {E : Value → Shared → Prop} {lo hi : Int} {t u v : Tok} {tk : Nat} (I : Inv X pins σ H s) (h1 : -(2 ^ 62) ≤ lo) (h2 : lo < 2 ^ 62) (h3 : -(2 ^ 62) ≤ hi) (h4 : hi < 2 ^ 62)
    (q : R (Itr lo (hi - lo).toNat) H) : wpAny (model X.prog X.w) X.A (pyIter (.ref s.heap.objs.size)) (PIE X pins σ tg R) E { s with heap := s.heap.push { cls := .type "range", data := .fields #[.int lo t, .int hi u, .int 1 v] }, toks := tk } := by
  refine wpAny_pyIter_range (IsRange.new ..) (small_one h1 h2 h3 h4) ?_
  have I1 : Inv X pins σ H { s with heap := s.heap.push { cls := .type "range", data := .fields #[.int lo t, .int hi u, .int 1 v] }, toks := tk } := I.kept fun b o e => Heap.get?_push_of_some _ e
  refine ⟨(s.heap.push { cls := .type "range", data := .fields #[.int lo t, .int hi u, .int 1 v] }).objs.size, [(s.heap.push { cls := .type "range", data := .fields #[.int lo t, .int hi u, .int 1 v] }).objs.size], _, _, H, rfl,
    I1.kept (t' := tk) fun b o e => Heap.get?_push_of_some _ e, turn_range _ lo (hi - lo).toNat, ?_, fun b hb => ?_, q⟩
  · have e1 : lo + ((0 : Nat) : Int) * 1 = lo := by simp
    have e2 : (((hi - lo).toNat : Nat) : Int) - ((0 : Nat) : Int) = Builtin.Range.rangeSize lo hi 1 := by rw [rangeSize_one]; split <;> (first | lia | omega)
    show IsRangeIter _ _ (lo + ((0 : Nat) : Int) * 1) ((((hi - lo).toNat : Nat) : Int) - ((0 : Nat) : Int)) 1
    rw [e1, e2]
    exact Heap.get?_push_size _ rfl
  · have e : b = (s.heap.push { cls := .type "range", data := .fields #[.int lo t, .int hi u, .int 1 v] }).objs.size := by simpa using hb
    subst e
    exact I1.fpOk (Nat.le_refl _) (I1.hok.fresh (Nat.le_refl _))
noncomputable def iRng1 (ta : TA) : TI := fun σ H R => ta σ H fun vs H1 => ∃ j : Int, vs = [.int j] ∧ -(2 ^ 62) ≤ j ∧ j < 2 ^ 62 ∧ R (Itr 0 j.toNat) H1
noncomputable def iRng2 (ta : TA) : TI := fun σ H R => ta σ H fun vs H1 => ∃ i j : Int, vs = [.int i, .int j] ∧ (-(2 ^ 62) ≤ i ∧ i < 2 ^ 62 ∧ -(2 ^ 62) ≤ j ∧ j < 2 ^ 62) ∧ R (Itr i (j - i).toNat) H1
theorem pi_range1 {a : Expr} {ta : TA} {p pos : Pos} (hg : Gl X "range") (hm : X.mg "range" = none) (ha : PA X [a] ta) (hs : starEach [a] X.env = [(false, eval a X.env)] := by rfl) : PI X tg (.Call (.Name "range" p) [a] [] pos) (iRng1 ta) := by
  intro pins s σ H R I h
  refine Call_ (ld_blt I hg hm boot_range (PyProof.Rows.callWith_type1 (thn (ha pos pins s σ H _ I h) fun us s1 ⟨vs, H1, I1, r1, q1⟩ => ?_) hs rfl))
  obtain ⟨j, e, q1, q2, q⟩ := q1
  subst e
  cases r1 with
  | cons r rr =>
    cases rr
    obtain ⟨t, rfl⟩ := r
    exact call_range_1 (range_it I1 (by (first | lia | omega)) (by (first | lia | omega)) q1 q2 (by simpa using q))
theorem pi_range2 {a b : Expr} {ta : TA} {p pos : Pos} (hg : Gl X "range") (hm : X.mg "range" = none) (ha : PA X [a, b] ta) (hs : starEach [a, b] X.env = [(false, eval a X.env), (false, eval b X.env)] := by rfl) (hs2 : starEach [b] X.env = [(false, eval b X.env)] := by rfl) :
    PI X tg (.Call (.Name "range" p) [a, b] [] pos) (iRng2 ta) := by
  intro pins s σ H R I h
  refine Call_ (ld_blt I hg hm boot_range (PyProof.Rows.callWith_type1 (thn (ha pos pins s σ H _ I h) fun us s1 ⟨vs, H1, I1, r1, q1⟩ => ?_) (by rw [hs, hs2]) (by rw [hs2]; rfl)))
  obtain ⟨i, j, e, ⟨q1, q2, q3, q4⟩, q⟩ := q1
  subst e
  cases r1 with
  | cons r rr =>
    cases rr with
    | cons r' rr =>
      cases rr
      obtain ⟨t, rfl⟩ := r
      obtain ⟨t', rfl⟩ := r'
      exact call_range_2 (range_it I1 q1 q2 q3 q4 q)

/-- W: the invariant by the turn and a measure; N: what the body is to reach -/
noncomputable def tFor (wi : TI) (g : TG) (tb : TS) : TS := fun D σ H => wi σ H fun J H1 => ∃ W : Nat → Nat → St → Hp → Prop, (∃ m, W 0 m σ H1) ∧ ∀ i m σ H, W i m σ H →
  (J.stop i H ∧ D.nx σ H) ∨ (J.go i H ∧ ∃ N : St → Hp → Prop, (∀ σ' H', N σ' H' → ∃ m', m' < m ∧ W (i + 1) m' σ' H') ∧ ∀ x H', J.yld i H x H' → g x σ H' fun σ2 H2 => tb { D with nx := N, ct := N, bk := D.nx } σ2 H2)
/-- the records at fp as they stand -/
noncomputable def pinsAt (fp : List Addr) (h : Heap) : List (Addr × Obj) := fp.filterMap fun b => (h.get? b).map fun o => (b, o)
theorem mem_pinsAt {fp : List Addr} {h : Heap} {b : Addr} {o : Obj} (hb : b ∈ fp) (e : h.get? b = some o) : (b, o) ∈ pinsAt fp h := List.mem_filterMap.mpr ⟨b, hb, by rw [e]; rfl⟩
theorem of_pinsAt {fp : List Addr} {h : Heap} {p : Addr × Obj} (hp : p ∈ pinsAt fp h) : p.1 ∈ fp ∧ h.get? p.1 = some p.2 := by
  obtain ⟨b, hb, e⟩ := List.mem_filterMap.mp hp
  cases q : h.get? b with
  | none => rw [q] at e; cases e
  | some o =>
    rw [q] at e
    have e' : (b, o) = p := Option.some.inj e
    subst e'
    exact ⟨hb, q⟩
theorem Inv.pinned {pins : List (Addr × Obj)} {σ : St} {H : Hp} {s : Shared} {fp : List Addr} (I : Inv X pins σ H s) (hf : ∀ b ∈ fp, FpOk X pins H b) (ho : ∀ b ∈ fp, ∃ o, s.heap.get? b = some o ∧ ∀ v, o.data ≠ .cell v) : Inv X (pins ++ pinsAt fp s.heap) σ H s :=
  I.pins_of fun p hp => (List.mem_append.mp hp).elim (fun z => I.pin p (List.mem_append_right _ z)) fun z => by
    obtain ⟨hb, e⟩ := of_pinsAt z
    obtain ⟨f0, f1, f2, _⟩ := hf p.1 hb
    obtain ⟨o, e', d⟩ := ho p.1 hb
    rw [e] at e'; cases e'
    exact ⟨e, f0, f1, f2, d⟩
theorem Inv.unpinned {pins pl : List (Addr × Obj)} {σ : St} {H : Hp} {s : Shared} (I : Inv X (pins ++ pl) σ H s) : Inv X pins σ H s := I.pins_of fun p hp => I.pin p (List.mem_append_right _ (List.mem_append_left _ hp))
theorem ps_for {iter : Expr} {body : List Stmt} {wi : TI} {g : TG} {tb : TS} {pos : Pos} (hp : PassesOwn (model X.prog X.w) X.A X.env X.xe) (hc : X.calm = true) (hi : PI X tg iter wi) (hg : PG X tg g) (hb : PSs X body tb)
    (hs : ∀ x, foldedSetIterable iter X.env x = pure x := by intro _; rfl) : PS X (.For tg iter body [] pos) (tFor wi g tb) := by
  intro pins s σ H D I h
  refine wpAny_For (thn (hi pins s σ H _ I h) fun v s1 h1 => thn h1 fun itv s2 h2 => ?_) hs
  obtain ⟨it, fp, tn, J, H2, e, I2, T, st2, f2, W, ⟨m0, w0⟩, turn⟩ := h2
  subst e
  -- what stays true of the iterator's objects through the loop
  have stat : ∀ {H' : Hp}, (∀ b ∈ fp, H' b = none) → ∀ b ∈ fp, FpOk X pins H' b := fun hn b hb => ⟨hn b hb, (f2 b hb).2⟩
  refine codeAny_forLoop_any (fun n s' => ∃ i σ' H', Inv X pins σ' H' s' ∧ tn i s'.heap ∧ (∀ b ∈ fp, H' b = none) ∧ W i n σ' H') ?_ m0 ⟨0, σ, H2, I2, st2, fun b hb => (f2 b hb).1, w0⟩
  rintro n s3 ⟨i, σ3, H3, I3, st3, fr3, w3⟩
  rcases turn i n σ3 H3 w3 with ⟨stop, qn⟩ | ⟨go, N, hN, step⟩
  · refine wpAny_passesOwn hp (thn (T.done X rfl rfl rfl hc i pins s3 σ3 H3 X.xe I3 (stat fr3) st3 stop) fun r s4 zq39_2 => ?_)
    obtain ⟨hr, I4⟩ := zq39_2
    subst hr
    exact wpAny_execs_nil ⟨σ3, H3, I4, qn⟩
  · refine wpAny_passesOwn hp (thn (T.item X rfl rfl rfl hc i pins s3 σ3 H3 X.xe I3 (stat fr3) st3 go) fun r s4 zq40_2 => ?_)
    obtain ⟨u, hr, h4⟩ := zq40_2
    subst hr
    refine wpAny_passesOwn hp (thn h4 fun _ s5 zq41_2 => ?_)
    obtain ⟨x, H5, I5, r5, y5, st5, fr5⟩ := zq41_2
    have I5' := I5.pinned (stat fr5) (T.obj _ _ st5)
    refine wpAny_passesOwn hp (thn (hg _ s5 σ3 H5 x u _ I5' r5 (step x H5 y5)) fun _ s6 zq42_2 => ?_)
    obtain ⟨σ6, H6, I6, q6⟩ := zq42_2
    refine wpAny_passesOwn hp (thn (hb _ s6 σ6 H6 _ I6 q6) fun f s7 q7 => ?_)
    have again : ∀ {σ7 : St} {H7 : Hp}, Inv X (pins ++ pinsAt fp s5.heap) σ7 H7 s7 → N σ7 H7 → ∃ m, m < n ∧ ∃ i σ' H', Inv X pins σ' H' s7 ∧ tn i s7.heap ∧ (∀ b ∈ fp, H' b = none) ∧ W i m σ' H' := fun {σ7 H7} I7 n7 => by
      obtain ⟨m', hm, w7⟩ := hN σ7 H7 n7
      refine ⟨m', hm, i + 1, σ7, H7, I7.unpinned, T.keep _ _ _ st5 fun b hb o e => (I7.pin (b, o) (List.mem_append_right _ (List.mem_append_right _ (mem_pinsAt hb e)))).1, fun b hb => ?_, w7⟩
      obtain ⟨o, e, d⟩ := T.obj _ _ st5 b hb
      exact (I7.pin (b, o) (List.mem_append_right _ (List.mem_append_right _ (mem_pinsAt hb e)))).2.1
    cases f with
    | next => obtain ⟨σ7, H7, I7, n7⟩ := q7; exact again I7 n7
    | cont => obtain ⟨σ7, H7, I7, n7⟩ := q7; exact again I7 n7
    | brk => obtain ⟨σ7, H7, I7, q7⟩ := q7; exact ⟨σ7, H7, I7.unpinned, q7⟩
    | ret v => obtain ⟨x7, σ7, H7, I7, r7, q7⟩ := q7; exact ⟨x7, σ7, H7, I7.unpinned, r7, q7⟩
end

/-- over a list that the body leaves as it is -/
theorem for_list {K : PySem.W.Frag} {a : Addr} {xs : List V} {g : TG} {tb : TS} {D : Ends} {σ : St} {H : Hp} (Pv : Nat → St → Hp → Prop) (h0 : Pv 0 σ H) (hl : ∀ i σ H, i ≤ xs.length → Pv i σ H → SqL K H a xs)
    (hs : ∀ i x σ H, xs[i]? = some x → Pv i σ H → g x σ H fun σ2 H2 => tb { D with nx := Pv (i + 1), ct := Pv (i + 1), bk := D.nx } σ2 H2) (hd : ∀ σ H, Pv xs.length σ H → D.nx σ H) :
    ∃ W : Nat → Nat → St → Hp → Prop, (∃ m, W 0 m σ H) ∧ ∀ i m σ H, W i m σ H →
      ((Itl K a).stop i H ∧ D.nx σ H) ∨ ((Itl K a).go i H ∧ ∃ N : St → Hp → Prop, (∀ σ' H', N σ' H' → ∃ m', m' < m ∧ W (i + 1) m' σ' H') ∧ ∀ x H', (Itl K a).yld i H x H' → g x σ H' fun σ2 H2 => tb { D with nx := N, ct := N, bk := D.nx } σ2 H2) := by
  refine ⟨fun i m σ H => m = xs.length - i ∧ i ≤ xs.length ∧ Pv i σ H, ⟨xs.length, by simp, Nat.zero_le _, h0⟩, ?_⟩
  rintro i m σ H ⟨rfl, hi, p⟩
  have q := hl i σ H hi p
  by_cases hlt : i < xs.length
  · refine .inr ⟨⟨xs, xs[i], q, by simp [hlt]⟩, Pv (i + 1), fun σ' H' p' => ⟨xs.length - (i + 1), by (first | lia | omega), rfl, hlt, p'⟩, fun x H' y => ?_⟩
    obtain ⟨e, y⟩ := y
    subst e
    exact hs i x σ _ (y xs q) p
  · have e : i = xs.length := by (first | lia | omega)
    subst e
    exact .inl ⟨⟨xs, q, Nat.le_refl _⟩, hd σ H p⟩
theorem for_range {lo : Int} {n : Nat} {g : TG} {tb : TS} {D : Ends} {σ : St} {H : Hp} (Pv : Nat → St → Hp → Prop) (h0 : Pv 0 σ H)
    (hs : ∀ i σ H, i < n → Pv i σ H → g (.int (lo + i)) σ H fun σ2 H2 => tb { D with nx := Pv (i + 1), ct := Pv (i + 1), bk := D.nx } σ2 H2) (hd : ∀ σ H, Pv n σ H → D.nx σ H) :
    ∃ W : Nat → Nat → St → Hp → Prop, (∃ m, W 0 m σ H) ∧ ∀ i m σ H, W i m σ H →
      ((Itr lo n).stop i H ∧ D.nx σ H) ∨ ((Itr lo n).go i H ∧ ∃ N : St → Hp → Prop, (∀ σ' H', N σ' H' → ∃ m', m' < m ∧ W (i + 1) m' σ' H') ∧ ∀ x H', (Itr lo n).yld i H x H' → g x σ H' fun σ2 H2 => tb { D with nx := N, ct := N, bk := D.nx } σ2 H2) := by
  refine ⟨fun i m σ H => m = n - i ∧ i ≤ n ∧ Pv i σ H, ⟨n, by simp, Nat.zero_le _, h0⟩, ?_⟩
  rintro i m σ H ⟨rfl, hi, p⟩
  by_cases hlt : i < n
  · refine .inr ⟨hlt, Pv (i + 1), fun σ' H' p' => ⟨n - (i + 1), by (first | lia | omega), rfl, hlt, p'⟩, fun x H' y => ?_⟩
    obtain ⟨e, y⟩ := y
    subst e y
    exact hs i σ _ hlt p
  · have e : i = n := by (first | lia | omega)
    subst e
    exact .inl ⟨Nat.le_refl _, hd σ H p⟩
end L2

namespace L2
open PySem PySem.Spec PyProof.Rows

noncomputable abbrev R2 := V → V → Hp → VK → Prop
/-- a two-place operation on values: f is binaryOp op, inplaceOp op or compareOp op -/
noncomputable def OpR (X : Cx) (f : Value → Value → Sem Value) (r : R2) : Prop :=
  ∀ (pins : List (Addr × Obj)) (s : Shared) (σ : St) (H : Hp) (x y : V) (v u : Value) (Q : VK), Inv X pins σ H s → RelV x v → RelV y u → r x y H Q →
    wpAny (model X.prog X.w) X.A (f v u) (EP X pins σ Q) X.xe s
/-- a one-place operation -/
noncomputable def UnR (X : Cx) (f : Value → Sem Value) (r : V → Hp → VK → Prop) : Prop :=
  ∀ (pins : List (Addr × Obj)) (s : Shared) (σ : St) (H : Hp) (x : V) (v : Value) (Q : VK), Inv X pins σ H s → RelV x v → r x H Q →
    wpAny (model X.prog X.w) X.A (f v) (EP X pins σ Q) X.xe s
/-- a call of a value that is known (a builtin, a type) with values -/
noncomputable def CallR (X : Cx) (f : Value) (r : List V → Hp → VK → Prop) : Prop :=
  ∀ (pins : List (Addr × Obj)) (s : Shared) (σ : St) (H : Hp) (xs : List V) (us : List Value) (Q : VK), Inv X pins σ H s → Vals xs us → r xs H Q →
    wpAny (model X.prog X.w) X.A (call f us) (EP X pins σ Q) X.xe s
noncomputable def tOp (r : R2) (ta tb : TE) : TE := fun σ H Q => ta σ H fun x H1 => tb σ H1 fun y H2 => r x y H2 Q
noncomputable def tUn (r : V → Hp → VK → Prop) (ta : TE) : TE := fun σ H Q => ta σ H fun x H1 => r x H1 Q
/-- ints in, under C, and a value out -/
noncomputable def rI (C : Int → Int → Prop) (g : Int → Int → V) : R2 := fun x y H Q => ∃ i j, x = .int i ∧ y = .int j ∧ C i j ∧ Q (g i j) H
noncomputable def rI0 (g : Int → Int → V) : R2 := fun x y H Q => ∃ i j, x = .int i ∧ y = .int j ∧ Q (g i j) H
noncomputable def rU (g : Int → V) : V → Hp → VK → Prop := fun x H Q => ∃ i, x = .int i ∧ Q (g i) H

section
variable {X : Cx} {a b c : Expr} {ta tb tc : TE} {pos : Pos}

theorem binT (ha : PE X a ta) (hb : PE X b tb) {pins : List (Addr × Obj)} {s : Shared} {σ : St} {H : Hp} {R : V → V → Hp → Prop} (I : Inv X pins σ H s)
    (h : ta σ H fun x H1 => tb σ H1 fun y H2 => R x y H2) {Q : Value → Shared → Prop} {f : Value → Value → Sem Value}
    (hf : ∀ v u s2 x y H2, Inv X pins σ H2 s2 → RelV x v → RelV y u → R x y H2 → wpAny (model X.prog X.w) X.A (f v u) Q X.xe s2) :
    wpAny (model X.prog X.w) X.A (eval a X.env) (fun v s₁ => wpAny (model X.prog X.w) X.A (eval b X.env) (fun u s₂ => wpAny (model X.prog X.w) X.A (f v u) Q X.xe s₂) X.xe s₁) X.xe s := by
  refine thn (ha pins s σ H _ I h) fun v s1 zq44_2 => ?_
  obtain ⟨x, H1, I1, r1, q1⟩ := zq44_2
  refine thn (hb pins s1 σ H1 _ I1 q1) fun u s2 zq45_2 => ?_
  obtain ⟨y, H2, I2, r2, q2⟩ := zq45_2
  exact hf v u s2 x y H2 I2 r1 r2 q2

theorem pe_op {op : Operator} {r : R2} (ho : OpR X (binaryOp op) r) (ha : PE X a ta) (hb : PE X b tb) : PE X (.BinOp a op b pos) (tOp r ta tb) := by
  intro pins s σ H Q I h
  exact wpAny_BinOp (binT ha hb I h fun v u s2 x y H2 I2 rx ry q => ho pins s2 σ H2 x y v u Q I2 rx ry q)
theorem pe_un {op : UnaryOp} {r : V → Hp → VK → Prop} (ho : UnR X (unaryOp op) r) (ha : PE X a ta) : PE X (.UnaryOp op a pos) (tUn r ta) := by
  intro pins s σ H Q I h
  exact UnaryOp_ (thn (ha pins s σ H _ I h) fun v s1 zq46_2 => by obtain ⟨x, H1, I1, r1, q1⟩ := zq46_2; exact ho pins s1 σ H1 x v Q I1 r1 q1)
theorem opI {f : Value → Value → Sem Value} {C : Int → Int → Prop} {g : Int → Int → Int}
    (rule : ∀ (i j : Int) (t u : Tok) (s : Shared) (Q : Value → Shared → Prop) (E : Value → Shared → Prop), C i j → Q (.int (g i j) s.toks) { s with toks := s.toks + 1 } → wpAny (model X.prog X.w) X.A (f (.int i t) (.int j u)) Q E s) :
    OpR X f (rI C fun i j => .int (g i j)) := by
  intro pins s σ H x y v u Q I rx ry h
  obtain ⟨i, j, rfl, rfl, hc, q⟩ := h
  obtain ⟨t, rfl⟩ := rx
  obtain ⟨t', rfl⟩ := ry
  exact rule i j t t' s _ _ hc ⟨.int (g i j), H, I.tok _, ⟨_, rfl⟩, q⟩
theorem opI0 {f : Value → Value → Sem Value} {g : Int → Int → Int}
    (rule : ∀ (i j : Int) (t u : Tok) (s : Shared) (Q : Value → Shared → Prop) (E : Value → Shared → Prop), Q (.int (g i j) s.toks) { s with toks := s.toks + 1 } → wpAny (model X.prog X.w) X.A (f (.int i t) (.int j u)) Q E s) :
    OpR X f (rI0 fun i j => .int (g i j)) := by
  intro pins s σ H x y v u Q I rx ry h
  obtain ⟨i, j, rfl, rfl, q⟩ := h
  obtain ⟨t, rfl⟩ := rx
  obtain ⟨t', rfl⟩ := ry
  exact rule i j t t' s _ _ ⟨.int (g i j), H, I.tok _, ⟨_, rfl⟩, q⟩
theorem opB0 {f : Value → Value → Sem Value} {g : Int → Int → Bool}
    (rule : ∀ (i j : Int) (t u : Tok) (s : Shared) (Q : Value → Shared → Prop) (E : Value → Shared → Prop), Q (.bool (g i j)) s → wpAny (model X.prog X.w) X.A (f (.int i t) (.int j u)) Q E s) :
    OpR X f (rI0 fun i j => .bl (g i j)) := by
  intro pins s σ H x y v u Q I rx ry h
  obtain ⟨i, j, rfl, rfl, q⟩ := h
  obtain ⟨t, rfl⟩ := rx
  obtain ⟨t', rfl⟩ := ry
  exact rule i j t t' s _ _ ⟨.bl (g i j), H, I, rfl, q⟩

noncomputable def CDiv (i j : Int) : Prop := 0 < j ∧ j < 1073741824
noncomputable def CPow (i j : Int) : Prop := 0 ≤ j ∧ j ≤ 1000000 ∧ i.natAbs < 2 ^ 64
noncomputable def CMul (i j : Int) : Prop := (-(2 ^ 64) < i ∧ i < 2 ^ 64) ∨ (-(2 ^ 64) < j ∧ j < 2 ^ 64)
theorem CMul.ok {i j : Int} (h : CMul i j) : IntMulOk i j := by
  rcases h with ⟨h1, h2⟩ | ⟨h1, h2⟩
  · exact .of_left (intBits_le_64 h1 h2)
  · exact .of_right (intBits_le_64 h1 h2)
theorem op_add : OpR X (binaryOp .Add) (rI0 fun i j => .int (i + j)) := opI0 fun _ _ _ _ _ _ _ q => add_int q
theorem op_sub : OpR X (binaryOp .Sub) (rI0 fun i j => .int (i - j)) := opI0 fun _ _ _ _ _ _ _ q => sub_int q
theorem op_mul : OpR X (binaryOp .Mult) (rI CMul fun i j => .int (i * j)) := opI fun _ _ _ _ _ _ _ hc q => mul_int q hc.ok
/-- // by a positive divisor -/
theorem op_fdiv : OpR X (binaryOp .FloorDiv) (rI CDiv fun i j => .int (i / j)) := opI fun i j _ _ _ _ _ hc q => by
  have h1 : (0 : Int) < j := hc.1
  have h2 : j < 1073741824 := hc.2
  exact floordiv_int (by (first | lia | omega)) (by rw [Int.fdiv_eq_ediv_of_nonneg i (by (first | lia | omega))]; exact q) (.inl (PyProof.noPylong_small (by (first | lia | omega))))
/-- % by a positive divisor of any size -/
theorem op_mod : OpR X (binaryOp .Mod) (rI (fun _ j => 0 < j) fun i j => .int (i % j)) := opI fun i j _ _ _ _ _ hc q => by
  have h1 : (0 : Int) < j := hc
  exact mod_int' (by (first | lia | omega)) (by rw [Int.fmod_eq_emod_of_nonneg i (by (first | lia | omega))]; exact q)
theorem op_pow : OpR X (binaryOp .Pow) (rI CPow fun i j => .int (i ^ j.toNat)) := opI fun _ _ _ _ _ _ _ hc q => pow_int_small hc.1 hc.2.1 hc.2.2 q
theorem unI {f : Value → Sem Value} {g : Int → Int}
    (rule : ∀ (i : Int) (t : Tok) (s : Shared) (Q : Value → Shared → Prop) (E : Value → Shared → Prop), Q (.int (g i) s.toks) { s with toks := s.toks + 1 } → wpAny (model X.prog X.w) X.A (f (.int i t)) Q E s) :
    UnR X f (rU fun i => .int (g i)) := by
  intro pins s σ H x v Q I rx h
  obtain ⟨i, rfl, q⟩ := h
  obtain ⟨t, rfl⟩ := rx
  exact rule i t s _ _ ⟨.int (g i), H, I.tok _, ⟨_, rfl⟩, q⟩
theorem un_neg : UnR X (unaryOp .USub) (rU fun i => .int (-i)) := unI fun _ _ _ _ _ q => neg_int q
end

/-- the scalars that == tells apart as data does -/
noncomputable def scal : V → V → Bool
  | .non, .non => true | .non, .int _ => true | .int _, .non => true | .non, .bl _ => true | .bl _, .non => true | .non, .str _ => true | .str _, .non => true
  | .int _, .int _ => true | .bl _, .bl _ => true | .str _, .str _ => true | .byt _, .byt _ => true
  | .int _, .str _ => true | .str _, .int _ => true | .bl _, .str _ => true | .str _, .bl _ => true
  | _, _ => false
noncomputable def rEq : R2 := fun x y H Q => scal x y = true ∧ Q (.bl (decide (x = y))) H
noncomputable def rNe : R2 := fun x y H Q => scal x y = true ∧ Q (.bl (!decide (x = y))) H

theorem dec_int {i j : Int} : decide (V.int i = V.int j) = (i == j) := by
  rw [Bool.eq_iff_iff]
  simp
theorem dec_bl {i j : Bool} : decide (V.bl i = V.bl j) = (i == j) := by
  rw [Bool.eq_iff_iff]
  simp
theorem dec_str {i j : Str} : decide (V.str i = V.str j) = (i == j) := by
  rw [Bool.eq_iff_iff]
  simp
theorem dec_byt {i j : Array UInt8} : decide (V.byt i = V.byt j) = (i.toList == j.toList) := by
  rw [Bool.eq_iff_iff]
  cases i
  cases j
  simp

section
variable {X : Cx} {a b c : Expr} {ta tb tc : TE} {pos : Pos}
theorem fin_bl {pins : List (Addr × Obj)} {σ : St} {H : Hp} {s : Shared} {Q : VK} {k k' : Bool} (I : Inv X pins σ H s) (q : Q (.bl k) H) (e : k = k') : EP X pins σ Q (.bool k') s := by
  subst e
  exact ⟨.bl k, H, I, rfl, q⟩
theorem op_eq : OpR X (compareOp .Eq) rEq := by
  intro pins s σ H x y v u Q I rx ry h
  obtain ⟨hs, q⟩ := h
  cases x with
  | non =>
    cases rx
    cases y with
    | non => cases ry; exact PySem.EqNone.eq_none_none (fin_bl I q (by simp))
    | bl j => cases ry; exact PySem.EqNone.eq_none_bool (fin_bl I q (by simp))
    | int j => obtain ⟨t', rfl⟩ := ry; exact PySem.EqNone.eq_none_int (fin_bl I q (by simp))
    | str j => obtain ⟨t', rfl⟩ := ry; exact PySem.EqNone.eq_none_str (fin_bl I q (by simp))
    | _ => exact absurd (show false = true from hs) Bool.false_ne_true
  | bl i =>
    cases rx
    cases y with
    | non => cases ry; exact PySem.EqNone.eq_bool_none (fin_bl I q (by simp))
    | bl j => cases ry; exact eq_bool (fin_bl I q dec_bl)
    | str j => obtain ⟨t', rfl⟩ := ry; exact PySem.EqMixed.eq_bool_str (fin_bl I q (by simp))
    | _ => exact absurd (show false = true from hs) Bool.false_ne_true
  | int i =>
    obtain ⟨t, rfl⟩ := rx
    cases y with
    | non => cases ry; exact PySem.EqNone.eq_int_none (fin_bl I q (by simp))
    | int j => obtain ⟨t', rfl⟩ := ry; exact eq_int (fin_bl I q dec_int)
    | str j => obtain ⟨t', rfl⟩ := ry; exact PySem.EqMixed.eq_int_str (fin_bl I q (by simp))
    | _ => exact absurd (show false = true from hs) Bool.false_ne_true
  | str i =>
    obtain ⟨t, rfl⟩ := rx
    cases y with
    | non => cases ry; exact PySem.EqNone.eq_str_none (fin_bl I q (by simp))
    | bl j => cases ry; exact PySem.EqMixed.eq_str_bool (fin_bl I q (by simp))
    | int j => obtain ⟨t', rfl⟩ := ry; exact PySem.EqMixed.eq_str_int (fin_bl I q (by simp))
    | str j => obtain ⟨t', rfl⟩ := ry; exact eq_str (fin_bl I q dec_str)
    | _ => exact absurd (show false = true from hs) Bool.false_ne_true
  | byt i =>
    obtain ⟨t, rfl⟩ := rx
    cases y with
    | byt j => obtain ⟨t', rfl⟩ := ry; exact PySem.W.eq_bytes (fin_bl I q dec_byt)
    | _ => exact absurd (show false = true from hs) Bool.false_ne_true
  | _ => cases y <;> exact absurd (show false = true from hs) Bool.false_ne_true
theorem op_ne : OpR X (compareOp .NotEq) rNe := by
  intro pins s σ H x y v u Q I rx ry h
  obtain ⟨hs, q⟩ := h
  cases x with
  | non =>
    cases rx
    cases y with
    | non => cases ry; exact PySem.EqNone.ne_none_none (fin_bl I q (by simp))
    | bl j => cases ry; exact PySem.EqNone.ne_none_bool (fin_bl I q (by simp))
    | int j => obtain ⟨t', rfl⟩ := ry; exact PySem.EqNone.ne_none_int (fin_bl I q (by simp))
    | str j => obtain ⟨t', rfl⟩ := ry; exact PySem.EqNone.ne_none_str (fin_bl I q (by simp))
    | _ => exact absurd (show false = true from hs) Bool.false_ne_true
  | bl i =>
    cases rx
    cases y with
    | non => cases ry; exact PySem.EqNone.ne_bool_none (fin_bl I q (by simp))
    | bl j => cases ry; exact ne_bool (fin_bl I q (congrArg not dec_bl))
    | str j => obtain ⟨t', rfl⟩ := ry; exact PySem.EqMixed.ne_bool_str (fin_bl I q (by simp))
    | _ => exact absurd (show false = true from hs) Bool.false_ne_true
  | int i =>
    obtain ⟨t, rfl⟩ := rx
    cases y with
    | non => cases ry; exact PySem.EqNone.ne_int_none (fin_bl I q (by simp))
    | int j => obtain ⟨t', rfl⟩ := ry; exact ne_int (fin_bl I q (congrArg not dec_int))
    | str j => obtain ⟨t', rfl⟩ := ry; exact PySem.EqMixed.ne_int_str (fin_bl I q (by simp))
    | _ => exact absurd (show false = true from hs) Bool.false_ne_true
  | str i =>
    obtain ⟨t, rfl⟩ := rx
    cases y with
    | non => cases ry; exact PySem.EqNone.ne_str_none (fin_bl I q (by simp))
    | bl j => cases ry; exact PySem.EqMixed.ne_str_bool (fin_bl I q (by simp))
    | int j => obtain ⟨t', rfl⟩ := ry; exact PySem.EqMixed.ne_str_int (fin_bl I q (by simp))
    | str j => obtain ⟨t', rfl⟩ := ry; exact ne_str (fin_bl I q (congrArg not dec_str))
    | _ => exact absurd (show false = true from hs) Bool.false_ne_true
  | byt i =>
    obtain ⟨t, rfl⟩ := rx
    cases y with
    | byt j => obtain ⟨t', rfl⟩ := ry; exact PySem.W.ne_bytes (fin_bl I q (congrArg not dec_byt))
    | _ => exact absurd (show false = true from hs) Bool.false_ne_true
  | _ => cases y <;> exact absurd (show false = true from hs) Bool.false_ne_true

theorem op_lt : OpR X (compareOp .Lt) (rI0 fun i j => .bl (decide (i < j))) := opB0 fun _ _ _ _ _ _ _ q => lt_int q
theorem op_le : OpR X (compareOp .LtE) (rI0 fun i j => .bl (decide (i ≤ j))) := opB0 fun _ _ _ _ _ _ _ q => le_int q
theorem op_gt : OpR X (compareOp .Gt) (rI0 fun i j => .bl (decide (j < i))) := opB0 fun _ _ _ _ _ _ _ q => gt_int q
theorem op_ge : OpR X (compareOp .GtE) (rI0 fun i j => .bl (decide (j ≤ i))) := opB0 fun _ _ _ _ _ _ _ q => ge_int q
theorem nomark (b : Expr) {op : CmpOp} (h : op ≠ .In := by decide) (h2 : op ≠ .NotIn := by decide) : behindInMarks op b = false := by
  have e1 : (op == CmpOp.In) = false := by cases op <;> first | rfl | exact absurd rfl h
  have e2 : (op == CmpOp.NotIn) = false := by cases op <;> first | rfl | exact absurd rfl h2
  cases b <;> simp [behindInMarks, e1, e2]
/-- a comparison as a value; hm: nomark b, or (for in, not in) by with_unfolding_all rfl -/
theorem pe_cmpR {op : CmpOp} {r : R2} (ho : OpR X (compareOp op) r) (ha : PE X a ta) (hb : PE X b tb) (hm : behindInMarks op b = false) : PE X (.Compare a [op] [b] pos) (tOp r ta tb) := by
  intro pins s σ H Q I h
  exact wpAny_Compare1 (binT ha hb I h fun v u s2 x y H2 I2 rx ry q => ho pins s2 σ H2 x y v u Q I2 rx ry q) hm
/-- a reading of a value as a test -/
noncomputable def tTest (t : TE) : TT := fun σ H Q => t σ H fun x H' => ∃ k, x = .bl k ∧ Q k H'
theorem pt_cmpR {op : CmpOp} {r : R2} (ho : OpR X (compareOp op) r) (ha : PE X a ta) (hb : PE X b tb) (hm : behindInMarks op b = false) : PT X (.Compare a [op] [b] pos) (tTest (tOp r ta tb)) := by
  intro pins s σ H Q I h
  refine wpAny_isTrue_Compare1 (thn (ha pins s σ H _ I h) fun v s1 ⟨x, H1, I1, r1, q1⟩ => thn (hb pins s1 σ H1 _ I1 q1) fun u s2 ⟨y, H2, I2, r2, q2⟩ =>
    thn (ho pins s2 σ H2 x y v u _ I2 r1 r2 q2) fun c s3 ⟨z, H3, I3, r3, k, e, q3⟩ => ?_) hm
  subst e
  cases r3
  exact wpAny_truthy_bool ⟨H3, I3, q3⟩
theorem line63 : (sizeLine : Nat) < 2 ^ 63 := by rw [sizeLine_eq]; decide
theorem vals1 {x : V} {us : List Value} (r : Vals [x] us) : ∃ u, us = [u] ∧ RelV x u := by
  cases r with
  | cons r1 r2 => cases r2; exact ⟨_, rfl, r1⟩
theorem vals2 {x y : V} {us : List Value} (r : Vals [x, y] us) : ∃ u w', us = [u, w'] ∧ RelV x u ∧ RelV y w' := by
  cases r with
  | cons r1 r2 =>
    cases r2 with
    | cons r3 r4 => cases r4; exact ⟨_, _, rfl, r1, r3⟩
theorem call_min2 (hc : X.calm = true) : CallR X (.builtin "min") (fun xs H Q => ∃ i j, xs = [.int i, .int j] ∧ Q (.int (if j < i then j else i)) H) := by
  intro pins s σ H xs us Q I r h
  obtain ⟨i, j, rfl, q⟩ := h
  obtain ⟨u, w', rfl, ⟨t, rfl⟩, ⟨t', rfl⟩⟩ := vals2 r
  refine min_two_ints (I.ok.hd hc) fun h' tk k => ⟨_, H, I.kept k, ?_, q⟩
  by_cases hj : j < i
  · rw [if_pos hj, if_pos hj]; exact ⟨_, rfl⟩
  · rw [if_neg hj, if_neg hj]; exact ⟨_, rfl⟩
theorem call_int1 : CallR X (.type "int") (fun xs H Q => (∃ i, xs = [.int i] ∧ Q (.int i) H) ∨ ∃ k, xs = [.bl k] ∧ Q (.int (if k then 1 else 0)) H) := by
  intro pins s σ H xs us Q I r h
  rcases h with ⟨i, rfl, q⟩ | ⟨k, rfl, q⟩
  · obtain ⟨u, rfl, t, rfl⟩ := vals1 r
    exact call_int_int ⟨.int i, H, I, ⟨_, rfl⟩, q⟩
  · obtain ⟨u, rfl, r1⟩ := vals1 r
    cases r1
    exact call_int_bool ⟨.int (if k then 1 else 0), H, I.tok _, ⟨_, rfl⟩, q⟩
end
end L2

namespace L2
open PySem PySem.Spec PyProof.Rows

structure ObjM (h : Heap) (x dx C : Addr) (mA : Str → Option Value) : Prop where
  obj : h.get? x = some (PySem.W.instObj C dx)
  ns : h.Ns1 dx mA
  ne : dx ≠ x

theorem lookIn_ns {h : Heap} {dx : Addr} {mA : Str → Option Value} (n : h.Ns1 dx mA) : ∃ od, h.get? dx = some od ∧ ∀ name, PySem.W.lookIn name od = some (mA name) := by
  obtain ⟨o, es, ep, ho, hd, hk, _, hm⟩ := n
  refine ⟨o, ho, fun name => ?_⟩
  have e := hm name
  unfold nsFind findBy at e
  rw [← Array.find?_toList] at e
  unfold PySem.W.lookIn
  rw [hd]
  dsimp only
  split
  · rename_i y q
    rw [q] at e
    exact congrArg some e
  · rename_i q
    rw [q] at e
    have a : es.toList.any (·.refKey) = false := by
      rw [List.any_eq_false]
      intro y hy
      obtain ⟨z, t, hkey⟩ := hk y (Array.mem_toList_iff.mp hy)
      simp [DictEntry.refKey, hkey]
    have a' : ¬ es.toList.any (·.refKey) = true := by rw [a]; exact Bool.false_ne_true
    rw [if_neg a']
    exact congrArg some e

theorem ObjM.look {h : Heap} {x dx C : Addr} {mA : Str → Option Value} (I : ObjM h x dx C mA) : ∃ od, PySem.W.InstAt h x (PySem.W.instObj C dx) C (some od) ∧ ∀ name, PySem.W.lookIn name od = some (mA name) :=
  let ⟨od, ho, hl⟩ := lookIn_ns I.ns
  ⟨od, ⟨I.obj, rfl, rfl, ho⟩, hl⟩

section
variable {prog : Program} {w : World} {A : Around} {E : Value → Shared → Prop} {s : Shared} {K : PySem.W.Frag} {x dx C f : Addr} {mA : Str → Option Value} {name : Str} {v : Value}

theorem get_map {expr : Bool} {Q : Value → Shared → Prop} (X : K.In s.heap) (I : ObjM s.heap x dx C mA) (hg : PySem.W.plainGet K C name = true) (hh : PySem.W.hasDictIn K C = true)
    (ha : PySem.W.findIn K (.ref C) name = some none) (hv : mA name = some v) (hv' : PySem.W.handedIn v = true) (h : Q v { s with toks := s.toks + 1 }) :
    wpAny (model prog w) A (getAttr (.ref x) name expr) Q E s := by
  obtain ⟨od, J, hl⟩ := I.look
  exact PySem.W.get_value X J (PySem.W.plainGet_of hg).1 (PySem.W.findObj_own hh ha rfl (by rw [hl, hv])) hv' h

theorem get_meth {pl : Sem Bool} {Q : Value × List Value → Shared → Prop} (X : K.In s.heap) (I : ObjM s.heap x dx C mA) (hg : PySem.W.plainGet K C name = true)
    (hf : PySem.W.findIn K (.ref C) name = some (some (.ref f))) (ht : PySem.W.isFn K (.ref f) = true) (hv : mA name = none) (h : Q (.ref f, [.ref x]) s) :
    wpAny (model prog w) A (getMethod (.ref x) name pl) Q E s := by
  obtain ⟨od, J, hl⟩ := I.look
  exact PySem.W.method_fn X J (PySem.W.plainGet_of hg).1 (PySem.W.plainGet_of hg).2 hf (beq_iff_eq.mp ht) (by show (PySem.W.lookIn name od).map (·.isSome) = some false; rw [hl, hv]; rfl) h

theorem set_map {ns : List Str} {Q : Unit → Shared → Prop} (X : K.In s.heap) (I : ObjM s.heap x dx C mA)
    (hs : PySem.W.findIn K (.ref C) "__setattr__" = some (some (.builtin "object.__setattr__"))) (hp : PySem.W.plainOver K C = true) (ht : PySem.W.takerIn K C name = some none) (hh : PySem.W.hasDictIn K C = true)
    (hw : PySem.Within mA ns) (hsz : ns.length ≤ sizeLine)
    (h : ∀ h', ObjM h' x dx C (fun y => if y = name then some v else mA y) → Heap.SameBut dx s.heap h' → Q () { s with heap := h', toks := s.toks + 2 }) :
    wpAny (model prog w) A (setAttr (.ref x) name v) Q E s := by
  obtain ⟨od, J, hl⟩ := I.look
  refine PySem.W.set_plain X J hs (PySem.W.osa_open (s := { s with toks := s.toks + 1 }) (r := none) X J hp ht fun b => ?_)
  obtain ⟨cd, hc, hd'⟩ := PySem.W.any_some hh
  have hx : s.heap.get? x = some ⟨.ref C, some dx, .plain, #[]⟩ := I.obj
  refine wpAny_bind (wpAny_pure (wpAny_bind (wpAny_bind (wpAny_loadPart hx (wpAny_bind (PySem.W.Looks.here (s := { s with toks := s.toks + 1 }) (PySem.W.looks_clsIn X hc) ?_))))))
  rw [hd']
  refine wpAny_pure (a := some dx) (wpAny_bind (wpAny_pure (wpAny_bind ?_)))
  refine wpAny_nsSet1 (s := { s with toks := s.toks + 1 }) I.ns fun h' hn2 hs2 => ?_
  obtain ⟨oD, esD, epD, hoD, hdD, hcD⟩ := hn2.count (PySem.Within.cons name v hw)
  refine wpAny_bind (wpAny_lookBehind hoD (by rw [hdD]; exact pastItsLine_dict (Nat.le_trans hcD (by rw [List.length_cons]; (first | lia | omega)))) ?_)
  exact wpAny_pure (h _ ⟨(hs2.2 _ (Ne.symm I.ne)).trans I.obj, hn2, I.ne⟩ hs2)

/-- C(..): the dict at the heap's end, the instance behind it; then its __init__ -/
theorem make_map {R : Result → Shared → Prop} {vs : List Value} {kw : List (Str × Value)} (X : K.In s.heap) (hm : PySem.W.makesIn K C = true)
    (hi : PySem.W.findIn K (.ref C) "__init__" = some (some (.ref f))) (hf : PySem.W.typeIn K (.ref f) = some (.type "function"))
    (h : codeAny (model prog w) (A.under (.builtin "type.__call__" ⟨.ref C :: vs, kw⟩)) (.call (.ref f) ⟨.ref (s.heap.objs.size + 1) :: vs, kw⟩) (PySem.W.InitBack (s.heap.objs.size + 1) R)
      { s with heap := (s.heap.push PySem.W.emptyDict).push (PySem.W.instObj C s.heap.objs.size) }) :
    codeAny (model prog w) A (.call (.ref C) ⟨vs, kw⟩) R s := by
  obtain ⟨hh, g, d, t, os⟩ := s
  exact PySem.W.make_core (PySem.W.makes_of X hm) (PySem.W.looks_findIn X hi) (fun self => PySem.W.bind_fn X self hf) (.inl rfl) h
end

noncomputable def putF (f : Str) (v : V) : List (Str × V) → List (Str × V)
  | [] => [(f, v)]
  | (g, x) :: r => if g = f then (g, v) :: r else (g, x) :: putF f v r
theorem lookup_putF (f g : Str) (v : V) : ∀ fs : List (Str × V), (putF f v fs).lookup g = if g = f then some v else fs.lookup g
  | [] => by
    show List.lookup g [(f, v)] = _
    by_cases h : g = f
    · have hb : (g == f) = true := beq_iff_eq.mpr h
      simp only [List.lookup, hb, if_pos h]
    · have hb : (g == f) = false := beq_eq_false_iff_ne.mpr h
      simp only [List.lookup, hb, if_neg h]
  | (k, x) :: r => by
    have ih := lookup_putF f g v r
    rw [show putF f v ((k, x) :: r) = (if k = f then (k, v) :: r else (k, x) :: putF f v r) from rfl]
    by_cases hk : k = f
    · rw [if_pos hk]
      by_cases h : g = k
      · have hb : (g == k) = true := beq_iff_eq.mpr h
        simp only [List.lookup, hb, if_pos (h.trans hk)]
      · have hb : (g == k) = false := beq_eq_false_iff_ne.mpr h
        simp only [List.lookup, hb, if_neg (fun e : g = f => h (e.trans hk.symm))]
    · rw [if_neg hk]
      by_cases h : g = k
      · have hb : (g == k) = true := beq_iff_eq.mpr h
        simp only [List.lookup, hb, if_neg (fun e : g = f => hk (h.symm.trans e))]
      · have hb : (g == k) = false := beq_eq_false_iff_ne.mpr h
        simp only [List.lookup, hb]
        exact ih
theorem keys_putF (f : Str) (v : V) : ∀ fs : List (Str × V), f ∈ (putF f v fs).map (·.1) ∧ ∀ g, g ∈ fs.map (·.1) → g ∈ (putF f v fs).map (·.1)
  | [] => ⟨by simp [putF], fun g h => by simp at h⟩
  | (k, x) :: r => by
    obtain ⟨i1, i2⟩ := keys_putF f v r
    rw [show putF f v ((k, x) :: r) = (if k = f then (k, v) :: r else (k, x) :: putF f v r) from rfl]
    by_cases hk : k = f
    · rw [if_pos hk]
      subst hk
      exact ⟨by simp, fun g h => by simpa using h⟩
    · rw [if_neg hk]
      refine ⟨?_, fun g h => ?_⟩
      · rw [List.map_cons]
        exact List.mem_cons_of_mem _ i1
      · rw [List.map_cons] at h ⊢
        rcases List.mem_cons.mp h with e | e
        · exact List.mem_cons.mpr (.inl e)
        · exact List.mem_cons_of_mem _ (i2 g e)
theorem length_putF (f : Str) (v : V) : ∀ fs : List (Str × V), (putF f v fs).length ≤ fs.length + 1
  | [] => by simp [putF]
  | (k, x) :: r => by
    have ih := length_putF f v r
    rw [show putF f v ((k, x) :: r) = (if k = f then (k, v) :: r else (k, x) :: putF f v r) from rfl]
    by_cases hk : k = f
    · rw [if_pos hk, List.length_cons, List.length_cons]; (first | lia | omega)
    · rw [if_neg hk, List.length_cons, List.length_cons]; (first | lia | omega)

theorem RelO.some_of {v : V} {o : Option Value} (r : RelO (some v) o) : ∃ u, o = some u ∧ RelV v u := by
  cases o with
  | none => exact (show False from r).elim
  | some u => exact ⟨u, rfl, r⟩
theorem RelO.none_of {o : Option Value} (r : RelO none o) : o = none := by
  cases o with
  | none => rfl
  | some u => exact (show False from r).elim
theorem handed_of {v : V} {u : Value} (r : RelV v u) : PySem.W.handedIn u = true := by
  cases v with
  | non => cases (show u = Value.none from r); rfl
  | bl b => cases (show u = Value.bool b from r); rfl
  | int i => obtain ⟨t, e⟩ := (show ∃ t, u = Value.int i t from r); cases e; rfl
  | str x => obtain ⟨t, e⟩ := (show ∃ t, u = Value.str x t from r); cases e; rfl
  | byt b => obtain ⟨t, e⟩ := (show ∃ t, u = Value.bytes b t from r); cases e; rfl
  | flt b => obtain ⟨t, e⟩ := (show ∃ t, u = Value.float b t from r); cases e; rfl
  | ref a => cases (show u = Value.ref a from r); rfl
  | ty n => cases (show u = Value.type n from r); rfl

section
variable {P : Program} {w : World} {H H' : Hp} {h h' : Heap} {a C dx : Addr} {fs fs' : List (Str × V)}
theorem ins_get (hok : HOk P w H h) (e : H a = some (.ins C dx fs)) : ∃ mA, ObjM h a dx C mA ∧ (∀ f, RelO (fs.lookup f) (mA f)) ∧ PySem.Within mA (fs.map (·.1)) ∧ fs.length ≤ 1000 ∧ H dx = some (.own a) := by
  obtain ⟨d, z, ne, ob, mA, n, r, q⟩ := (show ObjOk P w H h a (.ins C dx fs) from hok a _ e)
  exact ⟨mA, ⟨ob, n, ne⟩, r, q, z, d⟩
end

structure Cls (K : PySem.W.Frag) (C : Addr) : Prop where
  pg : PySem.W.plainGet K C Str.empty = true
  hd : PySem.W.hasDictIn K C = true
  po : PySem.W.plainOver K C = true
  sa : PySem.W.findIn K (.ref C) "__setattr__" = some (some (.builtin "object.__setattr__"))
theorem Cls.get {K : PySem.W.Frag} {C : Addr} (c : Cls K C) (f : Str) : PySem.W.plainGet K C f = true := c.pg
/-- no class of it has the name -/
noncomputable def NoAttr (K : PySem.W.Frag) (C : Addr) (f : Str) : Prop := PySem.W.findIn K (.ref C) f = some none
theorem NoAttr.taker {K : PySem.W.Frag} {C : Addr} {f : Str} (n : NoAttr K C f) : PySem.W.takerIn K C f = some none := by
  unfold PySem.W.takerIn
  rw [show PySem.W.findIn K (.ref C) f = some none from n]
  rfl
/-- a method: a plain def of the class or of one above it -/
structure Meth (K : PySem.W.Frag) (C : Addr) (m : Str) (f : Addr) : Prop where
  at_ : PySem.W.findIn K (.ref C) m = some (some (.ref f))
  fn : PySem.W.isFn K (.ref f) = true
  kp : PySem.W.keepIn K (.ref f) = true

section
variable {X : Cx} {pins : List (Addr × Obj)} {σ : St} {H : Hp} {s : Shared} {a C dx : Addr} {fs : List (Str × V)} {f : Str} {v : V} {A : Around} {E : Value → Shared → Prop}

theorem getattr_ok {b : Bool} {Q : Value → Shared → Prop} (I : Inv X pins σ H s) (e : H a = some (.ins C dx fs)) (c : Cls X.K C) (n : NoAttr X.K C f) (l : fs.lookup f = some v)
    (h : ∀ u s', Inv X pins σ H s' → RelV v u → Q u s') : wpAny (model X.prog X.w) A (getAttr (.ref a) f b) Q E s := by
  obtain ⟨mA, O, r, _, _, _⟩ := ins_get I.hok e
  obtain ⟨u, hu, ru⟩ := RelO.some_of (v := v) (o := mA f) (by rw [← l]; exact r f)
  exact get_map I.kIn O (c.get f) c.hd n hu (handed_of ru) (h u _ (I.tok _) ru)

theorem getmeth_ok {m : Str} {g : Addr} {pl : Sem Bool} {Q : Value × List Value → Shared → Prop} (I : Inv X pins σ H s) (e : H a = some (.ins C dx fs)) (c : Cls X.K C) (k : Meth X.K C m g) (l : fs.lookup m = none)
    (h : Q (.ref g, [.ref a]) s) : wpAny (model X.prog X.w) A (getMethod (.ref a) m pl) Q E s := by
  obtain ⟨mA, O, r, _, _, _⟩ := ins_get I.hok e
  have hn : mA m = none := RelO.none_of (by rw [← l]; exact r m)
  exact get_meth I.kIn O (c.get m) k.at_ k.fn hn h

theorem setattr_ok {y : V} {u : Value} {Q : Unit → Shared → Prop} (I : Inv X pins σ H s) (e : H a = some (.ins C dx fs)) (c : Cls X.K C) (n : NoAttr X.K C f) (hl : fs.length < 1000) (ry : RelV y u)
    (h : ∀ s', Inv X pins σ (upd H a (.ins C dx (putF f y fs))) s' → Q () s') : wpAny (model X.prog X.w) A (setAttr (.ref a) f u) Q E s := by
  obtain ⟨mA, O, r, wi, _, ho⟩ := ins_get I.hok e
  have hz : (fs.map (·.1)).length ≤ sizeLine := by rw [List.length_map, sizeLine_eq]; (first | lia | omega)
  refine set_map I.kIn O c.sa c.po n.taker c.hd wi hz fun h' O' sb => h _ ?_
  have hd : ∃ o, h'.get? dx = some o := let ⟨o, _, _, e', _⟩ := O'.ns; ⟨o, e'⟩
  refine I.write (x := a) (e := dx) (by rw [e]; exact True.intro) (.inr ho) (fun b q hb z => (sb.2 b hb).trans z) hd ?_
  refine ⟨by rw [upd_ne O.ne]; exact ho, ?_, O.ne, O'.obj, _, O'.ns, fun g => ?_, fun g hg => ?_⟩
  · have := length_putF f y fs; (first | lia | omega)
  · show RelO ((putF f y fs).lookup g) (if g = f then some u else mA g)
    rw [lookup_putF]
    by_cases q : g = f
    · rw [if_pos q, if_pos q]; exact ry
    · rw [if_neg q, if_neg q]; exact r g
  · by_cases q : g = f
    · rw [q]; exact (keys_putF f y fs).1
    · refine (keys_putF f y fs).2 g (wi g fun z => hg ?_)
      show (if g = f then some u else mA g) = none
      rw [if_neg q]; exact z

/-- a new instance, tracked, without attributes -/
theorem Inv.made (I : Inv X pins σ H s) : Inv X pins σ (upd (upd H s.heap.objs.size (.own (s.heap.objs.size + 1))) (s.heap.objs.size + 1) (.ins C s.heap.objs.size []))
    { s with heap := (s.heap.push PySem.W.emptyDict).push (PySem.W.instObj C s.heap.objs.size) } := by
  have e1 : (s.heap.push PySem.W.emptyDict).get? s.heap.objs.size = some PySem.W.emptyDict := Heap.get?_push_size s.heap rfl
  have e2 : ((s.heap.push PySem.W.emptyDict).push (PySem.W.instObj C s.heap.objs.size)).get? (s.heap.objs.size + 1) = some (PySem.W.instObj C s.heap.objs.size) := by
    have := Heap.get?_push_size (s.heap.push PySem.W.emptyDict) (o := PySem.W.instObj C s.heap.objs.size) rfl
    rwa [Heap.size_push] at this
  have e3 : (s.heap.push PySem.W.emptyDict).Ns s.heap.objs.size (fun _ => none) := ⟨PySem.W.emptyDict, #[], _, e1, rfl, (fun e he => absurd he (by simp)), fun _ => rfl⟩
  have I1 := I.laid (a := s.heap.objs.size) (o := .own (s.heap.objs.size + 1)) (h' := s.heap.push PySem.W.emptyDict) (t' := s.toks) (fun b u q => Heap.get?_push_of_some _ q) (Nat.le_refl _) ⟨_, e1⟩
  refine I1.laid (a := s.heap.objs.size + 1) (o := .ins C s.heap.objs.size []) (t' := s.toks) (fun b u q => Heap.get?_push_of_some _ q) (Nat.le_of_eq (Heap.size_push _ _)) ?_
  have ne : s.heap.objs.size ≠ s.heap.objs.size + 1 := Nat.ne_of_lt (Nat.lt_succ_self _)
  refine ⟨by rw [upd_ne ne, upd_same], Nat.zero_le _, ne, e2, fun _ => none, (Heap.Ns1.of_empty e3).at fun o q => Heap.get?_push_of_some _ q, fun _ => True.intro, fun y hy => absurd rfl hy⟩

/-- e.f where nothing but the object is asked: through attributeBase (super) and the last hold -/
theorem attr_of {prog : Program} {w : World} {env : Env} {e : Expr} {f : Str} {pos : Pos} {s : Shared} {Q : Value → Shared → Prop} (hb : attributeBase e f env (eval e env) = eval e env)
    (h : wpAny (model prog w) A (eval e env) (fun o s₁ => wpAny (model prog w) A (getAttr o f true) Q E s₁) E s) : wpAny (model prog w) A (eval (.Attribute e f pos) env) Q E s :=
  Attribute_any_ h (by rw [arm_eval_Attribute, hb])
end

/-- e.f, an attribute of the instance -/
noncomputable def tFld (K : PySem.W.Frag) (ta : TE) (f : Str) : TE := fun σ H Q => ta σ H fun x H1 => ∃ a C dx fs v, x = .ref a ∧ H1 a = some (.ins C dx fs) ∧ Cls K C ∧ NoAttr K C f ∧ fs.lookup f = some v ∧ Q v H1
/-- e.f = value -/
noncomputable def sFld (K : PySem.W.Frag) (ta tv : TE) (f : Str) : TS := fun D σ H => tv σ H fun y H1 => ta σ H1 fun x H2 => ∃ a C dx fs, x = .ref a ∧ H2 a = some (.ins C dx fs) ∧ Cls K C ∧ NoAttr K C f ∧ fs.length < 1000 ∧
  D.nx σ (upd H2 a (.ins C dx (putF f y fs)))
section
variable {X : Cx} {o e value : Expr} {f : Str} {pos pos' tpos : Pos} {ta tv : TE}
theorem pe_fld (he : PE X e ta) (hb : attributeBase e f X.env (eval e X.env) = eval e X.env) : PE X (.Attribute e f pos) (tFld X.K ta f) := by
  intro pins s σ H Q I h
  refine attr_of hb (thn (he pins s σ H _ I h) fun u s1 zq60_2 => ?_)
  obtain ⟨x, H1, I1, rx, a, C, dx, fs, v, ex, ea, c, n, l, q⟩ := zq60_2
  subst ex
  obtain rfl : u = Value.ref a := rx
  exact getattr_ok I1 ea c n l fun u' s2 I2 ru => ⟨v, H1, I2, ru, q⟩
theorem ps_fld (ha : PE X o ta) (hv : PE X value tv) (hs : swapsWith value (some (.Attribute o f pos')) pos.line X.env = pure false) : PS X (.Assign [.Attribute o f pos'] value pos) (sFld X.K ta tv f) := by
  intro pins s σ H D I h
  refine plainObj_wpAny_Assign_Attribute (thn (hv pins s σ H _ I h) fun u s1 ⟨y, H1, I1, ry, q⟩ => thn (ha pins s1 σ H1 _ I1 q) fun ov s2 ⟨x, H2, I2, rx, a, C, dx, fs, ex, ea, c, n, l, q2⟩ => ?_) hs
  subst ex
  obtain rfl : ov = Value.ref a := rx
  exact setattr_ok I2 ea c n l ry fun s3 I3 => ⟨σ, _, I3, q2⟩
end

section
variable {X : Cx} {pins : List (Addr × Obj)} {σ : St} {H : Hp} {s : Shared} {A : Around} {E : Value → Shared → Prop} {Q : Value → Shared → Prop} {c : Value} {b : Bool}
end
end L2

namespace L2
open PySem PySem.Spec PyProof.Rows

structure Room (k : Nat) (A : Around) : Prop where
  hd : A.handled = none
  dp : A.depth + 3 * k + 5 < recursionLimit
  un : A.units + 16 * k + 200 < cLine
theorem Room.mono {j k : Nat} {A : Around} (r : Room k A) (h : j ≤ k) : Room j A := ⟨r.hd, by have := r.dp; (first | lia | omega), by have := r.un; (first | lia | omega)⟩
theorem Room.deeper {k : Nat} {A : Around} (r : Room (k + 1) A) (env : Env) : Room k (A.deeper env) :=
  ⟨r.hd, by have := r.dp; show A.depth + 1 + 3 * k + 5 < _; (first | lia | omega), by have := r.un; show A.units + 3 + 16 * k + 200 < _; (first | lia | omega)⟩
theorem make_depth {A : Around} {C : Addr} {us : List Value} {kw : List (Str × Value)} : (A.under (.builtin "type.__call__" ⟨.ref C :: us, kw⟩)).depth = A.depth + 1 := by
  first | rfl | simp [Around.under, Code.weight, Code.isCreation, Code.isGuard, Code.isCaller, Code.frames, Code.isFrame, guardIds]
theorem make_units {A : Around} {C : Addr} {us : List Value} {kw : List (Str × Value)} : (A.under (.builtin "type.__call__" ⟨.ref C :: us, kw⟩)).units = A.units + 1 := by
  first | rfl | simp [Around.under, Code.cUnits, Code.frames, Code.isFrame]
theorem Room.make {k : Nat} {A : Around} (r : Room (k + 1) A) (C : Addr) (us : List Value) (kw : List (Str × Value)) : Room k (A.under (.builtin "type.__call__" ⟨.ref C :: us, kw⟩)) :=
  ⟨r.hd, by have := r.dp; rw [make_depth]; (first | lia | omega), by have := r.un; rw [make_units]; (first | lia | omega)⟩
theorem Room.depth {k : Nat} {A : Around} (r : Room k A) : A.depth < recursionLimit := by have := r.dp; (first | lia | omega)
theorem Room.units {k : Nat} {A : Around} (r : Room k A) : A.units + 64 < cLine := by have := r.un; (first | lia | omega)
theorem Room.units0 {k : Nat} {A : Around} (r : Room k A) : A.units < cLine := by have := r.un; (first | lia | omega)

noncomputable def tNil : TA := fun _ H Q => Q [] H
noncomputable def tCons (ta : TE) (tr : TA) : TA := fun σ H Q => ta σ H fun x H1 => tr σ H1 fun xs H2 => Q (x :: xs) H2
section
variable {X : Cx} {e : Expr} {es : List Expr} {te : TE} {t : TA} {pos : Pos}
theorem pa_nil : PA X [] tNil := fun _ _ _ _ H Q I h => Calls.spliced_nil ⟨[], H, I, .nil, h⟩
theorem pa_cons (ha : PE X e te) (hr : PA X es t) (hs : starEach (e :: es) X.env = (false, eval e X.env) :: starEach es X.env := by rfl) : PA X (e :: es) (tCons te t) := by
  intro pos pins s σ H Q I h
  rw [hs]
  show wpAny _ _ (spliced ((false, eval e X.env) :: backTo pos (starEach es X.env))) _ _ s
  refine Calls.spliced_cons (thn (ha pins s σ H _ I h) fun u s1 zq68_2 => ?_)
  obtain ⟨x, H1, I1, r1, q1⟩ := zq68_2
  exact thn (hr pos pins s1 σ H1 _ I1 q1) fun us s2 zq69_2 => by obtain ⟨xs, H2, I2, r2, q2⟩ := zq69_2; exact ⟨x :: xs, H2, I2, .cons r1 r2, q2⟩

/-- a tuple, a list of written items -/
noncomputable def tTup (t : TA) : TE := fun σ H Q => t σ H fun xs H1 => xs.length ≤ sizeLine ∧ ∀ p, H1 p = none → Q (.ref p) (upd H1 p (.tup xs))
noncomputable def tLst (t : TA) : TE := fun σ H Q => t σ H fun xs H1 => xs.length ≤ sizeLine ∧ ∀ p, H1 p = none → Q (.ref p) (upd H1 p (.lst xs))
theorem pe_tup {x1} (h : PA X es t) : PE X (.Tuple es x1 pos) (tTup t) := by
  intro pins s σ H Q I hq
  refine wpAny_Tuple_spliced (thn (h pos pins s σ H _ I hq) fun us s1 zq70_2 => ?_)
  obtain ⟨xs, H1, I1, r, z, q⟩ := zq70_2
  refine ⟨by rw [← r.length]; exact z, ?_⟩
  have hf : H1 s1.heap.objs.size = none := I1.hok.fresh (Nat.le_refl _)
  refine ⟨.ref s1.heap.objs.size, upd H1 s1.heap.objs.size (.tup xs), I1.laid (t' := s1.toks) (fun b u e => Heap.get?_push_of_some _ e) (Nat.le_refl _) ?_, rfl, q _ hf⟩
  exact ⟨z, us, r, ⟨_, Heap.get?_push_size _ rfl, rfl, _, rfl⟩⟩
theorem pe_lst (h : PA X es t) : PE X (.List es pos) (tLst t) := by
  intro pins s σ H Q I hq
  refine wpAny_List_spliced (thn (h pos pins s σ H _ I hq) fun us s1 zq71_2 => ?_)
  obtain ⟨xs, H1, I1, r, z, q⟩ := zq71_2
  refine ⟨by rw [← r.length]; exact z, ?_⟩
  have hf : H1 s1.heap.objs.size = none := I1.hok.fresh (Nat.le_refl _)
  refine ⟨.ref s1.heap.objs.size, upd H1 s1.heap.objs.size (.lst xs), I1.laid (t' := s1.toks) (fun b u e => Heap.get?_push_of_some _ e) (Nat.le_refl _) ?_, rfl, q _ hf⟩
  exact ⟨z, us, 0, r, Heap.get?_push_size _ rfl⟩
end

/-- a def's promise: the bound arguments in the parameters' order, the heap, the wanted end, the wanted exception -/
noncomputable abbrev Sp := List V → Hp → VK → XK → Prop
/-- how an exception lies behind a call (file 08 gives it): the callers' frames, abstract heap and state ahead of the call, the wish, the exception, the state -/
noncomputable abbrev CXT := List Env → Hp → Shared → XK → Value → Shared → Prop

/-- the state at a call -/
structure Env0 (P : Program) (w : World) (K : PySem.W.Frag) (mg : Str → Option Value) (base : Heap) (A : Around) (outer : List Env) (s : Shared) (H : Hp) : Prop where
  frames : A.frames = some outer
  mod : Mod K mg base
  bs : ∀ b o, base.get? b = some o → s.heap.get? b = some o ∧ H b = none
  bsz : base.objs.size ≤ s.heap.objs.size
  funs : s.heap.FunFrames base outer
  frf : ∀ b ∈ frs outer, H b = none
  hok : HOk P w H s.heap
  bare : AllBare s.gens
/-- a call's end -/
noncomputable def CE (outer : List Env) (P : Program) (w : World) (H : Hp) (s : Shared) (Q : VK) (u : Value) (s' : Shared) : Prop :=
  ∃ v H', s'.os = s.os ∧ AllBare s'.gens ∧ Un (frs outer) [] H H' s.heap s'.heap ∧ HOk P w H' s'.heap ∧ RelV v u ∧ Q v H'
noncomputable def CR (CX : CXT) (outer : List Env) (P : Program) (w : World) (H : Hp) (s : Shared) (Q : VK) (E : XK) (r : Result) (s' : Shared) : Prop :=
  match r with
  | .ok (.ret u) => CE outer P w H s Q u s'
  | .ok _ => False
  | .error e => CX outer H s E e s'
structure FnOk (P : Program) (w : World) (K : PySem.W.Frag) (mg : Str → Option Value) (base : Heap) (CX : CXT) (k : Nat) (f : Addr) (fd : FuncData) (ps : List Str) (sp : Sp) : Prop where
  len : ∀ vs H Q E, sp vs H Q E → vs.length = ps.length
  run : ∀ (A : Around) (outer : List Env) (s : Shared) (H : Hp) (args : Args) (us : List Value) (vs : List V) (Q : VK) (E : XK), Room k A → Env0 P w K mg base A outer s H → BindsTo s fd args (ps.zip us) → Vals vs us → sp vs H Q E →
    codeAny (model P w) A (.call (.ref f) args) (CR CX outer P w H s Q E) s
theorem Env0.make {P : Program} {w : World} {K : PySem.W.Frag} {mg : Str → Option Value} {base : Heap} {A : Around} {outer : List Env} {s : Shared} {H : Hp} (e : Env0 P w K mg base A outer s H) (C : Addr) (us : List Value) (kw : List (Str × Value)) :
    Env0 P w K mg base (A.under (.builtin "type.__call__" ⟨.ref C :: us, kw⟩)) outer s H := ⟨by first | exact e.frames | (simpa [Around.under, Code.envs, Code.isFrame, pushEnvs] using e.frames), e.mod, e.bs, e.bsz, e.funs, e.frf, e.hok, e.bare⟩
section
variable {X : Cx} {pins : List (Addr × Obj)} {σ : St} {H : Hp} {s s' : Shared}
/-- from a body: what a callee wants -/
theorem Inv.env0 (I : Inv X pins σ H s) : Env0 X.prog X.w X.K X.mg X.base X.A X.stack s H :=
  ⟨I.ok.frames, I.ok.mod, I.bs, Nat.le_trans I.ok.bsz I.sz, I.stack, I.stkFree, I.hok, I.bare⟩
/-- behind a call -/
theorem Inv.after {Q : VK} {u : Value} (I : Inv X pins σ H s) (h : CE X.stack X.prog X.w H s Q u s') : EP X pins σ Q u s' := by
  obtain ⟨v, H', os, bare, un, hok, r, q⟩ := h
  obtain ⟨hh, g, d, t, os'⟩ := s'
  obtain rfl : os' = s.os := os
  exact ⟨v, H', I.call (h' := hh) (g' := g) (d' := d) (t' := t) (ch := []) un hok bare (fun b z => absurd z (by simp)), r, q⟩
end

/-- f(..): the written arguments, then the defaults dvs; E: what is wanted of an exception -/
noncomputable def tCall (sp : Sp) (dvs : List V) (E : XK) (t : TA) : TE := fun σ H Q => t σ H fun vs H1 => sp (vs ++ dvs) H1 Q E
/-- o.m(..) of an instance of the class at C -/
noncomputable def tMeth (C : Addr) (m : Str) (sp : Sp) (dvs : List V) (E : XK) (ta : TE) (t : TA) : TE := fun σ H Q => ta σ H fun x H1 => ∃ a dx fs, x = .ref a ∧ H1 a = some (.ins C dx fs) ∧ fs.lookup m = none ∧
  t σ H1 fun vs H2 => sp (x :: (vs ++ dvs)) H2 Q E
/-- C(..): a new instance and its dict, then __init__ -/
noncomputable def tMake (C : Addr) (sp : Sp) (dvs : List V) (E : XK) (t : TA) : TE := fun σ H Q => t σ H fun vs H1 => ∀ x dx, H1 x = none → H1 dx = none → dx ≠ x →
  sp (.ref x :: (vs ++ dvs)) (upd (upd H1 dx (.own x)) x (.ins C dx [])) (fun v H2 => v = .non ∧ Q (.ref x) H2) E

/-- how the parameters are bound: us the positional arguments, kw the keywords' values by name, ds the defaults that fill up -/
noncomputable def Binds (K : PySem.W.Frag) (fd : FuncData) (ps : List Str) (ds : List Value) : Prop :=
  ∀ (s : Shared) (us : List Value), K.In s.heap → (us ++ ds).length = ps.length → BindsTo s fd ⟨us, []⟩ (ps.zip (us ++ ds))
/-- every parameter is given -/
theorem Binds.all {K : PySem.W.Frag} {fd : FuncData} {ps : List Str} (h : ∀ us : List Value, us.length = ps.length → bindArgs fd ⟨us, []⟩ = pure (ps.zip us)) : Binds K fd ps [] := fun s us _ hl => by
  rw [List.append_nil] at hl ⊢
  exact .of_eq (h us hl)

/-- an exception of a callee reaches what this body wants of exceptions -/
noncomputable def Passes (CX : CXT) (X : Cx) (E : XK) : Prop := ∀ (pins : List (Addr × Obj)) (σ : St) (H : Hp) (s : Shared) (e : Value) (s' : Shared), Inv X pins σ H s → CX X.stack H s E e s' → X.xe e s'

section
variable {X : Cx} {CX : CXT} {k : Nat} {f C : Addr} {fd : FuncData} {ps : List Str} {sp : Sp} {dvs : List V} {ds : List Value} {E : XK} {x m : Str} {p pos apos : Pos} {e o : Expr} {es : List Expr} {ta : TE} {t : TA}

/-- the callee runs -/
theorem run_fn {pins : List (Addr × Obj)} {σ : St} {H : Hp} {s : Shared} {Q : VK} {us : List Value} {vs : List V} (F : FnOk X.prog X.w X.K X.mg X.base CX k f fd ps sp) (hr : Room k X.A) (hb : Binds X.K fd ps ds) (hd : Vals dvs ds) (hx : Passes CX X E)
    (I : Inv X pins σ H s) (r : Vals vs us) (h : sp (vs ++ dvs) H Q E) : wpAny (model X.prog X.w) X.A (call (.ref f) us) (EP X pins σ Q) X.xe s := by
  have r2 : Vals (vs ++ dvs) (us ++ ds) := r.append hd
  have hl : (us ++ ds).length = ps.length := by rw [← r2.length]; exact F.len _ _ _ _ h
  refine wpAny_call (codeAny_mono (F.run X.A X.stack s H ⟨us, []⟩ (us ++ ds) (vs ++ dvs) Q E hr I.env0 (hb s us I.kIn hl) r2 h) fun r s' hq => ?_)
  cases r with
  | error e => exact hx pins σ H s e s' I hq
  | ok fl =>
    cases fl with
    | ret u => exact I.after hq
    | next => exact False.elim hq
    | brk => exact False.elim hq
    | cont => exact False.elim hq

theorem pe_call (F : FnOk X.prog X.w X.K X.mg X.base CX k f fd ps sp) (hr : Room k X.A) (hg : Gl X x) (hm : X.mg x = some (.ref f)) (hk : PySem.W.keepIn X.K (.ref f) = true) (hb : Binds X.K fd ps ds) (hd : Vals dvs ds) (hx : Passes CX X E)
    (ha : PA X (e :: es) t) (hdb : (x == ("__debug__" : Str)) = false := by decide) (he : starEach (e :: es) X.env = (false, eval e X.env) :: starEach es X.env := by rfl) (hpl : (backTo pos (starEach es X.env)).any (·.1) = false := by rfl) :
    PE X (.Call (.Name x p) (e :: es) [] pos) (tCall sp dvs E t) := by
  intro pins s σ H Q I h
  refine wpAny_Call_Name_kw (ld_glob I hg hm ?_ hdb)
  refine PySem.W.callWith_K (h₀ := X.base) I.ok.mod.kin hk (thn (ha pos pins s σ H _ I h) fun us s1 ⟨vs, H1, I1, r, q⟩ => ⟨I1.kIn, ?_⟩) he hpl
  exact run_fn F hr hb hd hx I1 r q
/-- o.m(e, ..) -/
theorem pe_meth {pl : Sem Bool} (he : PE X o ta) (c : Cls X.K C) (hm : Meth X.K C m f) (F : FnOk X.prog X.w X.K X.mg X.base CX k f fd ps sp) (hr : Room k X.A) (hb : Binds X.K fd ps ds) (hd : Vals dvs ds) (hx : Passes CX X E) (ha : PA X (e :: es) t)
    (hst : starEach (e :: es) X.env = (false, eval e X.env) :: starEach es X.env := by rfl) (hpl : (backTo pos (starEach es X.env)).any (·.1) = false := by rfl)
    (ht : eval (.Call (.Attribute o m apos) (e :: es) [] pos) X.env = (do
      let ov ← eval o X.env
      standAt apos.atName
      let (f, first) ← holding [ov] (getMethod ov m pl)
      callWith pos f first (backTo pos (starEach (e :: es) X.env)) (backToKw pos (keywordEach [] X.env))) := by rfl) :
    PE X (.Call (.Attribute o m apos) (e :: es) [] pos) (tMeth C m sp dvs E ta t) := by
  intro pins s σ H Q I h
  refine PySem.W.methodCall_KW (pl := pl) (thn (he pins s σ H _ I h) fun u s1 ⟨x, H1, I1, rx, a, dx, fs, ex, ea, l, q⟩ => ?_) ht
  subst ex
  obtain rfl : u = Value.ref a := rx
  refine getmeth_ok I1 ea c hm l ?_
  refine PySem.W.callWith_K (first := [.ref a]) (h₀ := X.base) I.ok.mod.kin hm.kp (thn (ha pos pins s1 σ H1 _ I1 q) fun us s2 ⟨vs, H2, I2, r, q2⟩ => ⟨I2.kIn, ?_⟩) hst hpl
  exact run_fn (us := .ref a :: us) (vs := .ref a :: vs) F hr hb hd hx I2 (.cons rfl r) q2
/-- o.m() -/
theorem pe_meth0 {pl : Sem Bool} (he : PE X o ta) (c : Cls X.K C) (hm : Meth X.K C m f) (F : FnOk X.prog X.w X.K X.mg X.base CX k f fd ps sp) (hr : Room k X.A) (hb : Binds X.K fd ps ds) (hd : Vals dvs ds) (hx : Passes CX X E)
    (ht : eval (.Call (.Attribute o m apos) [] [] pos) X.env = (do
      let ov ← eval o X.env
      standAt apos.atName
      let (f, first) ← holding [ov] (getMethod ov m pl)
      callWith pos f first (backTo pos (starEach [] X.env)) (backToKw pos (keywordEach [] X.env))) := by rfl) :
    PE X (.Call (.Attribute o m apos) [] [] pos) (tMeth C m sp dvs E ta tNil) := by
  intro pins s σ H Q I h
  refine PySem.W.methodCall_KW (pl := pl) (thn (he pins s σ H _ I h) fun u s1 ⟨x, H1, I1, rx, a, dx, fs, ex, ea, l, q⟩ => ?_) ht
  subst ex
  obtain rfl : u = Value.ref a := rx
  refine getmeth_ok I1 ea c hm l ?_
  exact PySem.W.callWith_K0 (first := [.ref a]) I1.kIn hm.kp (run_fn (us := [.ref a]) (vs := [.ref a]) F hr hb hd hx I1 (.cons rfl .nil) q)

/-- what a class must have to be made -/
structure Mk (K : PySem.W.Frag) (C f : Addr) : Prop where
  makes : PySem.W.makesIn K C = true
  init : PySem.W.findIn K (.ref C) "__init__" = some (some (.ref f))
  fn : PySem.W.isFn K (.ref f) = true
  kp : PySem.W.keepIn K (.ref C) = true

theorem run_make {pins : List (Addr × Obj)} {σ : St} {H : Hp} {s : Shared} {Q : VK} {us : List Value} {vs : List V} (M : Mk X.K C f) (F : FnOk X.prog X.w X.K X.mg X.base CX k f fd ps sp) (hr : Room (k + 1) X.A) (hb : Binds X.K fd ps ds) (hd : Vals dvs ds)
    (hx : Passes CX X E) (I : Inv X pins σ H s) (r : Vals vs us)
    (h : ∀ x dx, H x = none → H dx = none → dx ≠ x → sp (.ref x :: (vs ++ dvs)) (upd (upd H dx (.own x)) x (.ins C dx [])) (fun v H2 => v = .non ∧ Q (.ref x) H2) E) :
    wpAny (model X.prog X.w) X.A (call (.ref C) us) (EP X pins σ Q) X.xe s := by
  have hq := h (s.heap.objs.size + 1) s.heap.objs.size (I.hok.fresh (Nat.le_succ _)) (I.hok.fresh (Nat.le_refl _)) (Nat.ne_of_lt (Nat.lt_succ_self _))
  have I2 := Inv.made (C := C) I
  have r2 : Vals (V.ref (s.heap.objs.size + 1) :: (vs ++ dvs)) (Value.ref (s.heap.objs.size + 1) :: (us ++ ds)) := .cons rfl (r.append hd)
  have hl : (Value.ref (s.heap.objs.size + 1) :: us ++ ds).length = ps.length := by
    have e := r2.length
    rw [F.len _ _ _ _ hq] at e
    exact e.symm
  refine wpAny_call (make_map (f := f) I.kIn M.makes M.init (beq_iff_eq.mp M.fn) (codeAny_mono (F.run _ X.stack _ _ ⟨Value.ref (s.heap.objs.size + 1) :: us, []⟩ (Value.ref (s.heap.objs.size + 1) :: (us ++ ds)) _ _ E (hr.make C us [])
    (I2.env0.make C us []) (hb _ (Value.ref (s.heap.objs.size + 1) :: us) I2.kIn hl) r2 hq) fun r s' hq' => ?_))
  cases r with
  | error e => exact hx pins σ _ _ e s' I2 hq'
  | ok fl =>
    cases fl with
    | ret u =>
      obtain ⟨v, H', I3, rv, ev, q3⟩ := I2.after hq'
      subst ev
      exact ⟨rv, ⟨V.ref (s.heap.objs.size + 1), H', I3, rfl, q3⟩⟩
    | next => exact False.elim hq'
    | brk => exact False.elim hq'
    | cont => exact False.elim hq'
theorem pe_make (M : Mk X.K C f) (F : FnOk X.prog X.w X.K X.mg X.base CX k f fd ps sp) (hr : Room (k + 1) X.A) (hg : Gl X x) (hm : X.mg x = some (.ref C)) (hb : Binds X.K fd ps ds) (hd : Vals dvs ds) (hx : Passes CX X E)
    (ha : PA X (e :: es) t) (hdb : (x == ("__debug__" : Str)) = false := by decide) (he : starEach (e :: es) X.env = (false, eval e X.env) :: starEach es X.env := by rfl) (hpl : (backTo pos (starEach es X.env)).any (·.1) = false := by rfl) :
    PE X (.Call (.Name x p) (e :: es) [] pos) (tMake C sp dvs E t) := by
  intro pins s σ H Q I h
  refine wpAny_Call_Name_kw (ld_glob I hg hm ?_ hdb)
  refine PySem.W.callWith_K (h₀ := X.base) I.ok.mod.kin M.kp (thn (ha pos pins s σ H _ I h) fun us s1 ⟨vs, H1, I1, r, q⟩ => ⟨I1.kIn, ?_⟩) he hpl
  exact run_make M F hr hb hd hx I1 r q
end

section
variable {X : Cx} {CX : CXT} {k : Nat} {f C : Addr} {fd : FuncData} {ps ks : List Str} {sp : Sp} {E : XK} {x m : Str} {p pos apos kpos : Pos} {e o : Expr} {es : List Expr} {kws : List Keyword} {te ta : TE} {t tk : TA} {nm : Option Str}
variable {g : List Value → List Value → List Value} {gV : List V → List V → List V}
end

/-- names: the parameters first -/
structure FnScope (N P : List Str) (sc : Scope) : Prop where
  kind : sc.kind = .function
  co : sc.isCoroutine = false
  gen : sc.isGenerator = false
  nd : N.Nodup
  pre : N.take P.length = P
  par : ∀ x ∈ P, sc.names.lookup x = some .local ∨ sc.names.lookup x = some .cell
  nofree : ∀ y ∈ sc.names, y.2 ≠ .free

theorem bindL_out {kindOf : Str → Option NameKind} {x : Str} : ∀ {binds : List (Str × Value)} {m : Str → Option Value}, (∀ v, (x, v) ∉ binds) → bindL kindOf binds m x = m x
  | [], _, _ => rfl
  | (n, v) :: r, m, h => by
    unfold bindL
    rw [bindL_out fun w hw => h w (List.mem_cons_of_mem _ hw)]
    split
    · have : x ≠ n := by rintro rfl; exact h v List.mem_cons_self
      simp [this]
    · rfl
theorem bindC_out {kindOf : Str → Option NameKind} {x : Str} : ∀ {binds : List (Str × Value)} {m : Str → Option Value}, (∀ v, (x, v) ∉ binds) → bindC kindOf binds m x = m x
  | [], _, _ => rfl
  | (n, v) :: r, m, h => by
    unfold bindC
    rw [bindC_out fun w hw => h w (List.mem_cons_of_mem _ hw)]
    split
    · rfl
    · have : x ≠ n := by rintro rfl; exact h v List.mem_cons_self
      simp [this]
theorem bindL_get {kindOf : Str → Option NameKind} {x : Str} {v : Value} : ∀ {P : List Str} {vs : List Value} {i : Nat} {m : Str → Option Value}, P.Nodup → P[i]? = some x → vs[i]? = some v → kindOf x = some .local →
    bindL kindOf (P.zip vs) m x = some v
  | [], _, _, _, _, h, _, _ => by simp at h
  | _ :: _, [], _, _, _, _, h, _ => by simp at h
  | p :: P, w :: vs, 0, m, nd, h1, h2, hk => by
    simp at h1 h2; subst h1; subst h2
    show bindL kindOf ((p, w) :: P.zip vs) m p = _
    unfold bindL
    rw [bindL_out fun v hv => (List.nodup_cons.mp nd).1 (List.of_mem_zip hv).1, if_pos hk]
    simp
  | p :: P, w :: vs, i + 1, m, nd, h1, h2, hk => by
    show bindL kindOf ((p, w) :: P.zip vs) m x = _
    unfold bindL
    exact bindL_get (i := i) (List.nodup_cons.mp nd).2 (by simpa using h1) (by simpa using h2) hk
theorem bindC_get {kindOf : Str → Option NameKind} {x : Str} {v : Value} : ∀ {P : List Str} {vs : List Value} {i : Nat} {m : Str → Option Value}, P.Nodup → P[i]? = some x → vs[i]? = some v → kindOf x ≠ some .local →
    bindC kindOf (P.zip vs) m x = some v
  | [], _, _, _, _, h, _, _ => by simp at h
  | _ :: _, [], _, _, _, _, h, _ => by simp at h
  | p :: P, w :: vs, 0, m, nd, h1, h2, hk => by
    simp at h1 h2; subst h1; subst h2
    show bindC kindOf ((p, w) :: P.zip vs) m p = _
    unfold bindC
    rw [bindC_out fun v hv => (List.nodup_cons.mp nd).1 (List.of_mem_zip hv).1, if_neg hk]
    simp
  | p :: P, w :: vs, i + 1, m, nd, h1, h2, hk => by
    show bindC kindOf ((p, w) :: P.zip vs) m x = _
    unfold bindC
    exact bindC_get (i := i) (List.nodup_cons.mp nd).2 (by simpa using h1) (by simpa using h2) hk

/-- the names' values at the entry -/
noncomputable def start (N : List Str) (vs : List V) : St := vs.map some ++ List.replicate (N.length - vs.length) none

/-- the context of a def's body, at its entry; an exception leaves the frame, then lies as CX says -/
noncomputable def cxOf (CX : CXT) (P : Program) (w : World) (K : PySem.W.Frag) (mg : Str → Option Value) (base : Heap) (N : List Str) (qual : Str) (scope : Scope) (f : Addr) (cd : Value) (A : Around) (outer : List Env) (s : Shared) (H : Hp) (E : XK) : Cx where
  prog := P
  w := w
  K := K
  mg := mg
  base := base
  A := A.deeper (envOfC qual scope s.heap.objs.size f cd)
  N := N
  s₀ := s
  H₀ := H
  env := envOfC qual scope s.heap.objs.size f cd
  outer := outer
  stack := envOfC qual scope s.heap.objs.size f cd :: outer
  ex := []
  calm := true
  fn := fun _ => true
  pn := []
  xe := fun e s' => wpAny (model P w) (A.deeper (envOfC qual scope s.heap.objs.size f cd)) (leaving (envOfC qual scope s.heap.objs.size f cd) e) (fun _ s'' => CX outer H s E e s'') (fun e' s'' => CX outer H s E e' s'') s'

theorem cell_has {sc : Scope} {n : Nat} {x : Str} (h : sc.names.lookup x = some .cell) : ∃ c, (cellsFrom n sc.names []).lookup x = some c := by
  have q := PySem.W.cellsFrom_some sc.names n [] (.inl h)
  exact Option.isSome_iff_exists.mp q

theorem inv_start {CX : CXT} {P : Program} {w : World} {K : PySem.W.Frag} {mg : Str → Option Value} {base : Heap} {N ps : List Str} {qual : Str} {scope : Scope} {f : Addr} {cd : Value} {A : Around} {outer : List Env} {s s1 : Shared} {H : Hp} {E : XK} {us : List Value} {vs : List V}
    (S : FnScope N ps scope) (hd : A.handled = none) (e0 : Env0 P w K mg base A outer s H) (hl : vs.length = ps.length) (r : Vals vs us)
    (x : InCallC s s.heap.objs.size (bindL (envOfC qual scope s.heap.objs.size f cd).kindOf (ps.zip us) fun _ => none) (cellsFrom (s.heap.objs.size + 1) scope.names []) (bindC (envOfC qual scope s.heap.objs.size f cd).kindOf (ps.zip us) fun _ => none) s1) :
    Inv (cxOf CX P w K mg base N qual scope f cd A outer s H E) [] (start N vs) H s1 := by
  have hpl : ps.length ≤ N.length := by have := congrArg List.length S.pre; rw [List.length_take] at this; (first | lia | omega)
  obtain ⟨h1, tk, rfl, hk⟩ := x.done
  have noA : ∀ b : Addr, b ∉ (cxOf CX P w K mg base N qual scope f cd A outer s H E).ex := fun b z => absurd (show b ∈ ([] : List Addr) from z) (by simp)
  refine ⟨⟨e0.mod, S.kind, rfl, rfl, Nat.le_refl _, fun y z c h1 h2 => ?_, fun y hy => ?_, fun y c _ h => ?_, fun _ => hd, Around.frames_deeper e0.frames, .inr ⟨rfl, rfl⟩, fun b z => absurd z (noA b), e0.bs, e0.bsz, fun b _ _ => noA b, fun b z => absurd z (noA b), e0.funs, e0.frf⟩,
    rfl, e0.bare, Un.kept hk, ⟨_, x.toInCall.ns, fun i y v h1 h2 h3 => ?_⟩, fun y c h => ⟨_, x.cell y c h⟩, e0.hok.fresh (Nat.le_refl _), fun y c h => ?_, fun p hp => absurd (show p ∈ ([] : List (Addr × Obj)) from hp) (by simp), e0.hok.kept hk, ?_⟩
  · exact name_of_addr x.apart (PySem.mem_of_lookup h1) (PySem.mem_of_lookup h2)
  · have hy : scope.names.lookup y = some .cell ∨ scope.names.lookup y = some .free := hy
    rcases hy with hy | hy
    · exact cell_has hy
    · exact absurd rfl (S.nofree _ (PySem.mem_of_lookup hy))
  · exact Nat.le_of_lt (x.above y c (PySem.mem_of_lookup h))
  · have hi : i < vs.length := by
      unfold start at h2
      by_cases hi : i < vs.length
      · exact hi
      · rw [List.getElem?_append_right (by simpa using hi)] at h2
        rw [List.getElem?_replicate] at h2
        split at h2 <;> cases h2
    have ha : vs[i]? = some v := by
      unfold start at h2
      rw [List.getElem?_append_left (by simpa using hi), List.getElem?_map] at h2
      cases e : vs[i]? with
      | none => rw [e] at h2; cases h2
      | some a => rw [e] at h2; cases h2; rfl
    obtain ⟨u, hu, rv⟩ := r.get ha
    have hp : ps[i]? = some y := by
      rw [← S.pre, List.getElem?_take_of_lt (by (first | lia | omega))]; exact h1
    have ndP : ps.Nodup := by rw [← S.pre]; exact S.nd.sublist (List.take_sublist _ _)
    refine ⟨u, rv, ?_⟩
    rcases S.par y (List.mem_of_getElem? hp) with k | k
    · exact .inl ⟨k, bindL_get ndP hp hu k⟩
    · obtain ⟨c, e⟩ := cell_has (n := s.heap.objs.size + 1) k
      refine .inr ⟨.inl k, c, e, ?_⟩
      have q := x.cell y c e
      rw [bindC_get ndP hp hu (by show scope.names.lookup y ≠ _; rw [k]; decide)] at q
      exact q
  · exact e0.hok.fresh (Nat.le_of_lt (x.above y c (PySem.mem_of_lookup h)))
  · unfold start
    show _ = N.length
    rw [List.length_append, List.length_map, List.length_replicate]
    (first | lia | omega)

/-- THE RULE: a def (or a method) of the text, by its body. The body's reading t is chosen for each entry; it is run at the parameters' values -/
theorem fn_of {CX : CXT} {P : Program} {w : World} {K : PySem.W.Frag} {mg : Str → Option Value} {base : Heap} {k : Nat} {f : Addr} {name qual : Str} {params : Arguments} {body : List Stmt} {scope : Scope} {dV kV doc pm cdv ct oc : Value} {an od : Option Addr}
    {osl : Array (Option Value)} {N ps : List Str} {sp : Sp} (lk : K.lookup f = some ⟨oc, od, .func (PySem.W.fnOf name qual params body scope dV kV doc pm an cdv ct), osl⟩) (hcd : PySem.W.codeIn K cdv qual = true) (S : FnScope N ps scope)
    (len : ∀ vs H Q E, sp vs H Q E → vs.length = ps.length)
    (hbody : ∀ (A : Around) (outer : List Env) (s : Shared) (H : Hp) (vs : List V) (Q : VK) (E : XK), Room k (A.deeper (envOfC qual scope s.heap.objs.size f cdv)) → sp vs H Q E →
      ∃ t, PSs (cxOf CX P w K mg base N qual scope f cdv A outer s H E) body t ∧ t { nx := fun _ H' => Q .non H', rt := Q } (start N vs) H) :
    FnOk P w K mg base CX (k + 1) f (PySem.W.fnOf name qual params body scope dV kV doc pm an cdv ct) ps sp := by
  refine ⟨len, fun A outer s H args us vs Q E hr e0 hb r hsp => ?_⟩
  have hl := len _ _ _ _ hsp
  have KX : K.In s.heap := e0.mod.kin.keeps fun b o e => (e0.bs b o e).1
  have lim : s.heap.NoLimit := e0.mod.nolimit.keeps fun b o e => (e0.bs b o e).1
  have hkind : ∀ y ∈ ps.zip us, scope.names.lookup y.1 = some .local ∨ (scope.names.lookup y.1 = some .cell ∧ ((cellsFrom (s.heap.objs.size + 1) scope.names []).lookup y.1).isSome = true) := fun zq81_0 hy => by
    obtain ⟨n, v⟩ := zq81_0
    rcases S.par n (List.of_mem_zip hy).1 with q | q
    · exact .inl q
    · exact .inr ⟨q, PySem.W.cellsFrom_some _ _ _ (.inl q)⟩
  refine codeAny_call_function hr.depth (KX _ _ lk) rfl S.co S.gen rfl (PySem.W.codeRec_of KX hcd) (hb _ _ _ _ ?_)
  refine wpAny_newFunctionEnv_cells S.kind hkind fun env he s1 x => ?_
  subst he
  refine ⟨lim.keeps x.toInCall.keep, codeAny_func ?_⟩
  obtain ⟨t, ht, hq⟩ := hbody A outer s H vs Q E (hr.deeper _) hsp
  have I : Inv (cxOf CX P w K mg base N qual scope f cdv A outer s H E) [] (start N vs) H s1 := inv_start S hr.hd e0 hl r x
  refine wpAny_mono (ht [] s1 (start N vs) H _ I hq) (fun fl s' hs => ?_) fun e s' hs => hs
  have fin : ∀ {σ' : St} {H' : Hp} {v : V} {u : Value}, Inv (cxOf CX P w K mg base N qual scope f cdv A outer s H E) [] σ' H' s' → RelV v u → Q v H' → CE outer P w H s Q u s' :=
    fun {σ' H' v u} J rv q => ⟨v, H', J.os, J.bare, J.base, J.hok, rv, q⟩
  cases fl with
  | ret u =>
    obtain ⟨v, σ', H', J, rv, q⟩ := hs
    exact fin J rv q
  | next =>
    obtain ⟨σ', H', J, q⟩ := hs
    exact fin (v := V.non) (u := Value.none) J rfl q
  | brk =>
    obtain ⟨_, _, _, q⟩ := hs
    exact False.elim q
  | cont =>
    obtain ⟨_, _, _, q⟩ := hs
    exact False.elim q
end L2

namespace L2
open PySem PySem.Spec PyProof.Rows
section
variable {X : Cx} {x : Str} {p pos : Pos} {e : Expr} {es : List Expr} {t : TA} {id T : String} {r : List V → Hp → VK → Prop}

noncomputable def tCB (r : List V → Hp → VK → Prop) (t : TA) : TE := fun σ H Q => t σ H fun vs H1 => r vs H1 Q
/-- f(e, ..), f a built-in function -/
theorem pe_callB (hc : CallR X (.builtin id) r) (hg : Gl X x) (hm : X.mg x = none) (hv : bootBuiltins x = some (.builtin id)) (ha : PA X (e :: es) t) (hn : x ≠ "__name__" := by decide) (hdb : (x == ("__debug__" : Str)) = false := by decide)
    (he : starEach (e :: es) X.env = (false, eval e X.env) :: starEach es X.env := by rfl) (hpl : (backTo pos (starEach es X.env)).any (·.1) = false := by rfl) : PE X (.Call (.Name x p) (e :: es) [] pos) (tCB r t) := by
  intro pins s σ H Q I h
  refine wpAny_Call_Name_kw (ld_blt I hg hm hv ?_ hn hdb)
  exact PyProof.Rows.callWith_builtin1 (thn (ha pos pins s σ H _ I h) fun us s1 zq82_2 => by obtain ⟨vs, H1, I1, r1, q1⟩ := zq82_2; exact hc pins s1 σ H1 vs us Q I1 r1 q1) he hpl
/-- T(e, ..), T a built-in type -/
theorem pe_callTy (hc : CallR X (.type T) r) (hg : Gl X x) (hm : X.mg x = none) (hv : bootBuiltins x = some (.type T)) (ha : PA X (e :: es) t) (hn : x ≠ "__name__" := by decide) (hdb : (x == ("__debug__" : Str)) = false := by decide)
    (he : starEach (e :: es) X.env = (false, eval e X.env) :: starEach es X.env := by rfl) (hpl : (backTo pos (starEach es X.env)).any (·.1) = false := by rfl) : PE X (.Call (.Name x p) (e :: es) [] pos) (tCB r t) := by
  intro pins s σ H Q I h
  refine wpAny_Call_Name_kw (ld_blt I hg hm hv ?_ hn hdb)
  exact PyProof.Rows.callWith_type1 (thn (ha pos pins s σ H _ I h) fun us s1 zq83_2 => by obtain ⟨vs, H1, I1, r1, q1⟩ := zq83_2; exact hc pins s1 σ H1 vs us Q I1 r1 q1) he hpl
end
end L2

namespace HT
open PySem PyProof.Rows

section
open PySem.SeqAt
open PySem.AutoSeq1 (wpAny_loadPart')
open PySem.MeetsSeq PySem.MeetsSeq2 PySem.MeetsSeq3

end

section
variable {prog : Program} {w : World} {A : Around} {E : Value → Shared → Prop} {s : Shared}

/-- a slice's bound as a place among n (d where it is left out) -/
noncomputable def sIx (n d : Nat) : Option Int → Nat
  | none => d
  | some v => if v < 0 then (v + (n : Int)).toNat else min v.toNat n
theorem sIx_nat (n d k : Nat) : sIx n d (some (k : Int)) = min k n := by
  show (if (k : Int) < 0 then ((k : Int) + (n : Int)).toNat else min (k : Int).toNat n) = min k n
  rw [if_neg (by (first | lia | omega)), Int.toNat_natCast]
end
end HT

namespace L2
open PySem PySem.Spec PyProof.Rows

noncomputable abbrev TO := St → Hp → (Option Int → Hp → Prop) → Prop
/-- a slice's part (left out, or an int) -/
noncomputable def PO (X : Cx) (e : Option Expr) (t : TO) : Prop :=
  ∀ (pins : List (Addr × Obj)) (s : Shared) (σ : St) (H : Hp) (Q : Option Int → Hp → Prop), Inv X pins σ H s → t σ H Q →
    wpAny (model X.prog X.w) X.A (evalPart e X.env) (fun u s' => ∃ o H', Inv X pins σ H' s' ∧ IsPart u o ∧ Q o H') X.xe s
noncomputable def tNoPart : TO := fun _ H Q => Q none H
noncomputable def tPart (t : TE) : TO := fun σ H Q => t σ H fun x H1 => ∃ i, x = .int i ∧ Q (some i) H1

theorem intsAre_of {ns : List Int} : ∀ {us : List Value}, Vals (ns.map V.int) us → IntsAre us ns := by
  induction ns with
  | nil => intro us r; rw [List.map_nil] at r; cases r; exact .nil
  | cons n ns ih =>
    intro us r
    rw [List.map_cons] at r
    cases r with
    | cons r1 r2 =>
      obtain ⟨t, e⟩ := r1
      subst e
      exact .cons n t (ih r2)

section
variable {X : Cx} {e : Expr} {te : TE} {lo hi : Option Expr} {tl th : TO} {pos p2 : Pos}

theorem po_none : PO X none tNoPart := by
  intro pins s σ H Q I h
  rw [evalPart_none]
  exact wpAny_pure ⟨none, H, I, .none, h⟩
theorem po_some (h : PE X e te) : PO X (some e) (tPart te) := by
  intro pins s σ H Q I hw
  rw [evalPart_some]
  refine thn (h pins s σ H _ I hw) fun u s1 zq84_2 => ?_
  obtain ⟨x, H1, I1, r1, q1⟩ := zq84_2
  obtain ⟨i, rfl, q⟩ := q1
  obtain ⟨t, rfl⟩ := r1
  exact ⟨some i, H1, I1, .int i t, q⟩

/-- what a slice of a value is, by values: the slice object stands at sl -/
noncomputable def SlR (X : Cx) (r : V → Option Int → Option Int → Hp → VK → Prop) : Prop :=
  ∀ (pins : List (Addr × Obj)) (s : Shared) (σ : St) (H : Hp) (x : V) (v vl vu : Value) (lo hi : Option Int) (sl : Addr) (Q : VK), Inv X pins σ H s → RelV x v → s.heap.IsSliceOf sl vl vu .none → IsPart vl lo → IsPart vu hi → r x lo hi H Q →
    ∃ T id, typeLookup (.type T) "__getitem__" = pure (some (.builtin id)) ∧ s.TypeIs v T ∧ wpAny (model X.prog X.w) X.A (getItem v (.ref sl)) (EP X pins σ Q) X.xe s
noncomputable def tSl (r : V → Option Int → Option Int → Hp → VK → Prop) (te : TE) (tl th : TO) : TE := fun σ H Q => te σ H fun x H1 => tl σ H1 fun l H2 => th σ H2 fun u H3 => r x l u H3 Q
/-- a[lo:hi], any a -/
theorem pe_slice {r : V → Option Int → Option Int → Hp → VK → Prop} (hr : SlR X r) (he : PE X e te) (hl : PO X lo tl) (hu : PO X hi th) : PE X (.Subscript e (.Slice lo hi none p2) pos) (tSl r te tl th) := by
  intro pins s σ H Q I h
  refine Subscript_ (thn (he pins s σ H _ I h) fun v s1 zq85_2 => ?_)
  obtain ⟨x, H1, I1, r1, q1⟩ := zq85_2
  refine wpAny_Slice (thn (hl pins s1 σ H1 _ I1 q1) fun vl s2 zq86_2 => ?_)
  obtain ⟨l, H2, I2, pl, q2⟩ := zq86_2
  refine thn (hu pins s2 σ H2 _ I2 q2) fun vu s3 zq87_2 => ?_
  obtain ⟨u, H3, I3, pu, q3⟩ := zq87_2
  rw [evalPart_none]
  refine wpAny_pure ?_
  have I4 : Inv X pins σ H3 { s3 with heap := s3.heap.push { cls := .type "slice", data := .fields #[vl, vu, .none] } } := I3.kept (t' := s3.toks) fun b ob q => Heap.get?_push_of_some _ q
  obtain ⟨T, id, hT, ht, hg⟩ := hr pins { s3 with heap := s3.heap.push { cls := .type "slice", data := .fields #[vl, vu, .none] } } σ H3 x v vl vu l u s3.heap.objs.size Q I4 r1 (Heap.IsSliceOf.new ..) pl pu q3
  show wpAny (model X.prog X.w) X.A (subscriptTail e (.Slice lo hi none p2) v (.ref s3.heap.objs.size)) (EP X pins σ Q) X.xe { s3 with heap := s3.heap.push { cls := .type "slice", data := .fields #[vl, vu, .none] } }
  exact tail_any (ops := [.ref s3.heap.objs.size, v]) ht hT hg (by with_unfolding_all rfl)

/-- the items of xs[lo:hi] -/
noncomputable def cutV (xs : List V) (lo hi : Option Int) : List V := (xs.drop (HT.sIx xs.length 0 lo)).take (HT.sIx xs.length xs.length hi - HT.sIx xs.length 0 lo)
theorem cutV_length (xs : List V) (lo hi : Option Int) : (cutV xs lo hi).length ≤ xs.length := by
  unfold cutV
  rw [List.length_take, List.length_drop]
  (first | lia | omega)
end
end L2

namespace L2
open PySem PySem.Spec PyProof.Rows

/-- the place that an index of any sign means -/
noncomputable def ixN (n : Nat) (i : Int) : Option Nat := if 0 ≤ i then (if i < n then some i.toNat else none) else if -(n : Int) ≤ i then some (i + n).toNat else none
noncomputable def atI {α : Type} (xs : List α) (i : Int) : Option α := (ixN xs.length i).bind fun j => xs[j]?
theorem ixN_seq {n : Nat} {i : Int} {j : Nat} (h : ixN n i = some j) : seqIndex? i n = some j ∧ j < n ∧ -(n : Int) ≤ i ∧ i < n := by
  unfold ixN at h
  by_cases h0 : 0 ≤ i
  · rw [if_pos h0] at h
    by_cases h1 : i < n
    · rw [if_pos h1] at h
      have e : i.toNat = j := Option.some.inj h
      exact ⟨by rw [seqIndex_of h0 h1, e], by (first | lia | omega), by (first | lia | omega), h1⟩
    · rw [if_neg h1] at h; cases h
  · rw [if_neg h0] at h
    by_cases h1 : -(n : Int) ≤ i
    · rw [if_pos h1] at h
      have e : (i + n).toNat = j := Option.some.inj h
      exact ⟨by rw [seqIndex_neg (by (first | lia | omega)) h1, e], by (first | lia | omega), h1, by (first | lia | omega)⟩
    · rw [if_neg h1] at h; cases h
theorem atI_get {α : Type} {xs : List α} {i : Int} {v : α} (h : atI xs i = some v) : ∃ j, seqIndex? i xs.length = some j ∧ xs[j]? = some v ∧ j < xs.length ∧ -(xs.length : Int) ≤ i ∧ i < xs.length := by
  unfold atI at h
  cases e : ixN xs.length i with
  | none => rw [e] at h; cases h
  | some j =>
    rw [e] at h
    obtain ⟨h1, h2, h3, h4⟩ := ixN_seq e
    exact ⟨j, h1, h, h2, h3, h4⟩
/-- what stands as an index of a plain subscript -/
noncomputable def PlainIx (b : Expr) : Prop := ∀ o i, subscripted b false o i = operate [o, i] (getItem o i)
/-- a subscript by values -/
noncomputable def IxR (X : Cx) (r : R2) : Prop :=
  ∀ (value slice : Expr) (pins : List (Addr × Obj)) (s : Shared) (σ : St) (H : Hp) (x y : V) (v u : Value) (Q : VK), Inv X pins σ H s → RelV x v → RelV y u → r x y H Q →
    subscripted slice false v u = operate [v, u] (getItem v u) → wpAny (model X.prog X.w) X.A (subscriptTail value slice v u) (EP X pins σ Q) X.xe s
/-- a call of a builtin's method by values: the receiver, the arguments -/
noncomputable def MtR (X : Cx) (id : String) (r : V → List V → Hp → VK → Prop) : Prop :=
  ∀ (pins : List (Addr × Obj)) (s : Shared) (σ : St) (H : Hp) (x : V) (xs : List V) (v : Value) (us : List Value) (Q : VK), Inv X pins σ H s → RelV x v → Vals xs us → r x xs H Q →
    wpAny (model X.prog X.w) X.A (call (.builtin id) (v :: us)) (EP X pins σ Q) X.xe s
section
variable {X : Cx} {a b : Expr} {ta tb : TE} {pos : Pos}
/-- a[b] -/
theorem pe_ix {r : R2} (hr : IxR X r) (ha : PE X a ta) (hb : PE X b tb) (hs : PlainIx b) : PE X (.Subscript a b pos) (tOp r ta tb) := by
  intro pins s σ H Q I h
  exact Subscript_ (binT ha hb I h fun v u s2 x y H2 I2 rx ry q => hr a b pins s2 σ H2 x y v u Q I2 rx ry q (hs _ _))

noncomputable def rIxL (K : PySem.W.Frag) : R2 := fun x y H Q => ∃ p xs i v, x = .ref p ∧ y = .int i ∧ SqL K H p xs ∧ atI xs i = some v ∧ Q v H
noncomputable def rIxT (K : PySem.W.Frag) : R2 := fun x y H Q => ∃ p xs i v, x = .ref p ∧ y = .int i ∧ SqT K H p xs ∧ atI xs i = some v ∧ Q v H
theorem ix_list : IxR X (rIxL X.K) := by
  intro value slice pins s σ H x y v u Q I rx ry h hs
  obtain ⟨p, xs, i, z, rfl, rfl, hq, he, q⟩ := h
  cases rx
  obtain ⟨t, rfl⟩ := ry
  obtain ⟨its, r, pl, hz⟩ := I.list hq
  obtain ⟨j, h1, h2, h3, h4, h5⟩ := atI_get he
  obtain ⟨w, ew, rw'⟩ := r.get h2
  have hl := r.length
  have hn := line63
  have fin : EP X pins σ Q w s := ⟨z, H, I, rw', q⟩
  by_cases h0 : 0 ≤ i
  · have hj : i.toNat = j := by
      rw [seqIndex_of h0 h5] at h1
      exact Option.some.inj h1
    exact item_listR pl.isList h0 (by (first | lia | omega)) (by rw [hj]; simpa using ew) fin hs
  · have hj : (i + (its.toArray.size : Int)).toNat = j := by
      rw [seqIndex_neg (by (first | lia | omega)) h4] at h1
      rw [List.size_toArray, ← hl]
      exact Option.some.inj h1
    exact subscriptTail_builtinR (x := w) pl.isList.typeIs slot_list_getitem.lookup
      (wpAny_getItem_list_neg (Q := fun r s' => r = w ∧ EP X pins σ Q r s') pl.isList (by (first | lia | omega)) (by rw [List.size_toArray] <;> (first | lia | omega)) (by (first | lia | omega)) (by rw [hj]; simpa using ew) ⟨rfl, fin⟩) hs
theorem ix_tup : IxR X (rIxT X.K) := by
  intro value slice pins s σ H x y v u Q I rx ry h hs
  obtain ⟨p, xs, i, z, rfl, rfl, hq, he, q⟩ := h
  cases rx
  obtain ⟨t, rfl⟩ := ry
  obtain ⟨its, r, pl, hz⟩ := I.tuple hq
  obtain ⟨j, h1, h2, h3, h4, h5⟩ := atI_get he
  obtain ⟨w, ew, rw'⟩ := r.get h2
  have hl := r.length
  have hn := line63
  have fin : EP X pins σ Q w s := ⟨z, H, I, rw', q⟩
  exact subscriptTail_builtinR (x := w) pl.typeIs slot_tuple_getitem.lookup
    (getItem_tuple (j := j) (Q := fun r s' => r = w ∧ EP X pins σ Q r s') pl (by (first | lia | omega)) (by (first | lia | omega)) (by rw [List.size_toArray, ← hl]; exact h1) (by simpa using ew) ⟨rfl, fin⟩) hs
theorem slice_bounds (lo hi : Option Int) (n : Nat) : (sliceBounds lo hi none n).1 = ((HT.sIx n 0 lo : Nat) : Int) ∧ (sliceBounds lo hi none n).2.1 = ((HT.sIx n n hi : Nat) : Int) ∧ (sliceBounds lo hi none n).2.2 = 1 := by
  refine ⟨?_, ?_, rfl⟩
  · cases lo with
    | none => simp [sliceBounds, HT.sIx]
    | some i =>
      simp only [sliceBounds, HT.sIx, Option.getD_none, show (1 : Int) > 0 by decide, if_true]
      by_cases h : i < 0
      · simp only [h, if_true] <;> (first | lia | omega)
      · simp only [h, if_false] <;> (first | lia | omega)
  · cases hi with
    | none => simp [sliceBounds, HT.sIx]
    | some i =>
      simp only [sliceBounds, HT.sIx, Option.getD_none, show (1 : Int) > 0 by decide, if_true]
      by_cases h : i < 0
      · simp only [h, if_true] <;> (first | lia | omega)
      · simp only [h, if_false] <;> (first | lia | omega)
theorem slicePick_cut (its : List Value) (lo hi : Option Int) : slicePick its.toArray lo hi none = ((its.drop (HT.sIx its.length 0 lo)).take (HT.sIx its.length its.length hi - HT.sIx its.length 0 lo)).toArray := by
  obtain ⟨h1, h2, h3⟩ := slice_bounds lo hi its.toArray.size
  unfold slicePick
  rw [h1, h2, h3]
  simp only [sliceRange_one, pick_run, List.size_toArray] <;> rfl
/-- xs[lo:hi] of a list: a new list -/
noncomputable def rSlL (K : PySem.W.Frag) : V → Option Int → Option Int → Hp → VK → Prop := fun x lo hi H Q => ∃ a xs, x = .ref a ∧ SqL K H a xs ∧ ∀ p, H p = none → Q (.ref p) (upd H p (.lst (cutV xs lo hi)))
theorem sl_list : SlR X (rSlL X.K) := by
  intro pins s σ H x v vl vu lo hi sl Q I rx hs pl pu h
  obtain ⟨a, xs, rfl, hx, q⟩ := h
  cases rx
  obtain ⟨its, r, ht, hz⟩ := I.list hx
  have hlen := r.length
  refine ⟨"list", _, slot_list_getitem.lookup, ht.isList.typeIs, ?_⟩
  refine wpAny_getItem_list_slice ht.isList hs pl pu .none (by simp) ?_ (by rw [List.size_toArray] <;> (first | lia | omega))
  rw [slicePick_cut, ← hlen]
  refine ⟨.ref s.heap.objs.size, _, I.laid (t' := s.toks) (o := .lst (cutV xs lo hi)) (fun b ob q => Heap.get?_push_of_some _ q) (Nat.le_refl _) ?_, rfl, q _ (I.hok.fresh (Nat.le_refl _))⟩
  exact ⟨Nat.le_trans (cutV_length xs lo hi) hz, _, 0, (r.drop (HT.sIx xs.length 0 lo)).take (HT.sIx xs.length xs.length hi - HT.sIx xs.length 0 lo), Heap.get?_push_size _ rfl⟩

noncomputable def flatV : V → Bool
  | .non => true
  | .bl _ => true
  | .int _ => true
  | .str _ => true
  | _ => false
/-- == of flat values -/
noncomputable def eqV : V → V → Bool
  | .non, .non => true
  | .bl a, .bl b => a == b
  | .bl a, .int b => (if a then 1 else 0) == b
  | .int a, .bl b => a == (if b then 1 else 0)
  | .int a, .int b => a == b
  | .str a, .str b => a == b
  | _, _ => false
theorem eqAt_V {A : Around} {s : Shared} {y x : V} {u v : Value} (ry : RelV y u) (rx : RelV x v) (fy : flatV y = true) (fx : flatV x = true) : SeqAt.EqAt A s u v (eqV y x) := by
  cases y with
  | non =>
    cases ry
    cases x with
    | non => cases rx; exact SeqAt.EqAt.same _
    | bl b => cases rx; exact SeqAt.EqAt.none_bool b
    | int b => obtain ⟨t, rfl⟩ := rx; exact SeqAt.EqAt.none_int b t
    | str b => obtain ⟨t, rfl⟩ := rx; exact SeqAt.EqAt.none_str b t
    | _ => exact absurd (show false = true from fx) Bool.false_ne_true
  | bl a =>
    cases ry
    cases x with
    | non => cases rx; exact SeqAt.EqAt.bool_none a
    | bl b => cases rx; exact SeqAt.EqAt.bool_bool a b
    | int b => obtain ⟨t, rfl⟩ := rx; exact SeqAt.EqAt.bool_int a b t
    | str b => obtain ⟨t, rfl⟩ := rx; exact SeqAt.EqAt.bool_str a b t
    | _ => exact absurd (show false = true from fx) Bool.false_ne_true
  | int a =>
    obtain ⟨t', rfl⟩ := ry
    cases x with
    | non => cases rx; exact SeqAt.EqAt.int_none a t'
    | bl b => cases rx; exact SeqAt.EqAt.int_bool a t' b
    | int b => obtain ⟨t, rfl⟩ := rx; exact SeqAt.EqAt.int_int a t' b t
    | str b => obtain ⟨t, rfl⟩ := rx; exact SeqAt.EqAt.int_str a t' b t
    | _ => exact absurd (show false = true from fx) Bool.false_ne_true
  | str a =>
    obtain ⟨t', rfl⟩ := ry
    cases x with
    | non => cases rx; exact SeqAt.EqAt.str_none a t'
    | bl b => cases rx; exact SeqAt.EqAt.str_bool a t' b
    | int b => obtain ⟨t, rfl⟩ := rx; exact SeqAt.EqAt.str_int a t' b t
    | str b => obtain ⟨t, rfl⟩ := rx; exact SeqAt.EqAt.str_str a t' b t
    | _ => exact absurd (show false = true from fx) Bool.false_ne_true
  | _ => exact absurd (show false = true from fy) Bool.false_ne_true
/-- the items' answers, read off the values (a value's own answer does not lean on its token) -/
noncomputable def eqU (x : V) (u : Value) : Bool := match u with
  | .none => eqV .non x
  | .bool b => eqV (.bl b) x
  | .int i _ => eqV (.int i) x
  | .str z _ => eqV (.str z) x
  | _ => false
theorem eqU_of {x y : V} {u : Value} (r : RelV y u) (f : flatV y = true) : eqU x u = eqV y x := by
  cases y with
  | non => cases r; rfl
  | bl b => cases r; rfl
  | int i => obtain ⟨t, rfl⟩ := r; rfl
  | str z => obtain ⟨t, rfl⟩ := r; rfl
  | _ => exact absurd (show false = true from f) Bool.false_ne_true
theorem any_eqU {x : V} : ∀ {xs : List V} {us : List Value}, Vals xs us → xs.all flatV = true → us.any (eqU x) = xs.any fun y => eqV y x
  | _, _, .nil, _ => rfl
  | y :: xs, u :: us, .cons r t, f => by
    rw [List.all_cons, Bool.and_eq_true] at f
    rw [List.any_cons, List.any_cons, eqU_of r f.1, any_eqU t f.2]
theorem mem_eqAt {A : Around} {s : Shared} {x : V} {v : Value} (rx : RelV x v) (fx : flatV x = true) : ∀ {xs : List V} {us : List Value}, Vals xs us → xs.all flatV = true → ∀ u ∈ us, SeqAt.EqAt A s u v (eqU x u)
  | _, _, .nil, _ => fun u hu => by cases hu
  | y :: xs, u :: us, .cons r t, f => fun u' hu => by
    rw [List.all_cons, Bool.and_eq_true] at f
    rcases List.mem_cons.mp hu with rfl | hu
    · rw [eqU_of r f.1]; exact eqAt_V r rx f.1 fx
    · exact mem_eqAt rx fx t f.2 u' hu
noncomputable def inV (x : V) (xs : List V) : Bool := xs.any fun y => eqV y x
/-- x in a list or tuple of flat items -/
noncomputable def rIn (K : PySem.W.Frag) (neg : Bool) : R2 := fun x y H Q => ∃ p xs, y = .ref p ∧ (SqL K H p xs ∨ SqT K H p xs) ∧ flatV x = true ∧ xs.all flatV = true ∧ Q (.bl (if neg then !inV x xs else inV x xs)) H
theorem op_in_seq : OpR X (compareOp .In) (rIn X.K false) := by
  intro pins s σ H x y v u Q I rx ry h
  obtain ⟨p, xs, rfl, hq, fx, fs, q⟩ := h
  cases ry
  rcases hq with hq | hq
  · obtain ⟨its, r, pl, hz⟩ := I.list hq
    refine SeqAt.in_listAt (eqU x) pl.isList (fun w hw => mem_eqAt rx fx r fs w (by simpa using hw)) ⟨.bl _, H, I, rfl, ?_⟩
    rw [show its.toArray.any (eqU x) = its.any (eqU x) by simp, any_eqU r fs]
    exact q
  · obtain ⟨its, r, pl, hz⟩ := I.tuple hq
    refine SeqAt.in_tupleAt (eqU x) pl (fun w hw => mem_eqAt rx fx r fs w (by simpa using hw)) ⟨.bl _, H, I, rfl, ?_⟩
    rw [show its.toArray.any (eqU x) = its.any (eqU x) by simp, any_eqU r fs]
    exact q
theorem op_notIn_seq : OpR X (compareOp .NotIn) (rIn X.K true) := by
  intro pins s σ H x y v u Q I rx ry h
  obtain ⟨p, xs, rfl, hq, fx, fs, q⟩ := h
  cases ry
  rcases hq with hq | hq
  · obtain ⟨its, r, pl, hz⟩ := I.list hq
    refine SeqAt.notIn_listAt (eqU x) pl.isList (fun w hw => mem_eqAt rx fx r fs w (by simpa using hw)) ⟨.bl _, H, I, rfl, ?_⟩
    rw [show its.toArray.any (eqU x) = its.any (eqU x) by simp, any_eqU r fs]
    exact q
  · obtain ⟨its, r, pl, hz⟩ := I.tuple hq
    refine SeqAt.notIn_tupleAt (eqU x) pl (fun w hw => mem_eqAt rx fx r fs w (by simpa using hw)) ⟨.bl _, H, I, rfl, ?_⟩
    rw [show its.toArray.any (eqU x) = its.any (eqU x) by simp, any_eqU r fs]
    exact q
theorem call_len_seq : CallR X (.builtin "len") (fun xs H Q => ∃ p ys, xs = [.ref p] ∧ (SqL X.K H p ys ∨ SqT X.K H p ys) ∧ Q (.int ys.length) H) := by
  intro pins s σ H xs us Q I r h
  obtain ⟨p, ys, rfl, hq, q⟩ := h
  obtain ⟨u, rfl, rx⟩ := vals1 r
  cases rx
  have hn := line63
  rcases hq with hq | hq
  · obtain ⟨its, r', pl, hz⟩ := I.list hq
    have hlen := r'.length
    exact Calls.call_len_list pl.isList (by simp only [List.size_toArray] <;> (first | lia | omega)) ⟨.int ys.length, H, I.tok _, ⟨s.toks + 1, by rw [List.size_toArray, hlen]⟩, q⟩
  · obtain ⟨its, r', pl, hz⟩ := I.tuple hq
    have hlen := r'.length
    exact len_tuple pl (by simp only [List.size_toArray] <;> (first | lia | omega)) ⟨.int ys.length, H, I.tok _, ⟨s.toks + 1, by rw [List.size_toArray, hlen]⟩, q⟩
theorem call_list_of : CallR X (.type "list") (fun xs H Q => ∃ p ys, xs = [.ref p] ∧ (SqL X.K H p ys ∨ SqT X.K H p ys) ∧ ∀ l, H l = none → Q (.ref l) (upd H l (.lst ys))) := by
  intro pins s σ H xs us Q I r h
  obtain ⟨p, ys, rfl, hq, q⟩ := h
  obtain ⟨u, rfl, rx⟩ := vals1 r
  cases rx
  have fin : ∀ (its : List Value), Vals ys its → ys.length ≤ sizeLine → ∀ (h' : Heap) (c' : Nat), (∀ b o', s.heap.get? b = some o' → h'.get? b = some o') →
      h'.get? s.heap.objs.size = some { cls := .type "list", dict := none, data := .seq its.toArray c', slots := #[] } → EP X pins σ Q (.ref s.heap.objs.size) { s with heap := h' } := fun its r' hz h' c' kp e =>
    ⟨.ref s.heap.objs.size, _, I.laid (t' := s.toks) kp (Nat.le_refl _) (show ObjOk X.prog X.w _ h' _ (.lst ys) from ⟨hz, its, c', r', e⟩), rfl, q _ (I.hok.fresh (Nat.le_refl _))⟩
  rcases hq with hq | hq
  · obtain ⟨its, r', pl, hz⟩ := I.list hq
    have hlen := r'.length
    obtain ⟨o, ho, hc, n, hd⟩ := pl.isList
    exact call_list_seq p (.inl rfl) ho hc hd (fun h' c' kp e => fin its r' hz h' c' kp e) (by simp only [List.size_toArray] <;> (first | lia | omega))
  · obtain ⟨its, r', pl, hz⟩ := I.tuple hq
    have hlen := r'.length
    obtain ⟨o, ho, hc, n, hd⟩ := pl
    exact call_list_seq p (.inr rfl) ho hc hd (fun h' c' kp e => fin its r' hz h' c' kp e) (by simp only [List.size_toArray] <;> (first | lia | omega))
/-- the value is of that builtin type -/
noncomputable def tyV (K : PySem.W.Frag) (T : String) (x : V) (H : Hp) : Prop := match x with
  | .str _ => T = "str"
  | .int _ => T = "int"
  | .ref p => (T = "list" ∧ ∃ xs, SqL K H p xs) ∨ (T = "tuple" ∧ ∃ o, K.lookup p = some o ∧ o.cls = .type "tuple" ∧ o.dict = none) ∨
      (T = "dict" ∧ ((∃ kvs, H p = some (.dK kvs)) ∨ ∃ kvs, H p = some (.dT kvs))) ∨ (T = "set" ∧ ∃ S n, H p = some (.set S n))
  | _ => False
theorem tyV_is {pins : List (Addr × Obj)} {σ : St} {H : Hp} {s : Shared} {T : String} {x : V} {v : Value} (I : Inv X pins σ H s) (r : RelV x v) (ty : tyV X.K T x H) :
    s.TypeIs v T ∧ ∀ a, v = .ref a → ∃ ob, s.heap.get? a = some ob ∧ ob.dict = none := by
  cases x with
  | str z =>
    obtain ⟨t, rfl⟩ := r
    cases (show T = "str" from ty)
    exact ⟨typeIs_str s z t, fun _ e => nomatch e⟩
  | int i =>
    obtain ⟨t, rfl⟩ := r
    cases (show T = "int" from ty)
    exact ⟨typeIs_int s i t, fun _ e => nomatch e⟩
  | ref p =>
    cases r
    rcases ty with ⟨rfl, xs, hq⟩ | ⟨rfl, o, hk, hc, hd⟩ | ⟨rfl, hk⟩ | ⟨rfl, S, n, hk⟩
    · obtain ⟨its, _, pl, _⟩ := I.list hq
      refine ⟨pl.isList.typeIs, fun a e => ?_⟩
      cases e
      obtain ⟨o, n, e, c, hd, _⟩ := pl
      exact ⟨o, e, hd⟩
    · refine ⟨⟨o, I.kIn p o hk, hc⟩, fun a e => ?_⟩
      cases e
      exact ⟨o, I.kIn _ o hk, hd⟩
    · have z : ∃ o, s.heap.get? p = some o ∧ o.ExactDict := by
        rcases hk with ⟨kvs, hk⟩ | ⟨kvs, hk⟩
        · obtain ⟨_, _, _, _, o, _, _, e, ex, _⟩ := I.hok p _ hk
          exact ⟨o, e, ex⟩
        · obtain ⟨_, _, _, _, o, _, _, e, ex, _⟩ := I.hok p _ hk
          exact ⟨o, e, ex⟩
      obtain ⟨o, e, ex⟩ := z
      refine ⟨⟨o, e, ex.1⟩, fun a e2 => ?_⟩
      cases e2
      exact ⟨o, e, ex.2.1⟩
    · obtain ⟨o, _, _, _, e, ex, _⟩ := I.hok p _ hk
      refine ⟨⟨o, e, ex.1⟩, fun a e2 => ?_⟩
      cases e2
      exact ⟨o, e, ex.2.1⟩
  | _ => exact False.elim ty
noncomputable def tBM (K : PySem.W.Frag) (T : String) (r : V → List V → Hp → VK → Prop) (to : TE) (t : TA) : TE := fun σ H Q => to σ H fun x H1 => tyV K T x H1 ∧ t σ H1 fun xs H2 => r x xs H2 Q
variable {o e : Expr} {es : List Expr} {to : TE} {t : TA} {name : Str} {apos cpos : Pos} {T id : String} {r : V → List V → Hp → VK → Prop}
theorem pe_bm (pa : PlainAttrs T) (slot : Slot T name id) (hty : typeOf (.builtin id) = pure (.type "method_descriptor")) (hm : MtR X id r) (ho : PE X o to) (ha : PA X (e :: es) t)
    (hbase : attributeBase o name X.env (eval o X.env) = eval o X.env := by rfl)
    (hfew : ((backTo cpos (starEach (e :: es) X.env)).all (fun x => !x.1) && (backToKw cpos (keywordEach [] X.env)).all (fun x => x.1.isSome)
      && decide ((e :: es).length + ([] : List Keyword).length + (if ([] : List Keyword).isEmpty then 0 else 1) < 30)) = true := by rfl)
    (hline : (apos.endLine == cpos.line) = true := by rfl) (hs : starEach (e :: es) X.env = (false, eval e X.env) :: starEach es X.env := by rfl) (hplain : (backTo cpos (starEach es X.env)).any (·.1) = false := by rfl) :
    PE X (.Call (.Attribute o name apos) (e :: es) [] cpos) (tBM X.K T r to t) := by
  intro pins s σ H Q I h
  refine wpAny_Call_method_late hbase hfew hline rfl (thn (ho pins s σ H _ I h) fun v s1 zq89_2 => ?_)
  obtain ⟨x, H1, I1, r1, ty, q1⟩ := zq89_2
  obtain ⟨h1, h2⟩ := tyV_is I1 r1 ty
  refine ⟨T, id, pa, slot, hty, h1, h2, ?_⟩
  have hA := ha cpos pins s1 σ H1 _ I1 q1
  rw [hs] at hA ⊢
  refine Calls.callWith_builtin (by show (false || (backTo cpos (starEach es X.env)).any (·.1)) = false; rw [hplain] <;> rfl) (Calls.evalArgs_plain ?_)
  exact thn hA fun us s2 zq90_2 => by obtain ⟨vs, H2, I2, r2, q2⟩ := zq90_2; exact hm pins s2 σ H2 x vs v us Q I2 r1 r2 q2
end
end L2

namespace L2
open PySem PySem.Spec PyProof.Rows

noncomputable def MtM (X : Cx) (id : String) (r : V → List V → Hp → VK → Prop) : Prop :=
  ∀ (pins : List (Addr × Obj)) (s : Shared) (σ : St) (H : Hp) (x : V) (xs : List V) (v : Value) (us : List Value) (Q : VK), Inv X pins σ H s → RelV x v → Vals xs us → r x xs H Q →
    wpAny (model X.prog X.w) X.A (call (.builtin id) (v :: us)) (EP X pins σ Q) X.xe s

theorem Vals.one : ∀ {x : V} {us : List Value}, Vals [x] us → ∃ u, us = [u] ∧ RelV x u
  | _, _, .cons r .nil => ⟨_, rfl, r⟩
theorem Vals.rep {xs : List V} {us : List Value} (h : Vals xs us) : ∀ k : Nat, Vals (List.replicate k xs).flatten (List.replicate k us).flatten
  | 0 => .nil
  | k + 1 => by
    rw [List.replicate_succ, List.replicate_succ, List.flatten_cons, List.flatten_cons]
    exact Vals.append h (Vals.rep h k)
theorem foldl_rep (its : List Value) : ∀ (k : Nat) (acc : List Value),
    List.foldl (fun x1 x2 => x1 ++ x2) acc.toArray (List.replicate k its.toArray) = (acc ++ (List.replicate k its).flatten).toArray
  | 0, acc => by simp
  | k + 1, acc => by
    have e : acc.toArray ++ its.toArray = (acc ++ its).toArray := by simp
    have e2 : (acc ++ its) ++ (List.replicate k its).flatten = acc ++ (List.replicate (k + 1) its).flatten := by
      rw [List.replicate_succ, List.flatten_cons, List.append_assoc]
    rw [← e2, ← foldl_rep its k (acc ++ its), ← e, List.replicate_succ, List.foldl_cons]

section
variable {X : Cx} {pins : List (Addr × Obj)} {σ : St} {H : Hp} {s : Shared} {l b : Addr} {xs ys zs : List V}

theorem Inv.lset {its its' : List Value} {n : Nat} {f : Array Value → Array Value} {t' : Nat} (I : Inv X pins σ H s) (hH : H l = some (.lst xs))
    (e : s.heap.get? l = some { cls := .type "list", data := .seq its.toArray n }) (hf : f its.toArray = its'.toArray) (hv : Vals ys its') (hz : ys.length ≤ sizeLine) :
    Inv X pins σ (upd H l (.lst ys)) { s with heap := s.heap.update l (Obj.mapSeq f), toks := t' } := by
  have q := PySem.IsL.update e f
  rw [hf] at q
  refine I.write (x := l) (e := l) (by rw [hH]; exact trivial) (.inl rfl) (fun b' u hb hu => (Heap.get?_update_other s.heap (Obj.mapSeq f) (Ne.symm hb)).trans hu) ⟨_, q⟩ ?_
  exact ⟨hz, its', _, hv, q⟩
theorem Inv.lnew {its : List Value} {t' : Nat} (I : Inv X pins σ H s) (hv : Vals ys its) (hz : ys.length ≤ sizeLine) :
    Inv X pins σ (upd H s.heap.objs.size (.lst ys)) { s with heap := s.heap.push { cls := .type "list", data := .seq its.toArray }, toks := t' } :=
  I.laid (fun _ _ q => Heap.get?_push_of_some _ q) (Nat.le_refl _) ⟨hz, its, 0, hv, Heap.get?_push_size _ rfl⟩
theorem Inv.fresh (I : Inv X pins σ H s) : H s.heap.objs.size = none := I.hok.fresh (Nat.le_refl _)
theorem Inv.lstM (I : Inv X pins σ H s) (hH : H l = some (.lst xs)) : xs.length ≤ sizeLine ∧ ∃ (its : List Value) (n : Nat), Vals xs its ∧ xs.length = its.length ∧ s.heap.get? l = some { cls := .type "list", data := .seq its.toArray n } := by
  obtain ⟨z, its, n, r, e⟩ := I.hok l _ hH
  exact ⟨z, its, n, r, r.length, e⟩

theorem notLongL {n : Nat} (h : n ≤ sizeLine) : Builtin.List.listTooLong n = false := by
  unfold Builtin.List.listTooLong
  exact decide_eq_false (by (first | lia | omega))
end

section
variable {X : Cx}

noncomputable def rAppend : V → List V → Hp → VK → Prop := fun x vs H Q => ∃ l xs y, x = .ref l ∧ vs = [y] ∧ H l = some (.lst xs) ∧ xs.length < sizeLine ∧ Q .non (upd H l (.lst (xs ++ [y])))
theorem mt_append : MtM X "list.append" rAppend := by
  intro pins s σ H x vs v us Q I rx rv h
  obtain ⟨l, xs, y, rfl, rfl, hH, hz, q⟩ := h
  cases rx
  obtain ⟨u, rfl, ru⟩ := rv.one
  obtain ⟨z, its, n, r, hl, e⟩ := I.lstM hH
  refine call_meets F.slot_list_append ⟨_, e, rfl⟩ F.entry_list_append (F.args_list_append_2 _ _) (PySem.list_append l its.toArray n u (by rw [List.size_toArray]; (first | lia | omega))) ⟨e, ?_⟩
  refine ⟨.non, _, I.lset (its' := its ++ [u]) hH e (by simp) (r.append (.cons ru .nil)) ?_, rfl, q⟩
  rw [List.length_append, List.length_singleton]
  (first | lia | omega)

noncomputable def rExtend : V → List V → Hp → VK → Prop := fun x vs H Q => ∃ l b xs zs, x = .ref l ∧ vs = [.ref b] ∧ H l = some (.lst xs) ∧ H b = some (.lst zs) ∧ xs.length + zs.length ≤ sizeLine ∧ Q .non (upd H l (.lst (xs ++ zs)))
theorem mt_extend : MtM X "list.extend" rExtend := by
  intro pins s σ H x vs v us Q I rx rv h
  obtain ⟨l, b, xs, zs, rfl, rfl, hH, hB, hz, q⟩ := h
  cases rx
  obtain ⟨u, rfl, ru⟩ := rv.one
  cases ru
  obtain ⟨z, its, n, r, hl, e⟩ := I.lstM hH
  obtain ⟨z2, its2, n2, r2, hl2, e2⟩ := I.lstM hB
  have hsz : its.toArray.size + its2.toArray.size ≤ sizeLine := by rw [List.size_toArray, List.size_toArray]; (first | lia | omega)
  have hlong : ¬ (!its.toArray.isEmpty && Builtin.List.listTooLong (its.toArray.size + its2.toArray.size)) = true := by
    rw [notLongL hsz, Bool.and_false]
    exact Bool.false_ne_true
  refine call_meets F.slot_list_extend ⟨_, e, rfl⟩ F.entry_list_extend (F.args_list_extend_2 _ _)
    (AutoSeq1.list_extend_list_list_0 l its.toArray n b its2.toArray n2 hlong (by rw [List.size_toArray]; (first | lia | omega)) (by (first | lia | omega))) ⟨e, e2, ?_⟩
  refine ⟨.non, _, I.lset (its' := its ++ its2) hH e (by simp) (r.append r2) ?_, rfl, q⟩
  rw [List.length_append]
  (first | lia | omega)

noncomputable def rCat : R2 := fun x y H Q => ∃ l b xs zs, x = .ref l ∧ y = .ref b ∧ H l = some (.lst xs) ∧ H b = some (.lst zs) ∧ xs.length + zs.length ≤ sizeLine ∧ ∀ p, H p = none → Q (.ref p) (upd H p (.lst (xs ++ zs)))
theorem op_cat : OpR X (binaryOp .Add) rCat := by
  intro pins s σ H x y v u Q I rx ry h
  obtain ⟨l, b, xs, zs, rfl, rfl, hH, hB, hz, q⟩ := h
  cases rx
  cases ry
  obtain ⟨z, its, n, r, hl, e⟩ := I.lstM hH
  obtain ⟨z2, its2, n2, r2, hl2, e2⟩ := I.lstM hB
  refine PySem.P.add_list e e2 ?_ (by rw [List.size_toArray, List.size_toArray]; (first | lia | omega))
  have ea : its.toArray ++ its2.toArray = (its ++ its2).toArray := by simp
  rw [ea]
  exact ⟨.ref _, _, I.lnew (t' := s.toks) (r.append r2) (by rw [List.length_append]; (first | lia | omega)), rfl, q _ I.fresh⟩
/-- a list times an int (a negative one is nothing) -/
noncomputable def rRep : R2 := fun x y H Q => ∃ l k xs, x = .ref l ∧ y = .int k ∧ H l = some (.lst xs) ∧ -(2 ^ 63) ≤ k ∧ k < 2 ^ 63 ∧ xs.length * k.toNat ≤ sizeLine ∧
  ∀ p, H p = none → Q (.ref p) (upd H p (.lst (List.replicate k.toNat xs).flatten))
theorem len_rep {α : Type} (xs : List α) (k : Nat) : (List.replicate k xs).flatten.length = k * xs.length := by
  induction k with
  | zero => simp
  | succ k ih => rw [List.replicate_succ, List.flatten_cons, List.length_append, ih, Nat.succ_mul, Nat.add_comm]
theorem op_rep : OpR X (binaryOp .Mult) rRep := by
  intro pins s σ H x y v u Q I rx ry h
  obtain ⟨l, k, xs, rfl, rfl, hH, h1, h2, hz, q⟩ := h
  cases rx
  obtain ⟨t, rfl⟩ := ry
  obtain ⟨z, its, n, r, hl, e⟩ := I.lstM hH
  have hlen : its.toArray.size * k.toNat ≤ sizeLine := by rw [List.size_toArray, ← hl]; exact hz
  have hcap : ¬ its.toArray.size * k.toNat > (2 ^ 63 - 1) / 8 := by
    have : (sizeLine : Nat) ≤ (2 ^ 63 - 1) / 8 := by decide
    (first | lia | omega)
  have hfit : ¬ (!Builtin.List.listFitsIndex k) = true := by
    rw [fitsIndex_both h1 h2]
    exact Bool.false_ne_true
  have hlong : ¬ Builtin.List.listTooLong (its.toArray.size * k.toNat) = true := by
    rw [notLongL hlen]
    exact Bool.false_ne_true
  have hnew : List.foldl (fun x1 x2 => x1 ++ x2) #[] (List.replicate (if its.toArray.isEmpty = true then 0 else k.toNat) its.toArray) = (List.replicate k.toNat its).flatten.toArray := by
    have f0 : ∀ m : Nat, List.foldl (fun x1 x2 => x1 ++ x2) #[] (List.replicate m its.toArray) = (List.replicate m its).flatten.toArray := fun m => by
      have := foldl_rep its m []
      rw [List.nil_append] at this
      exact this
    rw [f0]
    cases its with
    | nil => simp
    | cons a r' => rw [if_neg (by simp)]
  refine wpAny_binaryOp_repeat_ref (T := "list") (U := "int") (by decide) ⟨_, e, rfl⟩ (fun s' => typeIs_int s' k t) noFill_list_mul F.fills_int_mul F.slot_int_rmul repeat_list F.slot_int_index.lookup
    (call_meets F.slot_int_rmul (typeIs_int s k t) F.entry_int_rmul (F.args_int_rmul_2 _ _) (int___rmul___int_list k t l its.toArray n)
      ⟨e, rfl, ⟨_, e, rfl⟩, call_meets F.slot_list_mul ⟨_, e, rfl⟩ F.entry_list_mul (F.args_list_mul_2 _ _) (AutoListH.list___mul___list_int_3 l its.toArray n k t hfit hcap hlong) ⟨e, ?_⟩⟩)
  rw [hnew]
  exact ⟨.ref _, _, I.lnew (t' := s.toks) (r.rep k.toNat) (by rw [len_rep, Nat.mul_comm]; exact hz), rfl, q _ I.fresh⟩

end

section
variable {prog : Program} {w : World} {A : Around} {E : Value → Shared → Prop} {s : Shared}
end

section
variable {X : Cx}
end
end L2

namespace Att
open PySem PySem.W PySem.Calls PyProof.Rows

theorem ints_of_wellAll {P : Params} {h : Heap} : ∀ (ns : List Int) (vs : List Value), WellAll P h vs (ns.map WData.int) → IntsAre vs ns := by
  intro ns
  induction ns with
  | nil =>
    intro vs w
    rw [List.map_nil] at w
    cases w
    exact .nil
  | cons n ns ih =>
    intro vs w
    rw [List.map_cons] at w
    cases w with
    | cons a b =>
      cases a
      exact .cons _ _ (ih _ b)

theorem script_of {l : OpenLaw} {n : Nat} (hn : l.most = some n) {P : Params} {h : Heap} {args : List WData} {vals : List Value}
    (hpre : l.row.toRowW.claim.pre args = true) (hwl : WellAll P h vals args) :
    ∃ a vs ns, vals = [Value.ref a] ∧ args = [WData.list (ns.map WData.int)] ∧ h.get? a = some { cls := .type "list", data := .seq vs.toArray } ∧ IntsAre vs ns ∧ ns.length ≤ n := by
  have hsh : WShape.hasAll [] args [.list .int] = true := (pre_splitW hpre).1
  have hc : l.pre.holds [] { args := args } = true := (pre_splitW hpre).2
  obtain ⟨d, r, rfl, h1, h2⟩ := hasAllW_cons hsh
  obtain rfl := hasAllW_nil h2
  obtain ⟨xs, rfl, h3⟩ := hasW_list h1
  obtain ⟨ns, rfl⟩ := items_int h3
  have hlen : ns.length ≤ n := by
    unfold OpenLaw.pre at hc
    have h4 : (WTm.not (.lt (.lit (.int (n : Int))) (.len (.arg 0)))).holds [] { args := [.list (ns.map .int)] } = true := by
      have h4 := (holds_andW hc).1
      rw [hn] at h4
      exact h4
    have h5 := condW_of h4 (w_not (w_lt w_lit (w_len_list (w_arg rfl))))
    rw [List.length_map] at h5
    refine Nat.le_of_not_lt fun q => ?_
    have q' : (n : Int) < ((ns.length : Nat) : Int) := by (first | lia | omega)
    first
      | (rw [decide_eq_true q'] at h5; exact absurd h5 (by decide))
      | (simp at h5; (first | lia | omega))
  cases hwl with
  | cons w1 w2 =>
    cases w2
    cases w1 with
    | list ho hall => exact ⟨_, _, ns, rfl, rfl, ho, ints_of_wellAll ns _ hall, hlen⟩

theorem post_true (l : OpenLaw) (args : List WData) : l.row.toRowW.claim.post args (.bool true) args = true :=
  postW_of (r := l.row.toRowW) (X := (true == true))
    (show WShape.has [] (.bool true) .bool = true by first | rfl | decide | simp [WShape.has, WShape.arms, WShape.armsAll])
    (show (WTm.eq .res (.lit (.bool true))).value [] { args := args, res := some (.bool true), after := args } = some (.bool (true == true)) from w_eq_bool (w_res rfl) w_lit) rfl

/-- the same from a codeAny of the CALL (for a layer whose function contracts speak of calls) -/
theorem attach_call {l : OpenLaw} {n : Nat} {q : Program} {loose : List Str} {XP : (Str → Option Value) → Heap → Prop} {YP : World → Heap → Prop} {d : DefRec}
    (hn : l.most = some n) (hdf : d.params.defaults = [])
    (call : ∀ (w : World) (s₀ s₁ : Shared) (mg mb : Str → Option Value) (fa : Addr) (o : Obj) (pm cd doc : Value) (a : Addr) (vs : List Value) (ns : List Int),
      Ground q loose [] XP w s₀ mg mb s₁.heap → YP w s₁.heap →
      s₁.heap.get? fa = some o → o.data = .func (docDef d.name d.params d.body d.scope pm cd doc) → s₁.heap.CodeRec cd d.name → mg d.name = some (.ref fa) →
      s₁.heap.get? a = some { cls := .type "list", data := .seq vs.toArray } → IntsAre vs ns → ns.length ≤ n → s₁.gens = #[] →
      codeAny (model l.prog w) callerA (.call (.ref fa) ⟨[.ref a], []⟩) (fun r s' => r = .ok (.ret (.bool true)) ∧ OldK s₁.heap s'.heap ∧ s'.os = s₁.os ∧ AllBare s'.gens) s₁) :
    WalkO q loose XP YP l.row.toRowW d [] (fun f vs => PySem.call f vs) := by
  intro w s₀ s₁ mg mb G Y fa o pm cd doc dV kV ho hd hcd hD hmg hg args vals as hpre hlay hrd hwl hlo
  obtain rfl : dV = .none := Dflts.none hD hdf
  obtain rfl : kV = .none := Dflts.noKw hD
  obtain ⟨a, vs, ns, rfl, rfl, hobj, hints, hlen⟩ := script_of hn hpre hwl
  refine enter_call (codeAny_mono (call w s₀ s₁ mg mb fa o pm cd doc a vs ns G Y ho (fd_plain hd) hcd hmg hobj hints hlen hg) fun r s' hq => ?_)
  obtain ⟨rfl, h2, h3, h4⟩ := hq
  exact ⟨.inl ⟨.bool true, .bool true, [], rfl, fun _ => rfl, .bool true, post_true l _, fun _ => ⟨List.Pairwise.nil, fun _ hm => (nomatch hm)⟩⟩, h2, h3, h4⟩

section
variable {prog : Program} {w : World} {A : Around} {E : Value → Shared → Prop} {s : Shared} {K : Frag}

end
end Att

namespace L2
open PySem PySem.Spec PyProof.Rows

theorem vals_ints : ∀ {vs : List Value} {ns : List Int}, IntsAre vs ns → Vals (ns.map V.int) vs
  | _, _, .nil => .nil
  | _, _, .cons n t h => .cons ⟨t, rfl⟩ (vals_ints h)

/-- nothing is tracked but the script, known to the object (or it is an object of the module) -/
noncomputable def Only (H : Hp) : Prop := ∀ b, H b = none ∨ ∃ o xs, H b = some (.frz o (.lst xs))

/-- THE HEAD: the law's promise, at the heap behind the top. F, the promise of the law's def, may use that base is part of the heap (so K.In base, base.Ns mainGlobals mg stand in Mod) -/
theorem law_call {P : Program} {w : World} {K : PySem.W.Frag} {mg mb : Str → Option Value} {CX : CXT} {k : Nat} {fa a : Addr} {fd : FuncData} {x : Str} {sp : Sp} {s₁ : Shared} {vs : List Value} {ns : List Int}
    (KX : K.In s₁.heap) (hns : s₁.heap.Ns mainGlobals mg) (hb : s₁.heap.Ns builtinsNs mb) (hbb : ∀ x : Str, x ≠ "__name__" → mb x = bootBuiltins x) (hlim : s₁.heap.NoLimit) (hg : s₁.gens = #[])
    (ha : s₁.heap.get? a = some { cls := .type "list", data := .seq vs.toArray }) (hi : IntsAre vs ns) (hl : ns.length ≤ sizeLine) (hr : Room k callerA)
    (F : ∀ base : Heap, K.In base → base.Ns mainGlobals mg → FnOk P w K mg base CX k fa fd [x] sp) (hbind : ∀ (s : Shared) (u : Value), BindsTo s fd ⟨[u], []⟩ [(x, u)])
    (hsp : ∀ H : Hp, Only H → SqL K H a (ns.map V.int) → sp [.ref a] H (fun v _ => v = .bl true) fun _ _ _ => False)
    (hCX : ∀ H e s', CX [] H s₁ (fun _ _ _ => False) e s' → False) :
    codeAny (model P w) callerA (.call (.ref fa) ⟨[.ref a], []⟩) (fun r s' => r = .ok (.ret (.bool true)) ∧ OldK s₁.heap s'.heap ∧ s'.os = s₁.os ∧ AllBare s'.gens) s₁ := by
  have rv := vals_ints hi
  have lenV := hi.length
  -- from an abstract heap in which nothing but the script may be tracked
  have core : ∀ H : Hp, Only H → SqL K H a (ns.map V.int) → HOk P w H s₁.heap → (∀ b, H b ≠ none → b = a) → (H a ≠ none → K.lookup a = none) →
      codeAny (model P w) callerA (.call (.ref fa) ⟨[.ref a], []⟩) (fun r s' => r = .ok (.ret (.bool true)) ∧ OldK s₁.heap s'.heap ∧ s'.os = s₁.os ∧ AllBare s'.gens) s₁ := by
    intro H hO hS hok hA hK
    have base_of : ∀ {b : Addr} {o : Obj}, s₁.heap.get? b = some o → H b = none → (hidT s₁.heap H).get? b = some o := fun e n => hidT_get e n
    have noA : ∀ {b : Addr} {o : Obj} {es : Array DictEntry} {ep : Nat}, s₁.heap.get? b = some o → o.data = .dict es ep → H b = none := fun {b o es ep} e d => by
      cases q : H b with
      | none => rfl
      | some u =>
        have e' : b = a := hA b (by rw [q]; simp)
        subst e'
        rw [ha] at e; cases e
        have d' : Data.seq vs.toArray _ = Data.dict es ep := d
        cases d'
    have nsK : ∀ {b : Addr} {m : Str → Option Value}, s₁.heap.Ns b m → (hidT s₁.heap H).Ns b m := fun {b m} zq93_1 => by obtain ⟨o, es, ep, e, d, r⟩ := zq93_1; exact ⟨o, es, ep, base_of e (noA e d), d, r⟩
    have hKb : K.In (hidT s₁.heap H) := fun b o e => base_of (KX b o e) (by
      cases q : H b with
      | none => rfl
      | some u =>
        have e' : b = a := hA b (by rw [q]; simp)
        subst e'
        rw [hK (by rw [q]; simp)] at e; cases e)
    have hM : Mod K mg (hidT s₁.heap H) := ⟨hKb, nsK hns, ⟨mb, nsK hb, hbb⟩, let ⟨mc, h1, h2⟩ := hlim; ⟨mc, nsK h1, h2⟩⟩
    have e0 : Env0 P w K mg (hidT s₁.heap H) callerA [] s₁ H := ⟨rfl, hM, fun b o e => of_hidT e, Nat.le_of_eq (hidT_size _ _), trivial, fun b hb => absurd (show b ∈ ([] : List Addr) from hb) (by simp), hok, .of_eq hg⟩
    refine codeAny_mono ((F _ hKb (nsK hns)).run callerA [] s₁ H ⟨[.ref a], []⟩ [.ref a] [.ref a] _ _ hr e0 (hbind s₁ (.ref a)) (.cons rfl .nil) (hsp H hO hS)) fun r s' h => ?_
    cases r with
    | error e => exact (hCX H e s' h).elim
    | ok fl =>
      cases fl with
      | next => exact False.elim h
      | brk => exact False.elim h
      | cont => exact False.elim h
      | ret u =>
        obtain ⟨v, H', os, bare, un, hok', r', q⟩ := h
        have q' : v = .bl true := q
        subst q'
        obtain rfl : u = Value.bool true := r'
        refine ⟨rfl, OldK.of_keep fun b o e => ?_, os, bare⟩
        cases q : H b with
        | none => exact un.keep b o e q (by intro z; exact absurd (show b ∈ ([] : List Addr) from z) (by simp)) (by simp)
        | some u =>
          rcases hO b with z | ⟨ob, xs, z⟩
          · rw [q] at z; cases z
          · have z2 := un.frzs b ob _ z
            obtain ⟨e1, _⟩ := hok b _ z
            obtain ⟨e2, _⟩ := hok' b _ z2
            rw [e] at e1; cases e1
            exact e2
  cases hk : K.lookup a with
  | some o =>
    -- the script is one of the module's own objects
    have e := KX a o hk
    rw [ha] at e
    cases e
    refine core (fun _ => none) (fun _ => .inl rfl) (.inr ⟨_, vs.toArray, _, hk, rfl, rfl, rfl, by rw [List.size_toArray, lenV]; exact hl, by simpa using rv⟩) (fun b u z => by have z' : (none : Option HO) = some u := z; cases z') (fun b z => absurd rfl z) fun z => absurd rfl z
  | none =>
    refine core (fun b => if b = a then some (.frz { cls := .type "list", data := .seq vs.toArray } (.lst (ns.map V.int))) else none) (fun b => ?_) (.inl (.inr ⟨{ cls := .type "list", data := .seq vs.toArray }, if_pos rfl⟩)) (fun b u z => ?_) (fun b z => ?_) fun _ => hk
    · by_cases hb : b = a
      · exact .inr ⟨_, _, if_pos hb⟩
      · exact .inl (if_neg hb)
    · by_cases hb : b = a
      · have z' := (if_pos hb).symm.trans z
        cases z'
        subst hb
        exact ⟨ha, by rw [List.length_map]; exact hl, vs, _, rv, ha⟩
      · have z' := (if_neg hb).symm.trans z
        cases z'
    · by_cases hb : b = a
      · exact hb
      · exact absurd (if_neg hb) z
end L2

namespace L2
open PySem PySem.Spec PyProof.Rows

/-- the goal that k_head leaves (case hc), from the law's promise. F gives the function object fd (K's own) once, then the promise over every base -/
theorem walk_of {l : PySem.W.OpenLaw} {n k : Nat} {q : Program} {loose : List Str} {XP : (Str → Option Value) → Heap → Prop} {YP : World → Heap → Prop} {d : DefRec} {K : Params → PySem.W.Frag} {CX : World → CXT} {sp : World → Sp} {x : Str}
    (hn : l.most = some n) (hn2 : n ≤ sizeLine) (hdf : d.params.defaults = []) (hr : Room k callerA)
    (hY : ∀ (w : World) (h : Heap), YP w h → (K w.params).In h)
    (F : ∀ (w : World) (mg : Str → Option Value) (fa : Addr) (h : Heap), (K w.params).In h → h.Ns mainGlobals mg → mg d.name = some (.ref fa) →
      ∃ fd : FuncData, (∀ (s : Shared) (u : Value), BindsTo s fd ⟨[u], []⟩ [(x, u)]) ∧
        ∀ base : Heap, (K w.params).In base → base.Ns mainGlobals mg → FnOk l.prog w (K w.params) mg base (CX w) k fa fd [x] (sp w))
    (hsp : ∀ (w : World) (H : Hp) (a : Addr) (ns : List Int), ns.length ≤ n → Only H → SqL (K w.params) H a (ns.map V.int) → sp w [.ref a] H (fun v _ => v = .bl true) fun _ _ _ => False)
    (hCX : ∀ (w : World) (H : Hp) (s : Shared) (e : Value) (s' : Shared), CX w [] H s (fun _ _ _ => False) e s' → False) :
    PySem.W.WalkO q loose XP YP l.row.toRowW d [] (fun f vs => PySem.call f vs) := by
  refine Att.attach_call hn hdf fun w s₀ s₁ mg mb fa o pm cd doc a vs ns G Y ho hd hcd hmg hobj hints hlen hg => ?_
  have KX := hY w _ Y
  obtain ⟨fd, hb, hF⟩ := F w mg fa _ KX G.T.g hmg
  exact law_call KX G.T.g G.T.b G.T.builtins G.T.nolimit hg hobj hints (Nat.le_trans hlen hn2) hr hF hb (fun H hO hS => hsp w H a ns hlen hO hS) fun H e s' => hCX w H s₁ e s'
end L2

namespace L2
open PySem PySem.Spec PyProof.Rows

/-- the j-th statement of a class's body -/
noncomputable def inClass (s : Stmt) (j : Nat) : Stmt := match s with
  | .ClassDef _ _ _ body _ _ _ _ _ _ _ => body.getD j (.Pass ⟨0, 0, 0, 0⟩)
  | _ => .Pass ⟨0, 0, 0, 0⟩
noncomputable def defArgs (s : Stmt) : Arguments := match s with
  | .FunctionDef _ a _ _ _ _ _ _ _ _ => a
  | _ => { posonlyargs := [], args := [], vararg := none, kwonlyargs := [], kw_defaults := [], kwarg := none, defaults := [] }
noncomputable def defBody (s : Stmt) : List Stmt := match s with
  | .FunctionDef _ _ b _ _ _ _ _ _ _ => b
  | _ => []
noncomputable def defScope (s : Stmt) : Scope := match s with
  | .FunctionDef _ _ _ _ _ _ sc _ _ _ => sc
  | _ => { kind := .function, names := [], isGenerator := false, isCoroutine := false }

noncomputable abbrev CX0 : CXT := fun _ _ _ _ _ _ => False
noncomputable abbrev E0 : XK := fun _ _ _ => False
theorem pass0 {X : Cx} : Passes CX0 X E0 := fun _ _ _ _ _ _ _ h => h.elim

structure Fun (K : PySem.W.Frag) (x qual : Str) (st : Stmt) (f : Addr) (fd : FuncData) : Prop where
  ex : ∃ (oc : Value) (od : Option Addr) (kV doc pm : Value) (an : Option Addr) (cdv ct : Value) (osl : Array (Option Value)),
    fd = PySem.W.fnOf x qual (defArgs st) (defBody st) (defScope st) .none kV doc pm an cdv ct ∧ K.lookup f = some ⟨oc, od, .func fd, osl⟩ ∧ PySem.W.codeIn K cdv qual = true
  kp : PySem.W.keepIn K (.ref f) = true
section
variable {P : Program} {w : World} {K : PySem.W.Frag} {mg : Str → Option Value} {base : Heap}
/-- THE RULE for a def: its body as a term of rules, and the reading of that term -/
theorem Fun.ok {x qual : Str} {st : Stmt} {f : Addr} {fd : FuncData} {N ps : List Str} {k : Nat} {sp : Sp} (F : Fun K x qual st f fd) (S : FnScope N ps (defScope st)) (len : ∀ vs H Q E, sp vs H Q E → vs.length = ps.length)
    (hbody : ∀ (cdv : Value) (A : Around) (outer : List Env) (s : Shared) (H : Hp) (vs : List V) (Q : VK) (E : XK), Room k (A.deeper (envOfC qual (defScope st) s.heap.objs.size f cdv)) → sp vs H Q E →
      ∃ t, PSs (cxOf CX0 P w K mg base N qual (defScope st) f cdv A outer s H E).nox (defBody st) t ∧ t { nx := fun _ H' => Q .non H', rt := Q } (start N vs) H) : FnOk P w K mg base CX0 (k + 1) f fd ps sp := by
  obtain ⟨oc, od, kV, doc, pm, an, cdv, ct, osl, rfl, lk, hcd⟩ := F.ex
  refine fn_of lk hcd S len fun A outer s H vs Q E hr hsp => ?_
  obtain ⟨t, h, q⟩ := hbody cdv A outer s H vs Q E hr hsp
  exact ⟨t, h.nox, q⟩
/-- how its arguments bind (no defaults): h is «fun _ _ _ _ _ _ us hl => match us, hl with | [_, _], _ => rfl», one _ a parameter -/
theorem Fun.binds {x qual : Str} {st : Stmt} {f : Addr} {fd : FuncData} {ps : List Str} (F : Fun K x qual st f fd)
    (h : ∀ (kV doc pm : Value) (an : Option Addr) (cdv ct : Value) (us : List Value), us.length = ps.length → bindArgs (PySem.W.fnOf x qual (defArgs st) (defBody st) (defScope st) .none kV doc pm an cdv ct) ⟨us, []⟩ = pure (ps.zip us)) : Binds K fd ps [] := by
  obtain ⟨oc, od, kV, doc, pm, an, cdv, ct, osl, rfl, lk, hcd⟩ := F.ex
  exact .all (h kV doc pm an cdv ct)
theorem fun_mk {x qual : Str} {st : Stmt} {f : Addr} {oc : Value} {od an : Option Addr} {osl : Array (Option Value)} {kV doc pm cdv ct : Value} (l : K.lookup f = some ⟨oc, od, .func (PySem.W.fnOf x qual (defArgs st) (defBody st) (defScope st) .none kV doc pm an cdv ct), osl⟩)
    (c : PySem.W.codeIn K cdv qual = true) (k : PySem.W.keepIn K (.ref f) = true) : Fun K x qual st f (PySem.W.fnOf x qual (defArgs st) (defBody st) (defScope st) .none kV doc pm an cdv ct) := ⟨⟨oc, od, kV, doc, pm, an, cdv, ct, osl, rfl, l, c⟩, k⟩
end
theorem hu_of {A : Around} {k : Nat} (hr : Room k A) : A.units + 1 < cLine := Nat.lt_of_le_of_lt (Nat.add_le_add_left (by decide : 1 ≤ 64) _) hr.units
section
variable {X : Cx}
theorem pv (i : Nat) {x : Str} {pos : Pos} (hN : X.N[i]? = some x := by rfl) (hv : Vis X.env.scope x := by first | exact Or.inl rfl | exact Or.inr (Or.inl rfl) | exact Or.inr (Or.inr rfl)) (hd : (x == ("__debug__" : Str)) = false := by decide)
    (hcd : (x == ("__classdict__" : Str)) = false := by decide) : PE X (.Name x pos) (tVar i) := pe_var hN hv hd hcd
end

theorem iteF {A B : Prop} (h : B) : if false = true then A else B := by
  rw [if_neg Bool.false_ne_true]
  exact h
theorem iteT {A B : Prop} (h : A) : if true = true then A else B := by
  rw [if_pos rfl]
  exact h
theorem ite2 {c A B : Prop} [Decidable c] (h1 : c → A) (h2 : ¬ c → B) : if c then A else B := by
  by_cases h : c
  · rw [if_pos h]
    exact h1 h
  · rw [if_neg h]
    exact h2 h
/-- all that was tracked is as it was -/
noncomputable def Same (H H' : Hp) : Prop := ∀ b o, H b = some o → H' b = some o
theorem Same.refl (H : Hp) : Same H H := fun _ _ h => h
theorem Same.trans {H H1 H2 : Hp} (a : Same H H1) (b : Same H1 H2) : Same H H2 := fun c o h => b c o (a c o h)
theorem Same.free {H H' : Hp} (e : Same H H') {l : Addr} (h : H' l = Option.none) : H l = Option.none := by
  cases q : H l with
  | none => rfl
  | some o =>
    rw [e l o q] at h
    cases h
end L2


namespace L2
open PySem PySem.Spec PyProof.Rows

/-- the context of the block: the target's slot is 0, the captured names follow -/
noncomputable def cxC (X : Cx) (NC : List Str) (scope : Scope) (cl : List (Str × Addr)) (C : Addr) (s₀ : Shared) (H₀ : Hp) (ex : List Addr) : Cx where
  prog := X.prog
  w := X.w
  K := X.K
  mg := X.mg
  base := X.base
  A := X.A
  N := NC
  s₀ := s₀
  H₀ := H₀
  env := compEnvC scope cl C X.env
  outer := X.stack
  stack := X.stack
  ex := ex
  fn := fun _ => false
  calm := X.calm
  pn := []
  xe := fun _ _ => False

noncomputable def capN (t : Str) (caps : List (Str × Nat)) : List Str := t :: caps.map (·.1)
noncomputable def capS (caps : List (Str × Nat)) (σ : St) (v : Option V) : St := v :: caps.map fun p => (σ[p.2]?).join

structure CapOk (X : Cx) (scope : Scope) (cl : List (Str × Addr)) (t : Str) (caps : List (Str × Nat)) : Prop where
  kind : scope.kind = .function
  nocell : ∀ y ∈ scope.names, y.2 ≠ .cell
  names : ∀ y ∈ scope.names, y.2 = .local → scope.names.lookup y.1 = some .local
  tgt : scope.names.lookup t = some .local
  clos : closureFor scope X.env = pure cl
  sub : ∀ p ∈ cl, X.env.cells.lookup p.1 = some p.2
  has : ((relabel scope X.env).names.all fun y => !(y.2 == .cell || y.2 == .free) || (cl.lookup y.1).isSome) = true
  cap : ∀ p ∈ caps, X.N[p.2]? = some p.1 ∧ (X.env.kindOf p.1 = some .cell ∨ X.env.kindOf p.1 = some .free) ∧ ((relabel scope X.env).names.lookup p.1 = some .cell ∨ (relabel scope X.env).names.lookup p.1 = some .free)
  nd : (capN t caps).Nodup

section
variable {X : Cx} {scope : Scope} {cl : List (Str × Addr)} {t : Str} {caps : List (Str × Nat)} {pins : List (Addr × Obj)} {σ : St} {H : Hp} {s : Shared} {C : Addr} {fp : List Addr}
theorem CapOk.look (K : CapOk X scope cl t caps) {x : Str} {c : Addr} (h : cl.lookup x = some c) : X.env.cells.lookup x = some c := K.sub (x, c) (PySem.mem_of_lookup h)
theorem CapOk.hs (K : CapOk X scope cl t caps) {x : Str} (h : (relabel scope X.env).names.lookup x = some .cell ∨ (relabel scope X.env).names.lookup x = some .free) : ∃ c, cl.lookup x = some c := by
  have go : ∀ k, (relabel scope X.env).names.lookup x = some k → (k == NameKind.cell || k == NameKind.free) = true → ∃ c, cl.lookup x = some c := fun k e hk => by
    have := List.all_eq_true.mp K.has (x, k) (PySem.mem_of_lookup e)
    dsimp only at this
    rw [hk] at this
    exact Option.isSome_iff_exists.mp (by simpa using this)
  rcases h with h | h
  · exact go _ h rfl
  · exact go _ h rfl

theorem okC (I : Inv X pins σ H s) (K : CapOk X scope cl t caps) (hf : ∀ b ∈ fp, FpOk X pins H b) (ho : ∀ b ∈ fp, b < s.heap.objs.size) (hC : s.heap.objs.size ≤ C) : (cxC X (capN t caps) scope cl C s H fp).Ok where
  mod := I.ok.mod
  kind := K.kind
  glob := I.ok.glob
  blt := I.ok.blt
  above := hC
  inj := fun x y c h1 h2 => I.ok.inj x y c (K.look h1) (K.look h2)
  has := fun x hx => K.hs hx
  cab := fun x c h => nomatch (show false = true from h)
  hd := I.ok.hd
  frames := I.ok.frames
  stk := .inl rfl
  exf := fun b hb => ⟨Nat.ne_of_lt (Nat.lt_of_lt_of_le (ho b hb) hC), fun x c e => (hf b hb).2.2.2.2.1 x c (K.look e)⟩
  bs := I.bs
  bsz := Nat.le_trans I.ok.bsz I.sz
  noex := fun b o e hb => by
    rcases (hf b hb).2.2.2.1 with z | z
    · exact I.ok.noex b o e z
    · exact absurd (Nat.lt_of_lt_of_le (Heap.lt_size e) (Nat.le_trans I.ok.bsz z)) (Nat.lt_irrefl _)
  exfs := fun b hb hfs => by
    rcases List.mem_cons.mp (I.stkSub b hfs) with e | e
    · exact (hf b hb).2.1 e
    · exact (hf b hb).2.2.1 e
  funs := I.stack
  frf := I.stkFree

theorem invC {h₁ : Heap} {m : Str → Option Value} {tk : Nat} (I : Inv X pins σ H s) (K : CapOk X scope cl t caps) (hf : ∀ b ∈ fp, FpOk X pins H b) (ho : ∀ b ∈ fp, b < s.heap.objs.size) (hC : s.heap.objs.size ≤ C)
    (old : ∀ b o, s.heap.get? b = some o → h₁.get? b = some o) (ns : h₁.Ns C m) : Inv (cxC X (capN t caps) scope cl C s H fp) [] (capS caps σ none) H { s with heap := h₁, toks := tk } := by
  have cellK : ∀ c v, s.heap.IsCell c v → h₁.IsCell c v := fun c v zq1_2 => by obtain ⟨o, e, d⟩ := zq1_2; exact ⟨o, old c o e, d⟩
  refine ⟨okC I K hf ho hC, rfl, I.bare, Un.kept old, ⟨m, ns, fun i x v e1 e2 e3 => ?_⟩, fun x c e => ?_, I.hok.fresh hC, fun x c e => I.freeC x c (K.look e), fun p hp => absurd (show p ∈ ([] : List (Addr × Obj)) from hp) (by simp), I.hok.kept old, by simp [capS, capN, cxC]⟩
  · cases i with
    | zero =>
      have e2' : some (none : Option V) = some (some v) := e2
      cases e2'
    | succ j =>
      have e1' : (caps.map (·.1))[j]? = some x := e1
      have e2' : (caps.map fun p => (σ[p.2]?).join)[j]? = some (some v) := e2
      rw [List.getElem?_map] at e1' e2'
      cases hp : caps[j]? with
      | none => rw [hp] at e1'; cases e1'
      | some p =>
        rw [hp] at e1' e2'
        have ex : p.1 = x := Option.some.inj e1'
        have ev : (σ[p.2]?).join = some v := Option.some.inj e2'
        have ev' : σ[p.2]? = some (some v) := by
          cases q : σ[p.2]? with
          | none => rw [q] at ev; cases ev
          | some z => rw [q] at ev; exact congrArg some ev
        obtain ⟨hN, hk, hk'⟩ := K.cap p (List.mem_of_getElem? hp)
        subst ex
        obtain ⟨m', _, hl⟩ := I.loc
        have vis : Vis X.env.scope p.1 := by
          rcases hk with z | z
          · exact .inr (.inl z)
          · exact .inr (.inr z)
        obtain ⟨u, r, l⟩ := hl p.2 p.1 v hN ev' vis
        obtain ⟨c, hc⟩ := K.hs hk'
        rcases l with ⟨z, _⟩ | ⟨_, c', hc', hcell⟩
        · rcases hk with y | y <;> (rw [y] at z; cases z)
        · rw [K.look hc] at hc'
          cases hc'
          exact ⟨u, r, .inr ⟨hk', c, hc, cellK c _ hcell⟩⟩
  · obtain ⟨v, z⟩ := I.cell x c (K.look e)
    exact ⟨v, cellK c v z⟩

/-- an untracked list of ours is tracked from now on -/
theorem Inv.track {D : Addr} {ys : List V} {its : List Value} {n : Nat} (I : Inv X pins σ H s) (f : FpOk X pins H D) (e : s.heap.get? D = some { cls := .type "list", data := .seq its.toArray n }) (r : Vals ys its) (hz : ys.length ≤ sizeLine) :
    Inv X pins σ (upd H D (.lst ys)) s := by
  obtain ⟨f0, f1, f2, f3, f4, f5⟩ := f
  obtain ⟨hh, g, d, tk, os⟩ := s
  refine I.step (g' := g) (d' := d) (t' := tk) (h' := hh) (ch := [D]) (fun b hb => ?_) (fun b o _ _ _ e _ => e) (fun b o _ _ _ e _ => ⟨o.slots, e⟩) (fun b o hb _ n => ?_) (fun b o _ e => ⟨o, e⟩) (fun b xs q => ?_) (fun b o u q => ?_) (fun b ps q => ⟨#[], ?_⟩) (fun m hm => hm) (fun b u q => ?_) I.bare
  · have z : b = D := by simpa using hb
    subst z
    exact ⟨f3, f1, f4, f5⟩
  · rw [upd_ne (fun z => hb (by simp [z]))]; exact n
  · rw [upd_ne (ne_of_none q f0)]; exact q
  · rw [upd_ne (ne_of_none q f0)]; exact q
  · rw [upd_ne (ne_of_none q f0), q]; simp
  · by_cases hb : b = D
    · subst hb
      rw [upd_same] at q
      cases q
      exact ⟨hz, its, n, r, e⟩
    · rw [upd_ne hb] at q
      exact (I.hok b u q).stay (fun _ _ _ z => z) (fun c z => by rw [upd_ne (ne_of_none z f0)]; exact z) fun c xs z => by rw [upd_ne (ne_of_none z f0)]; exact z
end

noncomputable def PTs (X : Cx) (ifs : List Expr) (t : TT) : Prop :=
  ∀ (pins : List (Addr × Obj)) (s : Shared) (σ : St) (H : Hp) (Q : Bool → Hp → Prop), Inv X pins σ H s → t σ H Q →
    wpAny (model X.prog X.w) X.A (forIn ifs true fun c r => if r = true then do let ok ← isTrue c X.env (eval c X.env); pure (ForInStep.yield ok) else pure (ForInStep.yield r)) (TP X pins σ Q) X.xe s
noncomputable def tYes : TT := fun _ H Q => Q true H
theorem pts_nil {X : Cx} : PTs X [] tYes := fun _ _ _ H _ I h => wpAny_tests_nil ⟨H, I, h⟩
theorem pts_one {X : Cx} {c : Expr} {t : TT} (h : PT X c t) : PTs X [c] t := fun pins s σ H Q I q => wpAny_tests_one (h pins s σ H Q I q)

/-- what the block's turns want: W by the turn, a measure, the items so far -/
noncomputable def CompW (caps : List (Str × Nat)) (tt : TT) (te : TE) (σ : St) (J : It) (Q : List V → Hp → Prop) (W : Nat → Nat → List V → Hp → Prop) : Prop :=
  ∀ i m ys H, W i m ys H → (J.stop i H ∧ Q ys H) ∨ (J.go i H ∧ ∃ N : List V → Hp → Prop, (∀ ys' H', N ys' H' → ∃ m', m' < m ∧ W (i + 1) m' ys' H') ∧ ∀ x H', J.yld i H x H' → tt (capS caps σ (some x)) H' fun b H2 =>
    if b = true then te (capS caps σ (some x)) H2 (fun y H3 => ys.length < sizeLine ∧ N (ys ++ [y]) H3) else N ys H2)
noncomputable def tComp (caps : List (Str × Nat)) (wi : TI) (tt : TT) (te : TE) : TE := fun σ H Q => wi σ H fun J H1 =>
  ∃ W : Nat → Nat → List V → Hp → Prop, (∃ m, W 0 m [] H1) ∧ CompW caps tt te σ J (fun ys H2 => ∀ p, H2 p = none → Q (.ref p) (upd H2 p (.lst ys))) W

section
variable {X : Cx} {scope : Scope} {cl : List (Str × Addr)} {t : Str} {caps : List (Str × Nat)} {elt iter : Expr} {ifs : List Expr} {px pos : Pos} {wi : TI} {tt : TT} {te : TE}

theorem comp_blockG {hd : Cx → Prop} {Pw : Hp → Prop} {pins : List (Addr × Obj)} {σ : St} {H : Hp} {s : Shared} {J : It} {fp : List Addr} {it : Addr} {tn : Nat → Heap → Prop} {W : Nat → Nat → List V → Hp → Prop} {QE : List V → Hp → Prop} {E : Value → Shared → Prop} {RR : Value → Addr → Result → Shared → Prop} {m0 : Nat}
    (K : CapOk X scope cl t caps) (hA : ∀ C s₀ H₀ ex, hd (cxC X (capN t caps) scope cl C s₀ H₀ ex))
    (ht : ∀ C s₀ H₀ ex, PTs (cxC X (capN t caps) scope cl C s₀ H₀ ex) ifs tt) (he : ∀ C s₀ H₀ ex, PE (cxC X (capN t caps) scope cl C s₀ H₀ ex) elt te)
    (I : Inv X pins σ H s) (Tobj : ∀ i h, tn i h → ∀ b ∈ fp, ∃ o, h.get? b = some o ∧ ∀ v, o.data ≠ .cell v) (Tkeep : ∀ i h h', tn i h → (∀ b ∈ fp, ∀ o, h.get? b = some o → h'.get? b = some o) → tn i h')
    (Titem : ∀ (Y : Cx), Y.prog = X.prog → Y.w = X.w → Y.K = X.K → hd Y → ∀ (i : Nat) (pins : List (Addr × Obj)) (s : Shared) (σ : St) (H : Hp) (E : Value → Shared → Prop), Pw H → Inv Y pins σ H s → (∀ b ∈ fp, FpOk Y pins H b) → tn i s.heap → J.go i H →
      wpAny (model X.prog X.w) Y.A (pyNext (.ref it)) (fun r s1 => ∃ u, r = some u ∧ wpAny (model X.prog X.w) Y.A (letOwnedTupleGo (.Name t px) (.ref it) u) (fun _ s2 => ∃ x H', Inv Y pins σ H' s2 ∧ RelV x u ∧ J.yld i H x H' ∧ tn (i + 1) s2.heap ∧ ∀ b ∈ fp, H' b = none) E s1) E s)
    (Tdone : ∀ (Y : Cx), Y.prog = X.prog → Y.w = X.w → Y.K = X.K → hd Y → ∀ (i : Nat) (pins : List (Addr × Obj)) (s : Shared) (σ : St) (H : Hp) (E : Value → Shared → Prop), Pw H → Inv Y pins σ H s → (∀ b ∈ fp, FpOk Y pins H b) → tn i s.heap → J.stop i H →
      wpAny (model X.prog X.w) Y.A (pyNext (.ref it)) (fun r s1 => r = none ∧ Inv Y pins σ H s1) E s)
    (Tself : ∀ (A : Around) (i : Nat) (s : Shared) (Q : Value → Shared → Prop) (E : Value → Shared → Prop), tn i s.heap → Q (.ref it) s → wpAny (model X.prog X.w) A (pyIter (.ref it)) Q E s) (st : tn 0 s.heap) (hf : ∀ b ∈ fp, FpOk X pins H b) (w0 : W 0 m0 [] H) (hW : CompW caps tt te σ J QE W) (hWx : ∀ i m ys H, W i m ys H → Pw H)
    (fin : ∀ D C ys H' s' m, H' D = none → Inv X pins σ (upd H' D (.lst ys)) s' → s'.heap.Ns C m → FpOk X pins (upd H' D (.lst ys)) C → QE ys H' → RR (.ref D) C (.ok .next) s') :
    wpAny (model X.prog X.w) X.A (newList []) (fun acc s₃ => wpAny (model X.prog X.w) X.A (newFunctionEnv scope X.env.globals cl [] X.env.qual none .none (some X.env)) (fun cenv s₄ =>
      codeAny (model X.prog X.w) X.A (.compStart (.ListComp elt [⟨.Name t px, iter, ifs, 0⟩] scope pos) 0 (.ref it) acc { cenv with scope := relabel scope X.env }) (RR acc cenv.locals) s₄) E s₃) E s := by
  refine wpAny_newObj_type (wpAny_newFunctionEnv K.nocell (by intro y hy; simp at hy) (fun h₁ hns₁ hsb₁ => ?_) K.kind)
  dsimp only at hns₁ hsb₁ ⊢
  generalize hH2 : s.heap.push { cls := .type "list", dict := none, data := .seq ([] : List Value).toArray } = H2 at hns₁ hsb₁ ⊢
  have hC : H2.objs.size = s.heap.objs.size + 1 := by rw [← hH2, Heap.size_push]
  have hDC : s.heap.objs.size ≠ H2.objs.size := by rw [hC]; exact Nat.ne_of_lt (Nat.lt_succ_self _)
  have hCle : s.heap.objs.size ≤ H2.objs.size := by rw [hC]; exact Nat.le_succ _
  have below : ∀ b, b < s.heap.objs.size → b ≠ H2.objs.size := fun b hb => by rw [hC]; exact Nat.ne_of_lt (Nat.lt_succ_of_lt hb)
  have old : ∀ b o, s.heap.get? b = some o → h₁.get? b = some o := fun b o e => hsb₁.extBut b o (below b (Heap.lt_size e)) (Heap.get?_push_of_some _ (hH2 ▸ Heap.get?_push_of_some _ e))
  have hacc : h₁.get? s.heap.objs.size = some { cls := .type "list", data := .seq ([] : List Value).toArray } := hsb₁.extBut _ _ hDC (Heap.get?_push_of_some _ (hH2 ▸ Heap.get?_push_size _ rfl))
  have ho : ∀ b ∈ fp, b < s.heap.objs.size := fun b hb => let ⟨_, e, _⟩ := Tobj 0 _ st b hb; Heap.lt_size e
  have hDf : s.heap.objs.size ∉ fp := fun hm => Nat.lt_irrefl _ (ho _ hm)
  have st₁ : tn 0 h₁ := Tkeep 0 _ _ st fun b _ o e => old b o e
  have hDfs : s.heap.objs.size ∉ frs X.stack := fun z => by
    rcases List.mem_cons.mp (I.stkSub _ z) with e | e
    · exact absurd (e ▸ I.lt) (Nat.lt_irrefl _)
    · exact I.nofs (Nat.le_refl _) e
  have hDcell : ∀ x c, cl.lookup x = some c → c ≠ s.heap.objs.size := fun x c e z => by
    obtain ⟨v, q⟩ := I.cell x c (K.look e)
    exact absurd (z ▸ q.lt) (Nat.lt_irrefl _)
  -- what stays true of the iterator's objects
  have stat : ∀ {pl : List (Addr × Obj)} {HC : Hp}, (∀ b ∈ fp, HC b = none) → (∀ p ∈ pl, p.1 ∉ fp) → ∀ b ∈ fp, FpOk (cxC X (capN t caps) scope cl H2.objs.size s H fp) pl HC b := fun {pl HC} hn hp b hb =>
    ⟨hn b hb, below b (ho b hb), (okC I K hf ho hCle).exfs b hb, .inl hb, fun x c e => (hf b hb).2.2.2.2.1 x c (K.look e), fun p hpp z => by
      have hpp' : p ∈ pl := hpp
      exact hp p hpp' (z ▸ hb)⟩
  have loop : ∀ s₃ : Shared, s₃ = { s with heap := h₁, toks := s.toks + ([] : List (Str × Value)).length } →
      codeAny (model X.prog X.w) X.A (.compLoop (.ListComp elt [⟨.Name t px, iter, ifs, 0⟩] scope pos) 0 (.ref it) (.ref s.heap.objs.size) (compEnvC scope cl H2.objs.size X.env)) (RR (.ref s.heap.objs.size) H2.objs.size) s₃ := by
    rintro s₃ rfl
    refine codeAny_loop rfl (fun n s' => ∃ i ys its nn HC v0, Inv (cxC X (capN t caps) scope cl H2.objs.size s H fp) [] (capS caps σ v0) HC s' ∧ tn i s'.heap ∧ (∀ b ∈ fp, HC b = none) ∧ HC s.heap.objs.size = none ∧
      s'.heap.get? s.heap.objs.size = some { cls := .type "list", data := .seq its.toArray nn } ∧ Vals ys its ∧ ys.length ≤ sizeLine ∧ W i n ys HC) (fun n s' hI => ?_) m0
      ⟨0, [], [], 0, H, none, invC I K hf ho hCle old hns₁, st₁, fun b hb => (hf b hb).1, I.hok.fresh (Nat.le_refl _), hacc, .nil, Nat.zero_le _, w0⟩
    obtain ⟨i, ys, its, nn, HC, v0, I3, st3, fr3, hD3, e3, r3, z3, w3⟩ := hI
    show wpAny _ X.A ((compTurn (.ListComp elt [⟨.Name t px, iter, ifs, 0⟩] scope pos) 0 (.ref it) (.ref s.heap.objs.size) (compEnvC scope cl H2.objs.size X.env)).onRaise (fun x => do noteFrame x (compEnvC scope cl H2.objs.size X.env); theTreesLotGoes x)) _ _ s'
    refine wpAny_noted ?_
    rw [compTurn_list]
    -- the list is pinned
    have I3p : Inv (cxC X (capN t caps) scope cl H2.objs.size s H fp) [(s.heap.objs.size, { cls := .type "list", data := .seq its.toArray nn })] (capS caps σ v0) HC s' := I3.pins_of fun p hp => by
      have ep : p = (s.heap.objs.size, { cls := .type "list", data := .seq its.toArray nn }) := by simpa using hp
      subst ep
      exact ⟨e3, hD3, hDC, hDfs, fun v z => by cases (show Data.seq its.toArray nn = Data.cell v from z)⟩
    have pD : ∀ p ∈ [((s.heap.objs.size : Addr), ({ cls := .type "list", data := .seq its.toArray nn } : Obj))], p.1 ∉ fp := fun p hp => by
      have ep : p = (s.heap.objs.size, { cls := .type "list", data := .seq its.toArray nn }) := by simpa using hp
      subst ep
      exact hDf
    rcases hW i n ys HC w3 with ⟨stop, q⟩ | ⟨go, N, hN, step⟩
    · refine wpAny_bind (wpAny_standAt (wpAny_bind (thn (Tdone (cxC X (capN t caps) scope cl H2.objs.size s H fp) rfl rfl rfl (hA _ _ _ _) i _ s' _ HC _ (hWx _ _ _ _ w3) I3p (stat fr3 pD) st3 stop) fun r s4 zq2_2 => ?_)))
      obtain ⟨hr, I4⟩ := zq2_2
      subst hr
      refine wpAny_pure ?_
      have I5 : Inv X pins σ HC s4 := I.call' (ch := fp) I4.os I4.base I4.hok I4.bare fun b hb => ⟨(hf b hb).2.2.2.1, (hf b hb).2.1, (hf b hb).2.2.2.2.1, (hf b hb).2.2.2.2.2⟩
      have e4 := (I4.pin _ (List.mem_append_right _ List.mem_cons_self)).1
      have fD : FpOk X pins HC s.heap.objs.size := I.fpOk (Nat.le_refl _) hD3
      have I6 := I5.track fD e4 r3 z3
      obtain ⟨m, hn, _⟩ := I4.loc
      refine fin _ _ ys HC s4 m hD3 I6 hn (I.fpOk hCle ?_) q
      rw [upd_ne (Ne.symm hDC)]
      exact I4.free
    · refine wpAny_bind (wpAny_standAt (wpAny_bind (thn (Titem (cxC X (capN t caps) scope cl H2.objs.size s H fp) rfl rfl rfl (hA _ _ _ _) i _ s' _ HC _ (hWx _ _ _ _ w3) I3p (stat fr3 pD) st3 go) fun r s4 zq3_2 => ?_)))
      obtain ⟨u, hr, h4⟩ := zq3_2
      subst hr
      refine wpAny_bind (thn h4 fun _ s5 zq4_2 => ?_)
      obtain ⟨x, H5, I5, r5, y5, st5, fr5⟩ := zq4_2
      have hD5 := (I5.pin _ (List.mem_append_right _ List.mem_cons_self)).2.1
      have I5' := I5.pinned (stat fr5 pD) (Tobj _ _ st5)
      have nox : ∀ {α : Type} {tr : Sem α} {Q : α → Shared → Prop} {E' : Value → Shared → Prop} {sx : Shared}, wpAny (model X.prog X.w) X.A tr Q (fun _ _ => False) sx → wpAny (model X.prog X.w) X.A tr Q E' sx := fun h => wpAny_mono h (fun _ _ z => z) fun _ _ z => z.elim
      refine wpAny_bind (wpAny_assign_Name (store_ok (X := cxC X (capN t caps) scope cl H2.objs.size s H fp) (i := 0) (x := t) I5' K.nd rfl (.inl (lookup_relabel_local K.tgt)) r5 (fun s6 I6 => ?_) (.inr (lookup_relabel_local K.tgt))))
      have e0 : (capS caps σ v0).set 0 (some x) = capS caps σ (some x) := rfl
      rw [e0] at I6
      refine wpAny_bind (nox (thn (ht _ _ _ _ _ s6 _ H5 _ I6 (step x H5 y5)) fun ok s7 zq5_2 => ?_))
      obtain ⟨H7, I7, q7⟩ := zq5_2
      -- what is known of the pinned objects behind any step
      have pinD : ∀ {σ' : St} {H' : Hp} {sx : Shared}, Inv (cxC X (capN t caps) scope cl H2.objs.size s H fp) ([(s.heap.objs.size, { cls := .type "list", data := .seq its.toArray nn })] ++ pinsAt fp s5.heap) σ' H' sx →
          sx.heap.get? s.heap.objs.size = some { cls := .type "list", data := .seq its.toArray nn } ∧ H' s.heap.objs.size = none ∧ tn (i + 1) sx.heap ∧ (∀ b ∈ fp, H' b = none) := fun {σ' H' sx} Ix => by
        have a := Ix.pin _ (List.mem_append_right _ (List.mem_append_left _ List.mem_cons_self))
        refine ⟨a.1, a.2.1, Tkeep _ _ _ st5 fun b hb o e => (Ix.pin (b, o) (List.mem_append_right _ (List.mem_append_right _ (mem_pinsAt hb e)))).1, fun b hb => ?_⟩
        obtain ⟨o, e, d⟩ := Tobj _ _ st5 b hb
        exact (Ix.pin (b, o) (List.mem_append_right _ (List.mem_append_right _ (mem_pinsAt hb e)))).2.1
      have bare : ∀ {pl : List (Addr × Obj)} {σ' : St} {H' : Hp} {sx : Shared}, Inv (cxC X (capN t caps) scope cl H2.objs.size s H fp) pl σ' H' sx → Inv (cxC X (capN t caps) scope cl H2.objs.size s H fp) [] σ' H' sx := fun Ix => Ix.pins_of fun p hp => absurd hp (by simp)
      cases ok with
      | false =>
        rw [if_neg Bool.false_ne_true] at q7
        obtain ⟨m', hm, w7⟩ := hN _ _ q7
        obtain ⟨a1, a2, a3, a4⟩ := pinD I7
        exact wpAny_pure ⟨rfl, m', hm, i + 1, ys, its, nn, H7, some x, bare I7, a3, a4, a2, a1, r3, z3, w7⟩
      | true =>
        rw [if_pos rfl] at q7
        refine wpAny_bind (wpAny_bind (nox (thn (he _ _ _ _ _ s7 _ H7 _ I7 q7) fun y s8 zq6_2 => ?_)))
        obtain ⟨yv, H8, I8, r8, hz8, n8⟩ := zq6_2
        obtain ⟨m', hm, w8⟩ := hN _ _ n8
        obtain ⟨a1, a2, a3, a4⟩ := pinD I8
        have hlen := r3.length
        refine wpAny_bind (call_meets F.slot_list_append ⟨_, a1, rfl⟩ F.entry_list_append (F.args_list_append_2 _ _) (PySem.list_append s.heap.objs.size its.toArray nn y (by rw [List.size_toArray]; (first | lia | omega))) ⟨a1, ?_⟩)
        obtain ⟨nn', q⟩ : ∃ nn' : Nat, (s8.heap.update s.heap.objs.size (Obj.mapSeq (·.push y))).get? s.heap.objs.size = some { cls := .type "list", data := .seq (its ++ [y]).toArray nn' } := by
          have q := PySem.IsL.update a1 (·.push y)
          have ea : its.toArray.push y = (its ++ [y]).toArray := by simp
          rw [ea] at q
          exact ⟨_, q⟩
        have I9 : Inv (cxC X (capN t caps) scope cl H2.objs.size s H fp) [] (capS caps σ (some x)) H8 { s8 with heap := s8.heap.update s.heap.objs.size (Obj.mapSeq (·.push y)) } :=
          (bare I8).turned (t' := s8.toks) (fun b o hb e => (Heap.get?_update_other _ _ (Ne.symm hb)).trans e) a2 hDC (.inr (Nat.le_refl _)) hDcell (fun p hp => absurd (show p ∈ ([] : List (Addr × Obj)) from hp) (by simp))
        refine wpAny_pure (wpAny_pure ⟨rfl, m', hm, i + 1, ys ++ [yv], its ++ [y], nn', H8, some x, I9, Tkeep _ _ _ a3 fun b hb o e => (Heap.get?_update_other _ _ (show s.heap.objs.size ≠ b from fun z => hDf (by rw [z]; exact hb))).trans e, a4, a2, q, r3.append (.cons r8 .nil), ?_, w8⟩)
        · rw [List.length_append, List.length_singleton]; (first | lia | omega)
  exact codeAny_compStart_list (loop _ rfl) (Tself _ 0 _ _ _ st₁ (loop _ rfl))

theorem comp_block {pins : List (Addr × Obj)} {σ : St} {H : Hp} {s : Shared} {J : It} {fp : List Addr} {it : Addr} {tn : Nat → Heap → Prop} {W : Nat → Nat → List V → Hp → Prop} {QE : List V → Hp → Prop} {E : Value → Shared → Prop} {RR : Value → Addr → Result → Shared → Prop} {m0 : Nat}
    (K : CapOk X scope cl t caps) (hc : X.calm = true)
    (ht : ∀ C s₀ H₀ ex, PTs (cxC X (capN t caps) scope cl C s₀ H₀ ex) ifs tt) (he : ∀ C s₀ H₀ ex, PE (cxC X (capN t caps) scope cl C s₀ H₀ ex) elt te)
    (I : Inv X pins σ H s) (T : Turn X.prog X.w X.K (.Name t px) J fp it tn) (st : tn 0 s.heap) (hf : ∀ b ∈ fp, FpOk X pins H b) (w0 : W 0 m0 [] H) (hW : CompW caps tt te σ J QE W)
    (fin : ∀ D C ys H' s' m, H' D = none → Inv X pins σ (upd H' D (.lst ys)) s' → s'.heap.Ns C m → FpOk X pins (upd H' D (.lst ys)) C → QE ys H' → RR (.ref D) C (.ok .next) s') :
    wpAny (model X.prog X.w) X.A (newList []) (fun acc s₃ => wpAny (model X.prog X.w) X.A (newFunctionEnv scope X.env.globals cl [] X.env.qual none .none (some X.env)) (fun cenv s₄ =>
      codeAny (model X.prog X.w) X.A (.compStart (.ListComp elt [⟨.Name t px, iter, ifs, 0⟩] scope pos) 0 (.ref it) acc { cenv with scope := relabel scope X.env }) (RR acc cenv.locals) s₄) E s₃) E s :=
  comp_blockG (hd := fun Y => Y.calm = true) (Pw := fun _ => True) K (fun _ _ _ _ => hc) ht he I T.obj T.keep (fun Y h1 h2 h3 h4 i pins s σ H E _ => T.item Y h1 h2 h3 h4 i pins s σ H E) (fun Y h1 h2 h3 h4 i pins s σ H E _ => T.done Y h1 h2 h3 h4 i pins s σ H E) T.self st hf w0 hW (fun _ _ _ _ _ => trivial) fin
theorem pe_comp (K : CapOk X scope cl t caps) (hc : X.calm = true) (hi : PI X (.Name t px) iter wi)
    (ht : ∀ C s₀ H₀ ex, PTs (cxC X (capN t caps) scope cl C s₀ H₀ ex) ifs tt) (he : ∀ C s₀ H₀ ex, PE (cxC X (capN t caps) scope cl C s₀ H₀ ex) elt te)
    (hs : ∀ x, foldedSetIterable iter X.env x = pure x := by intro _; rfl) : PE X (.ListComp elt [⟨.Name t px, iter, ifs, 0⟩] scope pos) (tComp caps wi tt te) := by
  intro pins s σ H Q I h
  rw [eval_ListComp]
  refine wpAny_comprehension_free (use := none) rfl hs K.clos K.kind K.names (thn (hi pins s σ H _ I h) fun v s1 h1 => thn h1 fun itv s2 h2 => ?_)
  obtain ⟨it, fp, tn, J, H2, e, I2, T, st2, f2, W, ⟨m0, w0⟩, hW⟩ := h2
  subst e
  refine comp_block (RR := fun acc C => compPost (model X.prog X.w) X.A X.xe none (EP X pins σ Q) acc C) K hc ht he I2 T st2 f2 w0 hW ?_
  intro D C ys H' s' m hD I' hn hC q
  refine ⟨m, hn, fun h' hs' => ?_⟩
  obtain ⟨c0, c1, c2, c3, c4, c5⟩ := hC
  exact ⟨.ref D, _, I'.turned (t' := s'.toks) (fun b o hb e => (hs'.2 b hb).trans e) c0 c1 c3 c4 c5, rfl, q D hD⟩

end
end L2

namespace L2
open PySem PySem.Spec PyProof.Rows

theorem bt_list : bootBuiltins "list" = some (.type "list") := by decide +kernel
theorem bt_int : bootBuiltins "int" = some (.type "int") := by decide +kernel
theorem bt_isinstance : bootBuiltins "isinstance" = some (.builtin "isinstance") := by decide +kernel
section
variable {X : Cx}
end

noncomputable def eqLV : List V → List V → Bool
  | [], [] => true
  | x :: xs, y :: ys => eqV x y && eqLV xs ys
  | _, _ => false
theorem eqLV_len : ∀ {xs ys : List V}, xs.length ≠ ys.length → eqLV xs ys = false
  | [], [], h => absurd rfl h
  | [], _ :: _, _ => rfl
  | _ :: _, [], _ => rfl
  | x :: xs, y :: ys, h => by
    have ih := eqLV_len (xs := xs) (ys := ys) fun e => h (by simp [e])
    show (eqV x y && eqLV xs ys) = false
    rw [ih, Bool.and_false]
theorem eqLV_range : ∀ {xs ys : List V}, xs.length = ys.length → (List.range xs.length).all (fun j => eqV (xs.getD j .non) (ys.getD j .non)) = eqLV xs ys
  | [], [], _ => rfl
  | x :: xs, y :: ys, h => by
    have ih := eqLV_range (xs := xs) (ys := ys) (by simpa using h)
    rw [List.length_cons, List.range_succ_eq_map, List.all_cons, List.all_map]
    show (eqV x y && _) = (eqV x y && eqLV xs ys)
    rw [← ih]
    rfl
  | [], _ :: _, h => by simp at h
  | _ :: _, [], h => by simp at h
theorem flat_ints (xs : List Int) : (xs.map V.int).all flatV = true := by
  rw [List.all_map]
  exact List.all_eq_true.mpr fun _ _ => rfl
section
variable {X : Cx}
end
end L2

namespace L2
open PySem PySem.Spec PyProof.Rows
theorem bt_range : bootBuiltins "range" = some (.type "range") := by decide +kernel
section
variable {X : Cx}
end
end L2

namespace PySem.W
open PySem PySem.Spec PySem.Calls PyProof.Rows Builtin Builtin.ObjectAttr Builtin.Getset_descriptor

section
variable {prog : Program} {w : World} {A : Around} {E : Value → Shared → Prop} {s : Shared} {K : Frag} {x C : Addr}
theorem lx_find {M : Model} {h : Heap} {v a g : Value} {name : Str} (X : K.In h) (ha : findIn K (.ref C) name = some (some a)) (hg : specialIn K a "__get__" = some (some g)) (ht : takesIn K a = some true) :
    Looks M h (find v (.ref C) name) (.bind g a) := by
  have L1 := looks_findIn (M := M) X ha
  have L2 : Looks M h (getOf (some a)) (some g) := looks_specialIn X hg
  have L3 := looks_takesIn (M := M) X ht
  exact L1.andThen (L2.andThen ((show Looks M h (dataDescriptor? (some a) (some g)) (some (g, a)) from L3.andThen .now).andThen (Looks.tag .now)))
theorem lx_class_get {R : Result → Shared → Prop} {tp : Value} (X : K.In s.heap) (L0 : Looks (model prog w) s.heap (typeOf (.ref x)) (.ref C)) (hm : mroIn K C (.type "object") = some true)
    (h : R (.ok (.ret (.ref C))) s) : codeAny (model prog w) A (.call (.builtin "getset_descriptor.__get__") ⟨[.builtin "object.__class__", .ref x, tp], []⟩) R s := by
  obtain ⟨hh, g, dr, t, os⟩ := s
  have L1 := looks_mroIn (M := model prog w) X hm
  refine codeAny_call_builtin KF.slot_gs.plain KF.entry_gs (KF.slot_gs.check _ _ _ _ _ _ _ _ KF.type_class (KF.args_gs _ _ _) ?_)
  unfold Builtin.«getset_descriptor.__get__» descrGet
  rw [dga_obj]
  refine wpAny_bind (wpAny_pure ?_)
  unfold descrGetter descrCheckInstance descrNameAndClass isInstance
  simp only [KF.owner_class]
  repeat lk
  refine ⟨Code.quiet_builtin _ (by decide +kernel), codeAny_builtin KF.entry_class ?_⟩
  unfold Builtin.«object.__class__» shownTypeOf
  repeat lk
  exact h
theorem lx_entry {tk : Tok} {Q : Fin → Shared → Prop} (X : K.In s.heap) (L0 : Looks (model prog w) s.heap (typeOf (.ref x)) (.ref C)) (hm : mroIn K C (.type "object") = some true)
    (ha : findIn K (.ref C) "__class__" = some (some (.builtin "object.__class__"))) (hn : specialIn K (.builtin "object.__class__") "__get__" = some (some (.builtin "getset_descriptor.__get__"))) (htk : takesIn K (.builtin "object.__class__") = some true)
    (h : Q (.done (.ret (.ref C))) s) : wpAny (model prog w) A (Builtin.«object.__getattribute__» ⟨[.ref x, .str "__class__" tk], []⟩) Q E s := by
  obtain ⟨hh, g, dr, t, os⟩ := s
  have L1 := lx_find (M := model prog w) (v := .ref x) X ha hn htk
  refine wpAny_bind (wpAny_pure (wpAny_bind (wpAny_pure (wpAny_bind (L0.at (wpAny_bind (L1.at ?_)))))))
  show wpAny _ _ (holding [.builtin "object.__class__"] (call (.builtin "getset_descriptor.__get__") [.builtin "object.__class__", .ref x, .ref C]) >>= ret) _ _ _
  exact wpAny_bind (wpAny_holding (wpAny_call (lx_class_get X L0 hm (wpAny_pure h))))
theorem bexc_bind (self : Value) : bindSpecial (.builtin "BaseException.__getattribute__") self = pure (.builtin "BaseException.__getattribute__", [self]) := F.excAttr_ValueError.ga.bind self
theorem bexc_check {M : Model} {Q : Unit → Shared → Prop} (X : K.In s.heap) (L0 : Looks M s.heap (typeOf (.ref x)) (.ref C)) (hb : mroIn K C (.type "BaseException") = some true) (b : Value)
    (hQ : Q () s) : wpAny M A (checkBuiltinCall "BaseException.__getattribute__" ⟨[.ref x, b], []⟩) Q E s := by
  obtain ⟨hh, g, dr, t, os⟩ := s
  have L1 := looks_mroIn (M := M) X hb
  have hk : builtinKind "BaseException.__getattribute__" = some .slot := by decide +kernel
  have hsplit : splitId "BaseException.__getattribute__" = some ("BaseException", "__getattribute__") := by decide +kernel
  have ha := F.args_bexc_ga (.ref x) b
  simp only [checkBuiltinCall, hk, hsplit]
  unfold isInstance
  repeat lk
  exact hQ
theorem lx_class_by {tk : Tok} {Q : Value → Shared → Prop} (X : K.In s.heap) (L0 : Looks (model prog w) s.heap (typeOf (.ref x)) (.ref C)) (hm : mroIn K C (.type "object") = some true) (hb : mroIn K C (.type "BaseException") = some true)
    (hga : findIn K (.ref C) "__getattribute__" = some (some (.builtin "BaseException.__getattribute__"))) (hgb : findIn K (.ref C) "__getattr__" = some none)
    (ha : findIn K (.ref C) "__class__" = some (some (.builtin "object.__class__"))) (hn : specialIn K (.builtin "object.__class__") "__get__" = some (some (.builtin "getset_descriptor.__get__"))) (htk : takesIn K (.builtin "object.__class__") = some true)
    (h : Q (.ref C) s) : wpAny (model prog w) A (getAttrBy (.ref x) (.str "__class__" tk) false) Q E s := by
  obtain ⟨hh, g, dr, t, os⟩ := s
  have L1 := looks_findIn (M := model prog w) X hga
  have L2 := looks_findIn (M := model prog w) X hgb
  unfold getAttrBy
  refine wpAny_holding (wpAny_bind (L0.at (wpAny_bind (L1.at ?_))))
  show wpAny _ _ (getAttrByItsOwn _ _ _ _ _ _) _ _ _
  unfold getAttrByItsOwn
  refine wpAny_bind (show wpAny _ _ (typeLookup (.ref C) "__getattr__") _ _ _ from L2.at (wpAny_bind (wpAny_attempt (wpAny_holding ?_))))
  show wpAny _ _ (boundAndCalled _ _ _) _ _ _
  unfold boundAndCalled
  rw [bexc_bind]
  refine wpAny_bind (wpAny_pure ?_)
  show wpAny _ _ (call (.builtin "BaseException.__getattribute__") [.ref x, .str "__class__" tk]) _ _ _
  refine wpAny_call (codeAny_call_builtin F.excAttr_ValueError.ga.plain F.entry_bexc_ga (bexc_check X L0 hb _ (lx_entry X L0 hm ha hn htk ?_)))
  exact wpAny_pure h
theorem lx_class {Q : Option Value → Shared → Prop} (X : K.In s.heap) (L0 : Looks (model prog w) s.heap (typeOf (.ref x)) (.ref C)) (hm : mroIn K C (.type "object") = some true) (hb : mroIn K C (.type "BaseException") = some true)
    (hga : findIn K (.ref C) "__getattribute__" = some (some (.builtin "BaseException.__getattribute__"))) (hgb : findIn K (.ref C) "__getattr__" = some none)
    (ha : findIn K (.ref C) "__class__" = some (some (.builtin "object.__class__"))) (hn : specialIn K (.builtin "object.__class__") "__get__" = some (some (.builtin "getset_descriptor.__get__"))) (htk : takesIn K (.builtin "object.__class__") = some true)
    (h : Q (some (.ref C)) { s with toks := s.toks + 1 }) : wpAny (model prog w) A (getAttr? (.ref x) "__class__") Q E s := by
  unfold getAttr? getAttrBy?
  refine wpAny_bind (wpAny_mkText (wpAny_bind (wpAny_attempt (lx_class_by (s := { s with toks := s.toks + 1 }) X L0 hm hb hga hgb ha hn htk (wpAny_pure h)))))
end
/-- what of the text an own exception's class must have -/
structure XCls (K : Frag) (C : Addr) : Prop where
  ob : mroIn K C (.type "object") = some true
  be : mroIn K C (.type "BaseException") = some true
  ga : findIn K (.ref C) "__getattribute__" = some (some (.builtin "BaseException.__getattribute__"))
  gb : findIn K (.ref C) "__getattr__" = some none
  cc : findIn K (.ref C) "__class__" = some (some (.builtin "object.__class__"))
  cg : specialIn K (.builtin "object.__class__") "__get__" = some (some (.builtin "getset_descriptor.__get__"))
  ct : takesIn K (.builtin "object.__class__") = some true
theorem XCls.cl {K : Frag} {C : Addr} (c : XCls K C) : (clsIn K C).isSome = true := by
  obtain ⟨cd, h, _⟩ := Option.bind_eq_some_iff.mp c.ob
  rw [h]; rfl
theorem kitx_exc {K : Frag} {x C : Addr} (c : XCls K C) : KitX K (.ref x) (.ref C) (fun h => ∃ o, h.get? x = some o ∧ o.cls = .ref C) where
  ty := fun M h _ ⟨o, h1, h2⟩ => h2 ▸ (Looks.ld h1).andThen .now
  it := fun _ _ X _ => by
    obtain ⟨cdD, hcD⟩ := Option.isSome_iff_exists.mp c.cl
    unfold clsIn at hcD
    split at hcD
    · rename_i c' d' cd' sl' ho
      intro A' Q' E' s' k q
      unfold isType loadHead
      exact wpAny_bind (wpAny_loadPart (k _ _ (X _ _ ho)) (wpAny_pure q))
    · cases hcD
  ne := fun h tp dd its n sl X htp => by
    obtain ⟨cdD, hcD⟩ := Option.isSome_iff_exists.mp c.cl
    refine Bool.eq_false_iff.mpr fun q => ?_
    have e : C = tp := Value.ref.inj (beq_iff_eq.mp q)
    subst e
    unfold clsIn at hcD
    split at hcD
    · rename_i c' d' cd' sl' ho
      have z := (X _ _ ho).symm.trans htp
      cases z
    · cases hcD
  ca := fun X zq2_1 k => by obtain ⟨o, h1, h2⟩ := zq2_1; exact lx_class X (h2 ▸ (Looks.ld h1).andThen .now) c.ob c.be c.ga c.gb c.cc c.cg c.ct k
end PySem.W
namespace L2
open PySem PySem.Spec PyProof.Rows PySem.W
end L2

namespace L2
open PySem PySem.Spec PyProof.Rows
noncomputable def C2 (e : Addr) (h : Heap) : Prop := ∃ o vs, h.get? e = some o ∧ o.data = .fields vs ∧ vs[2]? = some .none
noncomputable def Kp2 (f : Obj → Obj) : Prop := ∀ o vs, o.data = .fields vs → vs[2]? = some .none → ∃ vs', (f o).data = .fields vs' ∧ vs'[2]? = some .none
/-- plain commands whose writes leave the third field -/
inductive Pl {α : Type} : Sem α → Prop
  | pure (a : α) : Pl (.pure a)
  | raise (e : Value) : Pl (.raise e)
  | unsupported (x : String) : Pl (.unsupported x)
  | finish (x : Ending) : Pl (.finish x)
  | rule (tag : String) (k : Unit → Sem α) (h : ∀ u, Pl (k u)) : Pl (.rule tag k)
  | at_ (p : Pos) (k : Unit → Sem α) (h : ∀ u, Pl (k u)) : Pl (.at p k)
  | load (a : Addr) (part : Option Value) (k : Obj → Sem α) (h : ∀ o, Pl (k o)) : Pl (.load a part k)
  | update (a : Addr) (part : Option Value) (f : Obj → Obj) (k : Unit → Sem α) (hf : Kp2 f) (h : ∀ u, Pl (k u)) : Pl (.update a part f k)
  | alloc (o : Obj) (k : Addr → Sem α) (h : ∀ a, Pl (k a)) : Pl (.alloc o k)
  | loadIfAlive (a : Addr) (k : Option Obj → Sem α) (h : ∀ o, Pl (k o)) : Pl (.loadIfAlive a k)
  | point (l : List Value) (k : Unit → Sem α) (h : ∀ u, Pl (k u)) : Pl (.point l k)
  | register (a : Addr) (k : Unit → Sem α) : Pl (.register a k)
  | fresh (k : Tok → Sem α) (h : ∀ t, Pl (k t)) : Pl (.fresh k)
  | ask (k : Setting → Sem α) (h : ∀ t, Pl (k t)) : Pl (.ask k)
  | handled (own : Bool) (k : Option Value → Sem α) (h : ∀ t, Pl (k t)) : Pl (.handled own k)
  | stack (k : List (Code × Pos) → Sem α) (h : ∀ t, Pl (k t)) : Pl (.stack k)
theorem Pl.bind {α β : Type} {t : Sem α} {k : α → Sem β} (h : Pl t) (hk : ∀ a, Pl (k a)) : Pl (t >>= k) := by
  show Pl (Sem.bind t k)
  induction h with
  | pure a => exact hk a
  | raise e => exact .raise e
  | unsupported x => exact .unsupported x
  | finish x => exact .finish x
  | rule tag k' _ ih => exact .rule _ _ ih
  | at_ p k' _ ih => exact .at_ _ _ ih
  | load a part k' _ ih => exact .load _ _ _ ih
  | update a part f k' hf _ ih => exact .update _ _ _ _ hf ih
  | alloc o k' _ ih => exact .alloc _ _ ih
  | loadIfAlive a k' _ ih => exact .loadIfAlive _ _ ih
  | point l k' _ ih => exact .point _ _ ih
  | register a k' => exact .register _ _
  | fresh k' _ ih => exact .fresh _ ih
  | ask k' _ ih => exact .ask _ ih
  | handled own k' _ ih => exact .handled _ _ ih
  | stack k' _ ih => exact .stack _ ih
theorem C2.push {e : Addr} {h : Heap} {o : Obj} (c : C2 e h) : C2 e (h.push o) := let ⟨x, vs, h1, h2⟩ := c; ⟨x, vs, Heap.get?_push_of_some _ h1, h2⟩
theorem C2.update {e a : Addr} {h : Heap} {f : Obj → Obj} (c : C2 e h) (hf : Kp2 f) : C2 e (h.update a f) := by
  obtain ⟨x, vs, h1, h2, h3⟩ := c
  by_cases q : a = e
  · subst q
    obtain ⟨vs', g1, g2⟩ := hf x vs h2 h3
    exact ⟨f x, vs', Heap.get?_update_self _ h1 (Obj.isFreed_of_fields g1), g1, g2⟩
  · exact ⟨x, vs, (Heap.get?_update_other _ _ q).trans h1, h2, h3⟩
theorem Pl.wp {α : Type} {M : Model} {Γ : PySem.Ctx} {t : Sem α} {e : Addr} {Q : α → Pos → Shared → Prop} {E : Value → Pos → Shared → Prop} (h : Pl t) : ∀ (p : Pos) (s : Shared), Sem.wp M Γ t Q E p s → C2 e s.heap →
    Sem.wp M Γ t (fun a p s => Q a p s ∧ C2 e s.heap) (fun x p s => E x p s ∧ C2 e s.heap) p s := by
  induction h with
  | pure a => intro p s q c; rw [Sem.wp] at q ⊢; exact ⟨q, c⟩
  | raise e => intro p s q c; rw [Sem.wp] at q ⊢; exact ⟨q, c⟩
  | unsupported x => intro p s q c; rw [Sem.wp] at q; exact q.elim
  | finish x => intro p s q c; rw [Sem.wp] at q; exact q.elim
  | rule tag k _ ih => intro p s q c; rw [Sem.wp] at q ⊢; exact ih () p s q c
  | at_ p' k _ ih => intro p s q c; rw [Sem.wp] at q ⊢; exact ih () p' s q c
  | load a part k _ ih => intro p s q c; rw [Sem.wp] at q ⊢; obtain ⟨o, ho, q⟩ := q; exact ⟨o, ho, ih o p s q c⟩
  | update a part f k hf _ ih => intro p s q c; rw [Sem.wp] at q ⊢; exact ⟨q.1, ih () p _ q.2 (c.update hf)⟩
  | alloc o k _ ih => intro p s q c; rw [Sem.wp] at q ⊢; exact ih _ p _ q c.push
  | loadIfAlive a k _ ih => intro p s q c; rw [Sem.wp] at q ⊢; exact ih _ p s q c
  | point l k _ ih => intro p s q c; rw [Sem.wp] at q ⊢; exact ih () p s q c
  | register a k => intro p s q c; rw [Sem.wp] at q; exact q.elim
  | fresh k _ ih => intro p s q c; rw [Sem.wp] at q ⊢; exact ih _ p _ q c
  | ask k _ ih => intro p s q c; rw [Sem.wp] at q ⊢; exact ih _ p s q c
  | handled own k _ ih => intro p s q c; rw [Sem.wp] at q ⊢; exact ih _ p s q c
  | stack k _ ih => intro p s q c; rw [Sem.wp] at q ⊢; exact ih _ p s q c
theorem Pl.any {α : Type} {M : Model} {A : Around} {t : Sem α} {e : Addr} {Q : α → Shared → Prop} {E : Value → Shared → Prop} {s : Shared} (h : Pl t) (q : wpAny M A t Q E s) (c : C2 e s.heap) : wpAny M A t (fun a s => Q a s ∧ C2 e s.heap) (fun x s => E x s ∧ C2 e s.heap) s :=
  fun Γ p hΓ => h.wp p s (q Γ p hΓ) c
theorem kp_set {i : Nat} {v : Value} (h : i ≠ 2) : Kp2 (Obj.mapFields (·.setIfInBounds i v)) := fun o vs hd h2 => ⟨_, Obj.data_mapFields hd _, by rw [Array.getElem?_setIfInBounds_ne h]; exact h2⟩
theorem pl_load (a : Addr) : Pl (load a) := .load _ _ _ fun o => .pure o
theorem pl_fields (v : Value) : Pl (fieldsOf v) := by
  unfold fieldsOf
  split
  · refine Pl.bind (pl_load _) fun o => ?_
    split
    · exact .pure _
    · exact .unsupported _
  · exact .unsupported _
theorem pl_field (v : Value) (i : Nat) : Pl (field v i) := by
  unfold field
  refine Pl.bind (pl_fields v) fun vs => ?_
  split
  · exact .pure _
  · exact .unsupported _
theorem pl_setField (v : Value) (i : Nat) (x : Value) (h : i ≠ 2) : Pl (setField v i x) := by
  unfold setField
  split
  · unfold updateField
    refine Pl.bind (pl_load _) fun o => ?_
    split
    · split
      · exact .update _ _ _ _ (kp_set h) fun u => .pure u
      · exact .unsupported _
    · exact .unsupported _
  · exact .unsupported _
theorem pl_stack : Pl stack := .stack _ fun l => .pure l
theorem pl_newFields (ty : String) (vs : List Value) : Pl (newFields ty vs) := by
  have as : Pl (newObjAsIs (Value.type ty) (Data.fields vs.toArray)) := Pl.bind (.alloc _ _ fun a => .pure a) fun a => .pure _
  unfold newFields newObj
  dsimp only
  split
  · exact Pl.bind (.unsupported _) fun _ => as
  · exact as
theorem pl_envs : Pl frameEnvs := by
  unfold frameEnvs
  exact Pl.bind pl_stack fun l => .pure _
theorem pl_import (env : Env) (outer : List Env) : Pl (behindIsImport env outer) := by
  unfold behindIsImport
  split
  · exact .pure _
  · split
    · exact .pure _
    · exact Pl.bind (pl_field _ _) fun _ => .pure _
theorem pl_under : Pl underTheClaimsCaller := by
  unfold underTheClaimsCaller
  exact Pl.bind pl_stack fun _ => .pure _
theorem pl_back (env : Env) (i : Bool) (l : List Env) : Pl (keptBack env i l) := by
  unfold keptBack
  split
  · split
    · exact .pure _
    · exact Pl.bind pl_under fun _ => .pure _
  · exact .pure _
theorem pl_ready : ∀ l : List Env, Pl (readyFrames l)
  | [] => .pure _
  | env :: outer => by
    unfold readyFrames
    split
    · refine Pl.bind (pl_load _) fun o => ?_
      split
      · exact .pure _
      · refine Pl.bind (pl_import _ _) fun i => Pl.bind (pl_back _ _ _) fun b => Pl.bind (.update _ _ _ _ (fun o vs h1 h2 => ⟨vs, h1, h2⟩) fun u => .pure u) fun _ => pl_ready outer
    · exact .unsupported _
theorem pl_frameObject (l : List Env) : Pl (frameObject l) := by
  cases l with
  | nil => exact .pure _
  | cons env outer =>
    unfold frameObject
    exact Pl.bind (pl_ready _) fun _ => .pure _
theorem pl_frameOf (env : Env) : Pl (PySem.frameOf env) := by
  unfold PySem.frameOf
  refine Pl.bind pl_envs fun l => Pl.bind (pl_frameObject _) fun o => ?_
  split
  · exact .pure _
  · exact .unsupported _
theorem pl_place (f : Addr) (b : Bool) : Pl (entryPlaceOf f b) := by
  unfold entryPlaceOf
  refine Pl.bind pl_stack fun l => ?_
  split
  · exact .pure _
  · exact .pure _
theorem pl_flight (v : Value) (f : Option Addr) : Pl (setFlight v f) := by
  unfold setFlight
  refine Pl.bind (pl_field _ _) fun tb => ?_
  split
  · exact pl_setField _ _ _ (by decide)
  · exact .pure _
theorem pl_note (v : Value) (env : Env) : Pl (noteFrame v env) := by
  unfold noteFrame
  split
  · refine Pl.bind (pl_field _ _) fun hd => ?_
    have rest : ∀ f : Addr, Pl (do
        let a ← PySem.frameOf env
        let pl ← entryPlaceOf f (hd != .none)
        let b ← EntryCells.newEntry hd a .none (rawInt f) .none pl
        setField v 1 b) := fun f => Pl.bind (pl_frameOf _) fun a => Pl.bind (pl_place _ _) fun q => Pl.bind (pl_newFields _ _) fun b => pl_setField _ _ _ (by decide)
    split
    · refine Pl.bind (pl_field _ _) fun x => ?_
      split
      · exact .pure _
      · exact Pl.bind (pl_setField _ _ _ (by decide)) fun _ => rest _
    · exact rest _
  · exact .unsupported _
theorem pl_leaving (env : Env) (v : Value) : Pl (leaving env v) := by
  unfold leaving
  exact Pl.bind (pl_note _ _) fun _ => pl_flight _ _
end L2

namespace L2
open PySem PySem.Spec PyProof.Rows

/-- a new exception that no frame has noted -/
noncomputable def MadeW (B : Heap) (l : List Env) (e : Addr) (cls a0 : Value) (h : Heap) : Prop :=
  B.StaysIn h ∧ B.get? e = none ∧ h.FunFrames B l ∧ ∃ oe vs, h.get? e = some oe ∧ oe.cls = cls ∧ oe.data = .fields vs ∧ vs[0]? = some a0 ∧ vs[1]? = some .none
/-- any heap that keeps B, and all else up to slots, bears the state -/
noncomputable def Bears (X : Cx) (pins : List (Addr × Obj)) (σ : St) (H : Hp) (B : Heap) (s : Shared) : Prop :=
  ∀ (h' : Heap) (tk : Nat), B.StaysIn h' → s.heap.UpToSlots h' → Inv X pins σ H { s with heap := h', toks := tk }
structure NewTo (X : Cx) (pins : List (Addr × Obj)) (H : Hp) (e : Addr) : Prop where
  old : X.s₀.heap.get? e = none
  loc : e ≠ X.env.locals
  fs : e ∉ X.fs
  cell : ∀ x c, X.env.cells.lookup x = some c → c ≠ e
  pin : ∀ p ∈ X.pn ++ pins, p.1 ≠ e
  free : H e = none
noncomputable abbrev XR := St → Value → Hp → Prop
/-- an exception that comes up in a body -/
noncomputable def XP (X : Cx) (pins : List (Addr × Obj)) (R : XR) (x : Value) (s' : Shared) : Prop :=
  ∃ (e : Addr) (cls a0 : Value) (B : Heap) (σ : St) (H : Hp), x = .ref e ∧ (MadeW B X.stack e cls a0 s'.heap ∨ Heap.FlyingW B X.stack e cls a0 s'.heap ∨ ∃ L, X.env.frame = some L ∧ Heap.HeldW B X.stack e cls a0 L s'.heap) ∧ C2 e s'.heap ∧ Bears X pins σ H B s' ∧ NewTo X pins H e ∧ R σ cls H
/-- an exception behind a call -/
noncomputable def CXO (P : Program) (w : World) : CXT := fun outer H s E x s' =>
  ∃ (e : Addr) (cls a0 : Value) (B : Heap) (H' : Hp), x = .ref e ∧ s'.os = s.os ∧ AllBare s'.gens ∧ s.heap.get? e = none ∧ H' e = none ∧ Heap.FlyingW B outer e cls a0 s'.heap ∧ C2 e s'.heap ∧
    (∀ h', B.StaysIn h' → s'.heap.UpToSlots h' → Un (frs outer) [] H H' s.heap h' ∧ HOk P w H' h') ∧ E cls none H'
theorem pass1 {P : Program} {w : World} {X : Cx} : Passes (CXO P w) X E0 := fun _ _ _ _ _ _ _ zq1_7 => by obtain ⟨_, _, _, _, _, _, _, _, _, _, _, _, _, h⟩ := zq1_7; exact h.elim
section
variable {X : Cx} {pins : List (Addr × Obj)} {σ : St} {H H' : Hp} {s s' : Shared}
theorem Inv.newTo (I : Inv X pins σ H s) (hex : X.ex = []) {e : Addr} (h : s.heap.get? e = none) (hn : H' e = none) : NewTo X pins H' e := by
  have old : X.s₀.heap.get? e = none := by
    cases q : X.s₀.heap.get? e with
    | none => rfl
    | some o =>
      obtain ⟨o', z⟩ := I.base.there e o q (by rw [hex]; simp)
      rw [h] at z; cases z
  refine ⟨old, fun z => ?_, fun z => ?_, fun x c q z => ?_, fun p hp z => ?_, hn⟩
  · obtain ⟨m, ⟨o, _, _, ho, _⟩, _⟩ := I.loc
    rw [← z, h] at ho; cases ho
  · obtain ⟨_, o, ho, _⟩ := I.ok.funs.mem z
    rw [old] at ho; cases ho
  · obtain ⟨v, o, ho, _⟩ := I.cell x c q
    rw [z, h] at ho; cases ho
  · have := (I.pin p hp).1
    rw [z, h] at this; cases this
/-- an exception of a callee comes up -/
theorem Inv.comes {E : XK} {x : Value} (I : Inv X pins σ H s) (hex : X.ex = []) (h : CXO X.prog X.w X.stack H s E x s') : XP X pins (fun σ' cls H' => σ' = σ ∧ E cls none H') x s' := by
  obtain ⟨e, cls, a0, B, H', rfl, os, bare, new, free, fl, c2, keep, q⟩ := h
  refine ⟨e, cls, a0, B, σ, H', rfl, .inr (.inl fl), c2, fun h' tk k u => ?_, I.newTo hex new free, rfl, q⟩
  obtain ⟨un, hok⟩ := keep h' k u
  exact I.call' (s' := { s' with heap := h', toks := tk }) (ch := []) os un hok bare (fun b z => absurd z (by simp))
theorem XP.imp {R R' : XR} {x : Value} (h : XP X pins R x s') (hR : ∀ σ cls H, R σ cls H → R' σ cls H) : XP X pins R' x s' := by
  obtain ⟨e, cls, a0, B, σ, H, e1, e2, c2, e3, e4, q⟩ := h
  exact ⟨e, cls, a0, B, σ, H, e1, e2, c2, e3, e4, hR _ _ _ q⟩
/-- the state itself -/
theorem Bears.now {B : Heap} (b : Bears X pins σ H B s) (k : B.StaysIn s.heap) : Inv X pins σ H s := b s.heap s.toks k (Heap.UpToSlots.refl _)
end

noncomputable abbrev TEX := St → Hp → VK → (Value → Hp → Prop) → Prop
noncomputable abbrev TSX := Ends → XR → St → Hp → Prop
noncomputable def PEX (X : Cx) (e : Expr) (t : TEX) : Prop :=
  ∀ (pins : List (Addr × Obj)) (s : Shared) (σ : St) (H : Hp) (Q : VK) (R : Value → Hp → Prop), Inv X pins σ H s → t σ H Q R →
    wpAny (model X.prog X.w) X.A (eval e X.env) (EP X pins σ Q) (XP X pins fun σ' cls H' => σ' = σ ∧ R cls H') s
noncomputable def PSX (X : Cx) (st : Stmt) (t : TSX) : Prop :=
  ∀ (pins : List (Addr × Obj)) (s : Shared) (σ : St) (H : Hp) (D : Ends) (R : XR), Inv X pins σ H s → t D R σ H → wpAny (model X.prog X.w) X.A (exec st X.env) (SP X pins D) (XP X pins R) s
noncomputable def PSsX (X : Cx) (st : List Stmt) (t : TSX) : Prop :=
  ∀ (pins : List (Addr × Obj)) (s : Shared) (σ : St) (H : Hp) (D : Ends) (R : XR), Inv X pins σ H s → t D R σ H → wpAny (model X.prog X.w) X.A (execs st X.env) (SP X pins D) (XP X pins R) s

section
variable {X : Cx} {e : Expr} {te : TE} {tx : TEX} {t : TS} {ts us : TSX} {st : Stmt} {sts rest : List Stmt} {pos : Pos}
theorem psx_of (h : PS X.nox st t) : PSX X st (fun D _ σ H => t D σ H) := fun pins s σ H D R I q =>
  wpAny_mono (h pins s σ H D (I.wish _) q) (fun _ _ z => z.unwish) fun _ _ z => z.elim
theorem pssx_of (h : PSs X.nox sts t) : PSsX X sts (fun D _ σ H => t D σ H) := fun pins s σ H D R I q =>
  wpAny_mono (h pins s σ H D (I.wish _) q) (fun _ _ z => z.unwish) fun _ _ z => z.elim
noncomputable def txSeq (t u : TSX) : TSX := fun D R σ H => t { D with nx := u D R } R σ H
theorem pssx_cons (h1 : PSX X st ts) (h2 : PSsX X rest us) : PSsX X (st :: rest) (txSeq ts us) := by
  intro pins s σ H D R I h
  refine wpAny_execs_cons (thn (h1 pins s σ H _ R I h) fun f s1 hq => ?_)
  cases f with
  | next =>
    obtain ⟨σ', H', I', q⟩ := hq
    exact h2 pins s1 σ' H' D R I' q
  | brk => exact hq
  | cont => exact hq
  | ret u => exact hq
theorem pssx_one (h1 : PSX X st ts) : PSsX X [st] ts := by
  intro pins s σ H D R I h
  refine wpAny_execs_cons (thn (h1 pins s σ H D R I h) fun f s1 q => ?_)
  cases f with
  | next => exact wpAny_execs_nil q
  | ret v => exact q
  | brk => exact q
  | cont => exact q
noncomputable def txNext : TSX := fun D _ σ H => D.nx σ H
theorem pssx_nil : PSsX X [] txNext := fun _ _ σ H _ _ I h => wpAny_execs_nil ⟨σ, H, I, h⟩
theorem nx {α : Type} {M : Model} {A : Around} {tr : Sem α} {Q Q' : α → Shared → Prop} {E : Value → Shared → Prop} {s : Shared} (h : wpAny M A tr Q (fun _ _ => False) s) (hQ : ∀ a s, Q a s → Q' a s) : wpAny M A tr Q' E s :=
  wpAny_mono h hQ fun _ _ z => z.elim
noncomputable def txDrop (te : TEX) : TSX := fun D R σ H => te σ H (fun _ H1 => D.nx σ H1) (R σ)
theorem XP.at {pins : List (Addr × Obj)} {σ : St} {R : XR} {x : Value} {s' : Shared} (h : XP X pins (fun σ' cls H' => σ' = σ ∧ R σ cls H') x s') : XP X pins R x s' := h.imp fun _ _ _ zq2_3 => by obtain ⟨e, q⟩ := zq2_3; exact e ▸ q
theorem psx_expr (he : PEX X e tx) (hs : swapsWith e none pos.line X.env = pure false := by rfl) : PSX X (.Expr e pos) (txDrop tx) := by
  intro pins s σ H D R I h
  exact wpAny_Expr_any (wpAny_mono (he pins s σ H _ _ I h) (fun v s1 zq3_2 => by obtain ⟨x, H1, I1, r1, q1⟩ := zq3_2; exact ⟨σ, H1, I1, q1⟩) fun _ _ z => z.at) I.quiet hs
noncomputable def txRet (te : TEX) : TSX := fun D R σ H => te σ H D.rt (R σ)
theorem psx_ret (he : PEX X e tx) : PSX X (.Return (some e) pos) (txRet tx) := by
  intro pins s σ H D R I h
  exact wpAny_Return_some (wpAny_mono (he pins s σ H _ _ I h) (fun v s1 zq4_2 => by obtain ⟨x, H1, I1, r1, q1⟩ := zq4_2; exact ⟨x, σ, H1, I1, r1, q1⟩) fun _ _ z => z.at)
noncomputable def txSet (te : TEX) (i : Nat) : TSX := fun D R σ H => te σ H (fun v H1 => D.nx (σ.set i (some v)) H1) (R σ)
theorem psx_set {i : Nat} {x : Str} {pos' : Pos} (hN : X.N.Nodup) (hi : X.N[i]? = some x) (hx : Loc X.env.scope x) (he : PEX X e tx) (hs : swapsWith e (some (.Name x pos')) pos.line X.env = pure false := by rfl) (hf : X.fn x = true ∨ X.env.scope.names.lookup x = some .local := by first | exact .inl rfl | exact .inr rfl | assumption) :
    PSX X (.Assign [.Name x pos'] e pos) (txSet tx i) := by
  intro pins s σ H D R I h
  refine wpAny_Assign_Name (wpAny_mono (he pins s σ H _ _ I h) (fun v s1 ⟨y, H1, I1, r1, q1⟩ => ?_) fun _ _ z => z.at) hs
  exact store_ok I1 hN hi hx r1 (fun s2 I2 => ⟨_, H1, I2, q1⟩) hf
noncomputable def txIf (c : TT) (t u : TSX) : TSX := fun D R σ H => c σ H fun b H1 => if b = true then t D R σ H1 else u D R σ H1
theorem psx_if {c : Expr} {a b : List Stmt} {tc : TT} (hc : PT X.nox c tc) (ha : PSsX X a ts) (hb : PSsX X b us) : PSX X (.If c a b pos) (txIf tc ts us) := by
  intro pins s σ H D R I h
  refine wpAny_If (nx (hc pins s σ H _ (I.wish _) h) fun d s1 zq6_2 => ?_)
  obtain ⟨H1, I1, q1⟩ := zq6_2
  cases d with
  | true => exact ha pins s1 σ H1 D R I1.unwish q1
  | false => exact hb pins s1 σ H1 D R I1.unwish q1
end

section
variable {X : Cx} {k : Nat} {f C : Addr} {fd : FuncData} {ps : List Str} {sp : Sp} {dvs : List V} {ds : List Value} {x m : Str} {p pos apos : Pos} {e o : Expr} {es : List Expr} {ta : TE} {t : TA}
theorem run_fnx {pins : List (Addr × Obj)} {σ : St} {H : Hp} {s : Shared} {Q : VK} {R : Value → Hp → Prop} {us : List Value} {vs : List V} (F : FnOk X.prog X.w X.K X.mg X.base (CXO X.prog X.w) k f fd ps sp) (hr : Room k X.A) (hb : Binds X.K fd ps ds) (hd : Vals dvs ds) (hex : X.ex = [])
    (I : Inv X pins σ H s) (r : Vals vs us) (h : sp (vs ++ dvs) H Q fun cls _ H' => R cls H') : wpAny (model X.prog X.w) X.A (call (.ref f) us) (EP X pins σ Q) (XP X pins fun σ' cls H' => σ' = σ ∧ R cls H') s := by
  have r2 : Vals (vs ++ dvs) (us ++ ds) := r.append hd
  have hl : (us ++ ds).length = ps.length := by rw [← r2.length]; exact F.len _ _ _ _ h
  refine wpAny_call (codeAny_mono (F.run X.A X.stack s H ⟨us, []⟩ (us ++ ds) (vs ++ dvs) Q _ hr I.env0 (hb s us I.kIn hl) r2 h) fun r s' hq => ?_)
  cases r with
  | error e => exact I.comes (E := fun cls _ H' => R cls H') hex (show CXO X.prog X.w X.stack H s (fun cls _ H' => R cls H') e s' from hq)
  | ok fl =>
    cases fl with
    | ret u => exact I.after hq
    | next => exact False.elim hq
    | brk => exact False.elim hq
    | cont => exact False.elim hq
noncomputable def txCall (sp : Sp) (dvs : List V) (t : TA) : TEX := fun σ H Q R => t σ H fun vs H1 => sp (vs ++ dvs) H1 Q fun cls _ H' => R cls H'
noncomputable def txMeth (C : Addr) (m : Str) (sp : Sp) (dvs : List V) (ta : TE) (t : TA) : TEX := fun σ H Q R => ta σ H fun x H1 => ∃ a dx fs, x = .ref a ∧ H1 a = some (.ins C dx fs) ∧ fs.lookup m = none ∧
  t σ H1 fun vs H2 => sp (x :: (vs ++ dvs)) H2 Q fun cls _ H' => R cls H'
theorem pex_call (F : FnOk X.prog X.w X.K X.mg X.base (CXO X.prog X.w) k f fd ps sp) (hr : Room k X.A) (hex : X.ex = []) (hg : Gl X x) (hm : X.mg x = some (.ref f)) (hk : PySem.W.keepIn X.K (.ref f) = true) (hb : Binds X.K fd ps ds) (hd : Vals dvs ds)
    (ha : PA X.nox (e :: es) t) (hdb : (x == ("__debug__" : Str)) = false := by decide) (he : starEach (e :: es) X.env = (false, eval e X.env) :: starEach es X.env := by rfl) (hpl : (backTo pos (starEach es X.env)).any (·.1) = false := by rfl) :
    PEX X (.Call (.Name x p) (e :: es) [] pos) (txCall sp dvs t) := by
  intro pins s σ H Q R I h
  refine wpAny_Call_Name_kw (ld_glob I hg hm ?_ hdb)
  refine PySem.W.callWith_K (h₀ := X.base) I.ok.mod.kin hk (nx (ha pos pins s σ H _ (I.wish _) h) fun us s1 ⟨vs, H1, I1, r, q⟩ => ⟨I1.unwish.kIn, ?_⟩) he hpl
  exact run_fnx F hr hb hd hex I1.unwish r q
theorem pex_meth {pl : Sem Bool} (he : PE X.nox o ta) (c : Cls X.K C) (hm : Meth X.K C m f) (F : FnOk X.prog X.w X.K X.mg X.base (CXO X.prog X.w) k f fd ps sp) (hr : Room k X.A) (hex : X.ex = []) (hb : Binds X.K fd ps ds) (hd : Vals dvs ds) (ha : PA X.nox (e :: es) t)
    (hst : starEach (e :: es) X.env = (false, eval e X.env) :: starEach es X.env := by rfl) (hpl : (backTo pos (starEach es X.env)).any (·.1) = false := by rfl)
    (ht : eval (.Call (.Attribute o m apos) (e :: es) [] pos) X.env = (do
      let ov ← eval o X.env
      standAt apos.atName
      let (f, first) ← holding [ov] (getMethod ov m pl)
      callWith pos f first (backTo pos (starEach (e :: es) X.env)) (backToKw pos (keywordEach [] X.env))) := by rfl) :
    PEX X (.Call (.Attribute o m apos) (e :: es) [] pos) (txMeth C m sp dvs ta t) := by
  intro pins s σ H Q R I h
  refine PySem.W.methodCall_KW (pl := pl) (nx (he pins s σ H _ (I.wish _) h) fun u s1 ⟨x, H1, I1, rx, a, dx, fs, ex, ea, l, q⟩ => ?_) ht
  subst ex
  obtain rfl : u = Value.ref a := rx
  refine getmeth_ok I1.unwish ea c hm l ?_
  refine PySem.W.callWith_K (first := [.ref a]) (h₀ := X.base) I.ok.mod.kin hm.kp (nx (ha pos pins s1 σ H1 _ I1 q) fun us s2 ⟨vs, H2, I2, r, q2⟩ => ⟨I2.unwish.kIn, ?_⟩) hst hpl
  exact run_fnx (us := .ref a :: us) (vs := .ref a :: vs) F hr hb hd hex I2.unwish (.cons rfl r) q2
end

def veMro : List Value := [.type "ValueError", .type "Exception", .type "BaseException", .type "object"]
theorem exc_obj {K : PySem.W.Frag} {h : Heap} {C : Addr} {bmB : List Value} {newId : String} (X : K.In h) (q : PySem.W.excIn K C bmB newId = true) :
    ∃ bm N nm q bs hdct sn sub ab col dd k0 k1 k2 k3 k5 mN, h.get? C = some (excClassObj nm q C N bs bm hdct sn sub ab col dd k0 k1 k2 k3 k5 newId) ∧ h.Ns N mN ∧ mN "__init__" = none ∧ OwnTail h bmB bm := by
  unfold PySem.W.excIn at q
  split at q
  · rename_i dd cd sl ho
    split at q
    · rename_i C' bm k0 k1 k2 k3 n k5 hm hs
      simp only [Bool.and_eq_true, beq_iff_eq, Bool.not_eq_true'] at q
      obtain ⟨⟨⟨⟨⟨rfl, rfl⟩, hdel⟩, ht⟩, hok⟩, hni⟩ := q
      obtain ⟨nm, bs, mro, ns, qn, hd, sn, sub, ab, col, del⟩ := cd
      dsimp only at hm hdel hok hni
      subst hm hdel
      have hsl : sl = #[k0, k1, k2, k3, some (.builtin n), k5] := by
        obtain ⟨l⟩ := sl
        simp only at hs
        rw [hs]
      subst hsl
      exact ⟨bm, ns, nm, qn, bs, hd, sn, sub, ab, col, dd, k0, k1, k2, k3, k5, _, X _ _ ho, .of_isNs (PySem.W.isNs_of_in X hok), PySem.W.nsMap_none_of_in X hok hni, PySem.W.tail_of_in X ht⟩
    · cases q
  · cases q
theorem objOk_there {P : Program} {w : World} {H : Hp} {h : Heap} {a : Addr} {o : HO} (x : ObjOk P w H h a o) : ∃ ob, h.get? a = some ob := by
  cases o with
  | lst xs => obtain ⟨_, _, _, _, e⟩ := x; exact ⟨_, e⟩
  | tup xs => obtain ⟨_, _, _, p⟩ := x; obtain ⟨o, e, _⟩ := p; exact ⟨_, e⟩
  | dK kvs => obtain ⟨_, _, _, _, o, _, _, e, _⟩ := x; exact ⟨_, e⟩
  | dT kvs => obtain ⟨_, _, _, _, o, _, _, e, _⟩ := x; exact ⟨_, e⟩
  | set S n => obtain ⟨o, _, _, _, e, _⟩ := x; exact ⟨_, e⟩
  | ins C dx fs => obtain ⟨_, _, _, e, _⟩ := x; exact ⟨_, e⟩
  | own y => obtain ⟨_, e⟩ := x; exact ⟨_, e⟩
  | xd fs => obtain ⟨_, ⟨_, _, _, e, _⟩, _⟩ := x; exact ⟨_, e⟩
  | rng lo hi => obtain ⟨_, _, _, e⟩ := x; exact ⟨_, e⟩
  | frz ob u => obtain ⟨e, _⟩ := x; exact ⟨_, e⟩
  | tbl ps => exact ⟨_, (show h.get? a = some _ from x)⟩
  | met f y => exact ⟨_, (show h.get? a = some _ from x)⟩
  | ext φ => obtain ⟨_, e, _⟩ := x; exact e
section
variable {X : Cx} {pins : List (Addr × Obj)} {σ : St} {H : Hp} {s : Shared}
/-- a new exception: what it leaves as it was -/
theorem Inv.raised {h' : Heap} {e : Addr} {cls : Value} {vs : List Value} (I : Inv X pins σ H s) (hex : X.ex = []) (hx : Heap.MadeExcOf s.heap h' e cls vs) : XP X pins (fun σ' c H' => σ' = σ ∧ c = cls ∧ H' = H) (.ref e) { s with heap := h' } := by
  obtain ⟨t, he, htn, ht⟩ := hx.there
  have hin : ∀ env ∈ X.stack, ∀ a, env.frame = some a → a ∈ frs X.stack := fun env he a hf => List.mem_filterMap.mpr ⟨env, he, hf⟩
  have nf : ∀ b u, H b = some u → b ∉ frs X.stack := fun b u q z => by rw [I.stkFree b z] at q; cases q
  have hB : ∀ b, s.heap.get? b = none → (PySem.W.hideAll s.heap (frs X.stack)).get? b = none := fun b q => by
    cases z : (PySem.W.hideAll s.heap (frs X.stack)).get? b with
    | none => rfl
    | some o => rw [PySem.W.of_hideAll _ z] at q; cases q
  refine ⟨e, cls, .ref t, PySem.W.hideAll s.heap (frs X.stack), σ, H, rfl, .inl ⟨fun b o q => hx.keeps b o (PySem.W.of_hideAll _ q), hB e hx.new, ?_, _, _, he, rfl, rfl, rfl, rfl⟩, ⟨_, _, he, rfl, rfl⟩, fun h'' tk k u => ?_, I.newTo hex hx.new ?_, rfl, rfl, rfl⟩
  · exact (PySem.W.funFrames_hide I.stack hin).of_keeps fun b o q _ => ⟨o, hx.keeps b o q, rfl⟩
  · have kp : ∀ b o, s.heap.get? b = some o → b ∉ frs X.stack → h''.get? b = some o := fun b o q nb => k b o (PySem.W.hideAll_get _ q nb)
    have sl : ∀ b o, s.heap.get? b = some o → b ∈ frs X.stack → ∃ sl, h''.get? b = some { o with slots := sl } := fun b o q hb => by
      obtain ⟨_, o', ho', hd⟩ := I.stack.mem hb
      rw [q] at ho'; cases ho'
      exact u b o (hx.keeps b o q) hd
    refine I.call' (s' := { s with heap := h'', toks := tk }) (ch := []) rfl ⟨fun b o q n hb _ => kp b o q hb, fun b o q n hb _ => sl b o q hb, fun b o q n _ => n, fun b o q _ => ?_, fun b xs q => q, fun b o u q => q, fun b ps q => ⟨#[], by rw [q]; simp⟩⟩ (fun a o q => ?_) I.bare (fun b z => absurd z (by simp))
    · by_cases hb : b ∈ frs X.stack
      · obtain ⟨sl', q'⟩ := sl b o q hb
        exact ⟨_, q'⟩
      · exact ⟨o, kp b o q hb⟩
    · refine (I.hok a o q).stay (fun c v hc qc => kp c v qc ?_) (fun _ z => z) fun _ _ z => z
      rcases hc with z | z
      · rw [z]; exact nf a o q
      · exact nf c _ z
  · cases z : H e with
    | none => rfl
    | some o =>
      obtain ⟨ob, hob⟩ := objOk_there (I.hok e o z)
      rw [hx.new] at hob; cases hob
end
end L2

namespace L2
open PySem PySem.Spec PyProof.Rows

noncomputable abbrev TJ := Str → St → Hp → (Str → Hp → Prop) → Prop
noncomputable def PJ (X : Cx) (vs : List Expr) (t : TJ) : Prop :=
  ∀ (pins : List (Addr × Obj)) (s : Shared) (σ : St) (H : Hp) (acc : Str) (Q : Str → Hp → Prop), Inv X pins σ H s → t acc σ H Q → Joins (model X.prog X.w) X.A X.xe (evalEach vs X.env) acc (fun out s1 => ∃ H', Inv X pins σ H' s1 ∧ Q out H') s
section
variable {X : Cx} {v v2 : Expr} {vs : List Expr} {te : TE} {t : TJ} {pos : Pos}
noncomputable def tjNil : TJ := fun acc _ H Q => Q acc H
noncomputable def tjCons (te : TE) (t : TJ) : TJ := fun acc σ H Q => te σ H fun x H1 => ∃ y, x = .str y ∧ (acc ++ y).length ≤ sizeLine ∧ t (acc ++ y) σ H1 Q
theorem pj_nil : PJ X [] tjNil := fun _ s _ H _ _ I h => show ∃ H', _ from ⟨H, I, h⟩
theorem pj_cons (he : PE X v te) (hr : PJ X vs t) : PJ X (v :: vs) (tjCons te t) := by
  intro pins s σ H acc Q I h
  show wpAny _ _ (eval v X.env) _ _ s
  refine thn (he pins s σ H _ I h) fun u s1 zq1_2 => ?_
  obtain ⟨x, H1, I1, r1, y, ex, hl, q⟩ := zq1_2
  subst ex
  obtain ⟨tk, rfl⟩ := r1
  exact ⟨y, tk, rfl, hl, hr pins s1 σ H1 _ Q I1 q⟩
theorem pe_join (h : PJ X (v :: v2 :: vs) t) : PE X (.JoinedStr (v :: v2 :: vs) pos) (fun σ H Q => t Str.empty σ H fun out H' => out.length ≤ sizeLine ∧ Q (.str out) H') := by
  intro pins s σ H Q I q
  refine wpAny_JoinedStr ?_
  have z := h pins s σ H Str.empty _ I q
  have go : ∀ (l : List (Sem Value)) (acc : Str) (s : Shared), Joins (model X.prog X.w) X.A X.xe l acc (fun out s1 => ∃ H', Inv X pins σ H' s1 ∧ out.length ≤ sizeLine ∧ Q (.str out) H') s →
      Joins (model X.prog X.w) X.A X.xe l acc (fun out s1 => out.length ≤ sizeLine ∧ EP X pins σ Q (.str out s1.toks) { s1 with toks := s1.toks + 1 }) s := by
    intro l
    induction l with
    | nil =>
      intro acc s ⟨H', I', hl, q'⟩
      exact ⟨hl, .str acc, H', I'.tok _, ⟨_, rfl⟩, q'⟩
    | cons a r ih =>
      intro acc s hj
      exact thn hj fun u s1 zq2_2 => by obtain ⟨y, tk, e, hl, q'⟩ := zq2_2; exact ⟨y, tk, e, hl, ih _ _ q'⟩
  exact go _ _ _ z
/-- {e} of an int -/
theorem pe_fv (he : PE X v te) : PE X (.FormattedValue v (-1) none pos) (fun σ H Q => te σ H fun x H1 => ∃ i : Int, x = .int i ∧ i.natAbs.log2 < 1920 ∧ Q (.str (toString i)) H1) := by
  intro pins s σ H Q I h
  refine wpAny_FormattedValue_plain (thn (he pins s σ H _ I h) fun u s1 zq3_2 => ?_)
  obtain ⟨x, H1, I1, r1, i, ex, hl, q⟩ := zq3_2
  subst ex
  obtain ⟨tk, rfl⟩ := r1
  exact wpAny_formatField_int hl ⟨.str (toString i), H1, I1.tok _, ⟨_, rfl⟩, q⟩
end
theorem len_app (a b : Str) : (a ++ b).length = a.length + b.length := strLen_append a b
theorem len_int {i : Int} (h : i.natAbs.log2 < 1920) : (toString i : Str).length ≤ 1921 := by
  have e := int_text_length_le (k := 1920) (by decide) h
  show (Str.ofString (toString i)).length ≤ 1921
  rw [PySem.ofString_length]
  exact e

section
variable {X : Cx} {C : Addr} {x : Str} {np cpos pos : Pos} {e₀ : Expr} {es : List Expr} {t : TA}
theorem psx_raise (hg : Gl X x) (hm : X.mg x = some (.ref C)) (hq : PySem.W.excIn X.K C veMro "ValueError.__new__" = true) (hc : X.calm = true) (hex : X.ex = []) (ha : PA X.nox (e₀ :: es) t)
    (he : starEach (e₀ :: es) X.env = (false, eval e₀ X.env) :: starEach es X.env := by rfl) (hpl : (backTo cpos (starEach es X.env)).any (·.1) = false := by rfl) (hd : (x == ("__debug__" : Str)) = false := by decide) :
    PSX X (.Raise (some (.Call (.Name x np) (e₀ :: es) [] cpos)) none pos) (fun D R σ H => t σ H fun vs H1 => vs.length ≤ sizeLine ∧ R σ (.ref C) H1) := by
  intro pins s σ H D R I h
  obtain ⟨tl, N, nm, q, bs, hdct, sn, sub, ab, col, dd, k0, k1, k2, k3, k5, mN, hC, hN, hni, T⟩ := exc_obj I.ok.mod.kin hq
  refine wpAny_Raise_call_subT (C := C) (nm := nm) (q := q) (N := N) (bs := bs) (bm := tl) (hdct := hdct) (sn := sn) (sub := sub) (ab := ab) (col := col) (dd := dd) (k0 := k0) (k1 := k1) (k2 := k2) (k3 := k3) (k5 := k5)
    F.excBase_ValueError (mN := mN) (T.hasType F.excBase_ValueError.hasBase) (I.ok.hd hc) (by rw [he]; show (false || (backTo cpos (starEach es X.env)).any (·.1)) = false; rw [hpl]; rfl) hni (ld_glob I hg hm ⟨rfl, ?_⟩ hd)
  have h2 := ha cpos pins s σ H _ (I.wish _) h
  rw [he] at h2 ⊢
  refine Calls.evalArgs_plain (nx h2 fun us s2 ⟨vs, H1, I1, r, hl, q1⟩ => ⟨rfl, ?_, I1.unwish.bk _ _ hC, hN.keeps I1.unwish.bk, T.keeps I1.unwish.bk, fun h' e hx => ?_⟩)
  · show us.length ≤ sizeLine
    rw [← r.length]; exact hl
  · exact (I1.unwish.raised hex hx).imp fun _ _ _ zq5_3 => by obtain ⟨a, b, c⟩ := zq5_3; subst a b c; exact q1
end

section
variable {P : Program} {w : World} {K : PySem.W.Frag} {mg : Str → Option Value} {base : Heap}
theorem made_leaves0 {M : Model} {A : Around} {E : Value → Shared → Prop} {s : Shared} {B : Heap} {env : Env} {outer : List Env} {L e : Addr} {cls a0 : Value} {Q : Unit → Shared → Prop}
    (hfr : A.frames = some (env :: outer)) (hf : env.frame = some L) (h : MadeW B (env :: outer) e cls a0 s.heap ∨ Heap.FlyingW B (env :: outer) e cls a0 s.heap ∨ ∃ L, env.frame = some L ∧ Heap.HeldW B (env :: outer) e cls a0 L s.heap)
    (hQ : ∀ h', Heap.FlyingW B outer e cls a0 h' → s.heap.UpToSlots h' → Q () { s with heap := h' }) : wpAny M A (leaving env (.ref e)) Q E s := by
  rcases h with ⟨h1, h2, h3, oe, vs, he, hc, hd, h0, h1'⟩ | h | ⟨L', hL, hh⟩
  · subst hc
    refine wpAny_leaving_firstW hfr h3 hf he h1 h2 hd h1' h0 fun h' ⟨k1, ⟨_, _, k2⟩, k3, k4⟩ => hQ h' ⟨k1, h2, k2, k3⟩ k4
  · exact wpAny_leaves_onW hfr hf h hQ
  · rw [hf] at hL
    cases hL
    obtain ⟨g1, g2, g3, g4⟩ := id hh
    refine wpAny_bind (wpAny_noteFrame_againW hf g4 (wpAny_landsW hh fun h' fl up => hQ h' ⟨fl.1, fl.2.1, ?_, fl.2.2.2⟩ up))
    exact (show h'.FunFrames B (env :: outer) from fl.2.2.1).2.2
theorem made_leaves {M : Model} {A : Around} {E : Value → Shared → Prop} {s : Shared} {B : Heap} {env : Env} {outer : List Env} {L e : Addr} {cls a0 : Value} {Q : Unit → Shared → Prop}
    (hfr : A.frames = some (env :: outer)) (hf : env.frame = some L) (h : MadeW B (env :: outer) e cls a0 s.heap ∨ Heap.FlyingW B (env :: outer) e cls a0 s.heap ∨ ∃ L, env.frame = some L ∧ Heap.HeldW B (env :: outer) e cls a0 L s.heap) (c : C2 e s.heap)
    (hQ : ∀ h', Heap.FlyingW B outer e cls a0 h' → s.heap.UpToSlots h' → C2 e h' → Q () { s with heap := h' }) : wpAny M A (leaving env (.ref e)) Q E s :=
  wpAny_mono ((pl_leaving env (.ref e)).any (E := fun _ _ => False) (made_leaves0 (Q := fun _ s' => ∃ h', s' = { s with heap := h' } ∧ Heap.FlyingW B outer e cls a0 h' ∧ s.heap.UpToSlots h') hfr hf h fun h' f u => ⟨h', rfl, f, u⟩) c)
    (fun _ s' zq7_2 => by obtain ⟨⟨h', e1, f, u⟩, c'⟩ := zq7_2; subst e1; exact hQ h' f u c') fun _ _ z => z.1.elim
theorem Fun.okx {x qual : Str} {st : Stmt} {f : Addr} {fd : FuncData} {N ps : List Str} {k : Nat} {sp : Sp} (F : Fun K x qual st f fd) (S : FnScope N ps (defScope st)) (len : ∀ vs H Q E, sp vs H Q E → vs.length = ps.length)
    (hbody : ∀ (cdv : Value) (A : Around) (outer : List Env) (s : Shared) (H : Hp) (vs : List V) (Q : VK) (E : XK), Room k (A.deeper (envOfC qual (defScope st) s.heap.objs.size f cdv)) → sp vs H Q E →
      ∃ t, PSsX (cxOf (CXO P w) P w K mg base N qual (defScope st) f cdv A outer s H E) (defBody st) t ∧ t { nx := fun _ H' => Q .non H', rt := Q } (fun _ cls H' => E cls none H') (start N vs) H) : FnOk P w K mg base (CXO P w) (k + 1) f fd ps sp := by
  obtain ⟨oc, od, kV, doc, pm, an, cdv, ct, osl, rfl, lk, hcd⟩ := F.ex
  refine fn_of lk hcd S len fun A outer s H vs Q E hr hsp => ?_
  obtain ⟨t, h, q⟩ := hbody cdv A outer s H vs Q E hr hsp
  refine ⟨fun D σ H' => t D (fun _ cls H' => E cls none H') σ H', fun pins s1 σ H1 D I q1 => ?_, q⟩
  refine wpAny_mono (h pins s1 σ H1 D _ I q1) (fun _ _ z => z) fun v s2 hx => ?_
  obtain ⟨e, cls, a0, B, σ2, H2, rfl, fl, c2, be, new, hE⟩ := hx
  have stay : B.StaysIn s2.heap := by
    rcases fl with z | z | ⟨_, _, z⟩
    · exact z.1
    · exact z.1
    · exact z.1
  have I2 := be.now stay
  refine made_leaves (L := s.heap.objs.size) I2.ok.frames rfl fl c2 fun h' fl' up c3 => ?_
  exact ⟨e, cls, a0, B, H2, rfl, I2.os, I2.bare, new.old, new.free, fl', c3, fun h'' k u => (fun J => ⟨J.base, J.hok⟩) (be h'' s2.toks k (up.trans u)), hE⟩
end

/-- the context of an except suite -/
noncomputable abbrev Cx.hand (X : Cx) (e : Addr) : Cx := { X with A := X.A.mark (some (.ref e)), calm := false }
section
variable {X : Cx} {pins : List (Addr × Obj)} {σ : St} {H : Hp} {s : Shared}
theorem Cx.Ok.hand (ok : X.Ok) (e : Addr) : (X.hand e).Ok :=
  ⟨ok.mod, ok.kind, ok.glob, ok.blt, ok.above, ok.inj, ok.has, ok.cab, (fun z => Bool.noConfusion z), ok.frames, ok.stk, ok.exf, ok.bs, ok.bsz, ok.noex, ok.exfs, ok.funs, ok.frf⟩
theorem Inv.hand (I : Inv X pins σ H s) (e : Addr) : Inv (X.hand e) pins σ H s := ⟨I.ok.hand e, I.os, I.bare, I.base, I.loc, I.cell, I.free, I.freeC, I.pin, I.hok, I.len⟩
theorem Inv.unhand {e : Addr} (I : Inv (X.hand e) pins σ H s) (ok : X.Ok) : Inv X pins σ H s := ⟨ok, I.os, I.bare, I.base, I.loc, I.cell, I.free, I.freeC, I.pin, I.hok, I.len⟩
/-- a local name goes -/
theorem Inv.unset {i : Nat} {n : Str} {m : Str → Option Value} {h' : Heap} {v : Option Value} {tk : Nat} (I : Inv X pins σ H s) (hN : X.N.Nodup) (hi : X.N[i]? = some n) (hl : X.env.kindOf n = some .local)
    (hm : s.heap.Ns X.env.locals m) (hl' : ∀ (i : Nat) (x : Str) (v : V), X.N[i]? = some x → σ[i]? = some (some v) → Vis X.env.scope x → ∃ u, RelV v u ∧ Look X.env s.heap m x u)
    (hn : h'.Ns X.env.locals (fun x => if x = n then v else m x)) (hs : Heap.SameBut X.env.locals s.heap h') : Inv X pins (σ.set i none) H { s with heap := h', toks := tk } := by
  have hiσ : i < σ.length := by rw [I.len]; exact (List.getElem?_eq_some_iff.mp hi).1
  have cne := I.cne
  have neL : ∀ b o, X.s₀.heap.get? b = some o → b ≠ X.env.locals := fun b o e => Nat.ne_of_lt (Nat.lt_of_lt_of_le (Heap.lt_size e) I.ok.above)
  refine ⟨I.ok, I.os, I.bare, ⟨fun b o e n hb hx => ?_, fun b o e n hb hx => ?_, I.base.free, fun b o e hx => ?_, I.base.tups, I.base.frzs, I.base.tbls⟩, ⟨_, hn, fun j y v' e1 e2 e3 => ?_⟩, fun y c e => ?_, I.free, I.freeC, fun p hp => ?_, fun b ob e => ?_, by simpa using I.len⟩
  · exact (hs.2 b (neL b o e)).trans (I.base.keep b o e n hb hx)
  · obtain ⟨sl, e1⟩ := I.base.slot b o e n hb hx
    exact ⟨sl, (hs.2 b (neL b o e)).trans e1⟩
  · obtain ⟨o', e1⟩ := I.base.there b o e hx
    exact ⟨o', (hs.2 b (neL b o e)).trans e1⟩
  · by_cases hj : j = i
    · subst hj
      rw [List.getElem?_set_self hiσ] at e2
      cases e2
    · rw [List.getElem?_set_ne (Ne.symm hj)] at e2
      obtain ⟨u', r', q⟩ := hl' j y v' e1 e2 e3
      refine ⟨u', r', ?_⟩
      rcases q with ⟨k, e⟩ | ⟨k, c, e, z⟩
      · refine .inl ⟨k, ?_⟩
        have : y ≠ n := fun e => hj (nodup_ix hN e1 (e ▸ hi))
        simp [this, e]
      · exact .inr ⟨k, c, e, z.sameBut hs (cne y c e)⟩
  · obtain ⟨w', z⟩ := I.cell y c e
    exact ⟨w', z.sameBut hs (cne y c e)⟩
  · obtain ⟨e, n, ne, nf, d⟩ := I.pin p hp
    exact ⟨(hs.2 p.1 ne).trans e, n, ne, nf, d⟩
  · refine (I.hok b ob e).stay (fun c w' hc q => (hs.2 c ?_).trans q) (fun _ q => q) fun _ _ q => q
    rintro rfl
    rcases hc with hc | hc
    · rw [← hc, I.free] at e; cases e
    · rw [I.free] at hc; cases hc
end
theorem made_looks0 {M : Model} {A : Around} {E : Value → Shared → Prop} {s : Shared} {B : Heap} {env : Env} {outer : List Env} {L e : Addr} {cls a0 : Value} {Q : Unit → Shared → Prop}
    (hfr : A.frames = some (env :: outer)) (hf : env.frame = some L) (h : MadeW B (env :: outer) e cls a0 s.heap ∨ Heap.FlyingW B (env :: outer) e cls a0 s.heap ∨ ∃ L, env.frame = some L ∧ Heap.HeldW B (env :: outer) e cls a0 L s.heap)
    (hQ : ∀ h', Heap.HeldW B (env :: outer) e cls a0 L h' → s.heap.UpToSlots h' → Q () { s with heap := h' }) : wpAny M A (noteFrame (.ref e) env) Q E s := by
  rcases h with ⟨h1, h2, h3, oe, vs, he, hc, hd, h0, h1'⟩ | h | ⟨L', hL, hh⟩
  · subst hc
    unfold noteFrame
    simp only [hf]
    refine wpAny_bind (wpAny_field he hd h1' ?_)
    rw [if_neg (by decide)]
    exact wpAny_entryW hfr h3 hf he h1 h2 hd (Array.getElem?_eq_some_iff.mp h1').1 h0 fun h' ⟨k1, k2, k3, k4⟩ => hQ h' ⟨k1, h2, k2, k3⟩ k4
  · exact wpAny_looks_onW hfr hf h hQ
  · rw [hf] at hL
    cases hL
    exact wpAny_noteFrame_againW hf hh.2.2.2 (hQ s.heap hh (Heap.UpToSlots.refl _))
theorem made_looks {M : Model} {A : Around} {E : Value → Shared → Prop} {s : Shared} {B : Heap} {env : Env} {outer : List Env} {L e : Addr} {cls a0 : Value} {Q : Unit → Shared → Prop}
    (hfr : A.frames = some (env :: outer)) (hf : env.frame = some L) (h : MadeW B (env :: outer) e cls a0 s.heap ∨ Heap.FlyingW B (env :: outer) e cls a0 s.heap ∨ ∃ L, env.frame = some L ∧ Heap.HeldW B (env :: outer) e cls a0 L s.heap) (c : C2 e s.heap)
    (hQ : ∀ h', Heap.HeldW B (env :: outer) e cls a0 L h' → s.heap.UpToSlots h' → C2 e h' → Q () { s with heap := h' }) : wpAny M A (noteFrame (.ref e) env) Q E s :=
  wpAny_mono ((pl_note (.ref e) env).any (E := fun _ _ => False) (made_looks0 (Q := fun _ s' => ∃ h', s' = { s with heap := h' } ∧ Heap.HeldW B (env :: outer) e cls a0 L h' ∧ s.heap.UpToSlots h') hfr hf h fun h' f u => ⟨h', rfl, f, u⟩) c)
    (fun _ s' zq9_2 => by obtain ⟨⟨h', e1, f, u⟩, c'⟩ := zq9_2; subst e1; exact hQ h' f u c') fun _ _ z => z.1.elim
theorem lands_c {M : Model} {A : Around} {E : Value → Shared → Prop} {s : Shared} {B : Heap} {l : List Env} {e L : Addr} {cls a0 : Value} {Q : Unit → Shared → Prop} (hh : Heap.HeldW B l e cls a0 L s.heap) (c : C2 e s.heap)
    (hQ : ∀ h', Heap.FlyingW B l e cls a0 h' → s.heap.UpToSlots h' → C2 e h' → Q () { s with heap := h' }) : wpAny M A (setFlight (.ref e) none) Q E s :=
  wpAny_mono ((pl_flight (.ref e) none).any (E := fun _ _ => False) (wpAny_landsW (Q := fun _ s' => ∃ h', s' = { s with heap := h' } ∧ Heap.FlyingW B l e cls a0 h' ∧ s.heap.UpToSlots h') hh fun h' f u => ⟨h', rfl, f, u⟩) c)
    (fun _ s' zq10_2 => by obtain ⟨⟨h', e1, f, u⟩, c'⟩ := zq10_2; subst e1; exact hQ h' f u c') fun _ _ z => z.1.elim
theorem lands_c2 {M : Model} {A : Around} {E : Value → Shared → Prop} {s : Shared} {B : Heap} {l : List Env} {e : Addr} {cls a0 : Value} {Q : Unit → Shared → Prop} (hh : Heap.FlyingW B l e cls a0 s.heap) (c : C2 e s.heap)
    (hQ : ∀ h', Heap.FlyingW B l e cls a0 h' → s.heap.UpToSlots h' → C2 e h' → Q () { s with heap := h' }) : wpAny M A (setFlight (.ref e) none) Q E s :=
  wpAny_mono ((pl_flight (.ref e) none).any (E := fun _ _ => False) (lands_againW (Q := fun _ s' => ∃ h', s' = { s with heap := h' } ∧ Heap.FlyingW B l e cls a0 h' ∧ s.heap.UpToSlots h') hh fun h' f u => ⟨h', rfl, f, u⟩) c)
    (fun _ s' zq11_2 => by obtain ⟨⟨h', e1, f, u⟩, c'⟩ := zq11_2; subst e1; exact hQ h' f u c') fun _ _ z => z.1.elim
noncomputable def goneE (i : Nat) (D : Ends) : Ends := { nx := fun σ H => D.nx (σ.set i none) H, rt := D.rt, bk := fun σ H => D.bk (σ.set i none) H, ct := fun σ H => D.ct (σ.set i none) H }
section
variable {X : Cx} {C : Addr} {i : Nat} {x n : Str} {np hpos pos : Pos} {body suite : List Stmt} {b₀ : Stmt} {tb : TSX} {ts : TS}
end
end L2

namespace L2
open PySem PySem.Spec PyProof.Rows
section
variable {X : Cx} {tg : Expr}
theorem XP.passes {pins : List (Addr × Obj)} {R : XR} (hst : X.stack = X.env :: X.outer) (hf : X.env.frame = some X.env.locals) : PassesOwn (model X.prog X.w) X.A X.env (XP X pins R) := by
  intro x s1 hx
  obtain ⟨e, cls, a0, B, σ1, H1, rfl, fl, c2, be, new, q⟩ := hx
  have stay : B.StaysIn s1.heap := by
    rcases fl with z | z | ⟨_, _, z⟩
    · exact z.1
    · exact z.1
    · exact z.1
  have I1 := be.now stay
  have hfr := I1.ok.frames
  rw [hst] at fl hfr
  refine made_looks hfr hf fl c2 fun h4 held up4 c4 => ?_
  obtain ⟨g1, g2, g3, oe, vs, T, oT, ts, k1, ⟨k2, k3⟩, k4, k5, k6, k7, k8, k9, k10⟩ := id held
  show wpAny _ _ _ _ _ _
  rw [hf]
  refine wpAny_bind (wpAny_field k1 k4 k5 ?_)
  rw [if_neg (by simp)]
  unfold setFlight
  refine wpAny_bind (wpAny_field k1 k4 k5 ?_)
  rw [if_pos (by simp)]
  refine wpAny_setField k8 k9 (Array.getElem?_eq_some_iff.mp k10).1 ?_
  have eu := Heap.update_setField_same h4 T oT ts 3 (rawInt X.env.locals) k8 k9 k10
  show XP X pins R (.ref e) { s1 with heap := h4.update T (Obj.mapFields fun x => x.setIfInBounds 3 (rawInt X.env.locals)) }
  rw [eu]
  exact ⟨e, cls, a0, B, σ1, H1, rfl, .inr (.inr ⟨X.env.locals, hf, by rw [hst]; exact held⟩), c4, fun h' tk k u => be h' tk k (up4.trans u), new, q⟩
theorem XP.unpinned {pins pl : List (Addr × Obj)} {R : XR} {x : Value} {s' : Shared} (h : XP X (pins ++ pl) R x s') : XP X pins R x s' := by
  obtain ⟨e, cls, a0, B, σ1, H1, rfl, fl, c2, be, new, q⟩ := h
  refine ⟨e, cls, a0, B, σ1, H1, rfl, fl, c2, fun h' tk k u => (be h' tk k u).unpinned, ⟨new.old, new.loc, new.fs, new.cell, fun p hp => new.pin p ?_, new.free⟩, q⟩
  rcases List.mem_append.mp hp with m | m
  · exact List.mem_append_left _ m
  · exact List.mem_append_right _ (List.mem_append_left _ m)
noncomputable def txFor (wi : TI) (g : TG) (tb : TSX) : TSX := fun D R σ H => tFor wi g (fun D' σ' H' => tb D' R σ' H') D σ H
theorem psx_for {iter : Expr} {body : List Stmt} {wi : TI} {g : TG} {tb : TSX} {pos : Pos} (hst : X.stack = X.env :: X.outer) (hf : X.env.frame = some X.env.locals) (hc : X.calm = true) (hi : PI X.nox tg iter wi) (hg : PG X.nox tg g) (hb : PSsX X body tb)
    (hs : ∀ x, foldedSetIterable iter X.env x = pure x := by intro _; rfl) : PSX X (.For tg iter body [] pos) (txFor wi g tb) := by
  intro pins s σ H D R I h
  have hp : PassesOwn (model X.prog X.w) X.A X.env (XP X pins R) := XP.passes hst hf
  refine wpAny_For (nx (hi pins s σ H _ (I.wish _) h) fun v s1 h1 => nx h1 fun itv s2 h2 => ?_) hs
  obtain ⟨it, fp, tn, J, H2, e, I2', T, st2, f2', W, ⟨m0, w0⟩, turn⟩ := h2
  have I2 := I2'.unwish
  have f2 : ∀ b ∈ fp, FpOk X pins H2 b := fun b hb => f2' b hb
  subst e
  have stat : ∀ {H' : Hp}, (∀ b ∈ fp, H' b = none) → ∀ b ∈ fp, FpOk X pins H' b := fun hn b hb => ⟨hn b hb, (f2 b hb).2⟩
  refine codeAny_forLoop_any (fun n s' => ∃ i σ' H', Inv X pins σ' H' s' ∧ tn i s'.heap ∧ (∀ b ∈ fp, H' b = none) ∧ W i n σ' H') ?_ m0 ⟨0, σ, H2, I2, st2, fun b hb => (f2 b hb).1, w0⟩
  rintro n s3 ⟨i, σ3, H3, I3, st3, fr3, w3⟩
  rcases turn i n σ3 H3 w3 with ⟨stop, qn⟩ | ⟨go, N, hN, step⟩
  · refine wpAny_passesOwn hp (thn (T.done X rfl rfl rfl hc i pins s3 σ3 H3 _ I3 (stat fr3) st3 stop) fun r s4 zq1_2 => ?_)
    obtain ⟨hr, I4⟩ := zq1_2
    subst hr
    exact wpAny_execs_nil ⟨σ3, H3, I4, qn⟩
  · refine wpAny_passesOwn hp (thn (T.item X rfl rfl rfl hc i pins s3 σ3 H3 _ I3 (stat fr3) st3 go) fun r s4 zq2_2 => ?_)
    obtain ⟨u, hr, h4⟩ := zq2_2
    subst hr
    refine wpAny_passesOwn hp (thn h4 fun _ s5 zq3_2 => ?_)
    obtain ⟨x, H5, I5, r5, y5, st5, fr5⟩ := zq3_2
    have I5' := I5.pinned (stat fr5) (T.obj _ _ st5)
    refine wpAny_passesOwn hp (nx (hg _ s5 σ3 H5 x u _ (I5'.wish _) r5 (step x H5 y5)) fun _ s6 zq4_2 => ?_)
    obtain ⟨σ6, H6, I6, q6⟩ := zq4_2
    refine wpAny_passesOwn hp (wpAny_mono (hb _ s6 σ6 H6 _ R I6.unwish q6) (fun f s7 q7 => ?_) fun _ _ z => z.unpinned)
    have again : ∀ {σ7 : St} {H7 : Hp}, Inv X (pins ++ pinsAt fp s5.heap) σ7 H7 s7 → N σ7 H7 → ∃ m, m < n ∧ ∃ i σ' H', Inv X pins σ' H' s7 ∧ tn i s7.heap ∧ (∀ b ∈ fp, H' b = none) ∧ W i m σ' H' := fun {σ7 H7} I7 n7 => by
      obtain ⟨m', hm, w7⟩ := hN σ7 H7 n7
      refine ⟨m', hm, i + 1, σ7, H7, I7.unpinned, T.keep _ _ _ st5 fun b hb o e => (I7.pin (b, o) (List.mem_append_right _ (List.mem_append_right _ (mem_pinsAt hb e)))).1, fun b hb => ?_, w7⟩
      obtain ⟨o, e, d⟩ := T.obj _ _ st5 b hb
      exact (I7.pin (b, o) (List.mem_append_right _ (List.mem_append_right _ (mem_pinsAt hb e)))).2.1
    cases f with
    | next => obtain ⟨σ7, H7, I7, n7⟩ := q7; exact again I7 n7
    | cont => obtain ⟨σ7, H7, I7, n7⟩ := q7; exact again I7 n7
    | brk => obtain ⟨σ7, H7, I7, q7⟩ := q7; exact ⟨σ7, H7, I7.unpinned, q7⟩
    | ret v => obtain ⟨x7, σ7, H7, I7, r7, q7⟩ := q7; exact ⟨x7, σ7, H7, I7.unpinned, r7, q7⟩
end
section
variable {X : Cx} {C : Addr} {x : Str} {np hpos pos : Pos} {body suite : List Stmt} {b₀ : Stmt} {tb : TSX} {ts : TS}
end
end L2

namespace L2
open PySem PySem.Spec PyProof.Rows
section
variable {t u r : TS} {D : Ends} {σ : St} {H : Hp}
/-- u' holds wherever u does -/
noncomputable abbrev Le (u u' : TS) : Prop := ∀ D σ H, u D σ H → u' D σ H
theorem Le.rfl : Le u u := fun _ _ _ h => h
theorem hid (k : ∀ u', Le u u' → tSeq t u' D σ H) : tSeq t u D σ H := k u Le.rfl
theorem hidSI {c : TT} (k : ∀ t' u' r', Le t t' → Le u u' → Le r r' → tSeq (tIfS c t' u') r' D σ H) : tSeq (tIfS c t u) r D σ H := k t u r Le.rfl Le.rfl Le.rfl
theorem hidF {wi : TI} {g : TG} (k : ∀ t', Le t t' → tFor wi g t' D σ H) : tFor wi g t D σ H := k t Le.rfl
theorem hidSF {wi : TI} {g : TG} (k : ∀ t' r', Le t t' → Le r r' → tSeq (tFor wi g t') r' D σ H) : tSeq (tFor wi g t) r D σ H := k t r Le.rfl Le.rfl
noncomputable abbrev LeX (u u' : TSX) : Prop := ∀ D R σ H, u D R σ H → u' D R σ H
theorem LeX.rfl {u : TSX} : LeX u u := fun _ _ _ _ h => h
theorem hidX {t u : TSX} {R : XR} (k : ∀ u', LeX u u' → txSeq t u' D R σ H) : txSeq t u D R σ H := k u LeX.rfl
/-- the end of a statement's value, and of a test, under a name of its own -/
theorem hidA {te : TE} {g : TG} (k : ∀ Q : V → Hp → Prop, (∀ x H1, g x σ H1 (u D) → Q x H1) → te σ H Q) : tSeq (tAsg te g) u D σ H := k _ fun _ _ h => h
theorem hidN {te : TE} {i : Nat} (k : ∀ Q : V → Hp → Prop, (∀ x H1, u D (σ.set i (some x)) H1 → Q x H1) → te σ H Q) : tSeq (tAsg te (gName i)) u D σ H := k _ fun _ _ h => h
theorem hidD {te : TE} (k : ∀ Q : V → Hp → Prop, (∀ x H1, u D σ H1 → Q x H1) → te σ H Q) : tSeq (tDrop te) u D σ H := k _ fun _ _ h => h
theorem hidDL {te : TE} (k : ∀ Q : V → Hp → Prop, (∀ x H1, D.nx σ H1 → Q x H1) → te σ H Q) : tDrop te D σ H := k _ fun _ _ h => h
theorem hidR {te : TE} (k : ∀ Q : V → Hp → Prop, (∀ x H1, D.rt x H1 → Q x H1) → te σ H Q) : tRet te D σ H := k _ fun _ _ h => h
theorem bQ {A B : Hp → Prop} {Q : Bool → Hp → Prop} (e : Q = fun b H1 => if b = true then A H1 else B H1) : (∀ H1, A H1 → Q true H1) ∧ ∀ H1, B H1 → Q false H1 := by
  subst e
  exact ⟨fun _ h => iteT h, fun _ h => iteF h⟩
theorem hidC {c : TT} (k : ∀ Q : Bool → Hp → Prop, (∀ H1, t { D with nx := r D } σ H1 → Q true H1) → (∀ H1, r D σ H1 → Q false H1) → c σ H Q) : tSeq (tIfS c t tNext) r D σ H := k _ (bQ rfl).1 (bQ (A := fun H1 => t { D with nx := r D } σ H1) rfl).2
theorem hidCR {c : TT} {te : TE} (k : ∀ Q : Bool → Hp → Prop, (∀ H1, tRet te D σ H1 → Q true H1) → (∀ H1, r D σ H1 → Q false H1) → c σ H Q) : tSeq (tIfS c (tRet te) tNext) r D σ H := k _ (bQ rfl).1 (bQ (A := fun H1 => tRet te D σ H1) rfl).2
theorem hidCL {c : TT} (k : ∀ Q : Bool → Hp → Prop, (∀ H1, t D σ H1 → Q true H1) → (∀ H1, D.nx σ H1 → Q false H1) → c σ H Q) : tIfS c t tNext D σ H := k _ (bQ rfl).1 (bQ (A := fun H1 => t D σ H1) rfl).2
theorem iteB {Q : Bool → Hp → Prop} {b : Bool} {H : Hp} (t : b = true → Q true H) (f : ¬ b = true → Q false H) : Q b H := by
  cases b
  · exact f (by intro z; cases z)
  · exact t rfl
theorem hidXC {t r : TSX} {R : XR} {c : TT} (k : ∀ Q : Bool → Hp → Prop, (∀ H1, t { D with nx := r D R } R σ H1 → Q true H1) → (∀ H1, r D R σ H1 → Q false H1) → c σ H Q) : txSeq (txIf c t txNext) r D R σ H := k _ (bQ rfl).1 (bQ (A := fun H1 => t { D with nx := r D R } R σ H1) rfl).2
theorem hidXCR {tx : TEX} {r : TSX} {R : XR} {c : TT} (k : ∀ Q : Bool → Hp → Prop, (∀ H1, txRet tx D R σ H1 → Q true H1) → (∀ H1, r D R σ H1 → Q false H1) → c σ H Q) : txSeq (txIf c (txRet tx) txNext) r D R σ H := k _ (bQ rfl).1 (bQ (A := fun H1 => txRet tx D R σ H1) rfl).2
theorem shareC {c : TT} (Pr : St → Hp → Prop) (mk : (∀ σ H, Pr σ H → r D σ H) → ∀ Q : Bool → Hp → Prop, (∀ H1, t { D with nx := r D } σ H1 → Q true H1) → (∀ H1, Pr σ H1 → Q false H1) → c σ H Q) (h : ∀ σ H, Pr σ H → r D σ H) : tSeq (tIfS c t tNext) r D σ H := mk h _ (bQ rfl).1 fun H1 p => (bQ (A := fun H1 => t { D with nx := r D } σ H1) rfl).2 H1 (h _ _ p)
theorem hids16 {t1 t2 t3 t4 t5 t6 t7 t8 t9 t10 t11 t12 t13 t14 t15 t16 : TS} (k : ∀ u16, Le t16 u16 → ∀ u15, Le (tSeq t15 u16) u15 → ∀ u14, Le (tSeq t14 u15) u14 → ∀ u13, Le (tSeq t13 u14) u13 → ∀ u12, Le (tSeq t12 u13) u12 → ∀ u11, Le (tSeq t11 u12) u11 → ∀ u10, Le (tSeq t10 u11) u10 → ∀ u9, Le (tSeq t9 u10) u9 → ∀ u8, Le (tSeq t8 u9) u8 → ∀ u7, Le (tSeq t7 u8) u7 → ∀ u6, Le (tSeq t6 u7) u6 → ∀ u5, Le (tSeq t5 u6) u5 → ∀ u4, Le (tSeq t4 u5) u4 → ∀ u3, Le (tSeq t3 u4) u3 → ∀ u2, Le (tSeq t2 u3) u2 → tSeq t1 u2 D σ H) : tSeq t1 (tSeq t2 (tSeq t3 (tSeq t4 (tSeq t5 (tSeq t6 (tSeq t7 (tSeq t8 (tSeq t9 (tSeq t10 (tSeq t11 (tSeq t12 (tSeq t13 (tSeq t14 (tSeq t15 t16)))))))))))))) D σ H := k t16 Le.rfl (tSeq t15 t16) Le.rfl (tSeq t14 (tSeq t15 t16)) Le.rfl (tSeq t13 (tSeq t14 (tSeq t15 t16))) Le.rfl (tSeq t12 (tSeq t13 (tSeq t14 (tSeq t15 t16)))) Le.rfl (tSeq t11 (tSeq t12 (tSeq t13 (tSeq t14 (tSeq t15 t16))))) Le.rfl (tSeq t10 (tSeq t11 (tSeq t12 (tSeq t13 (tSeq t14 (tSeq t15 t16)))))) Le.rfl (tSeq t9 (tSeq t10 (tSeq t11 (tSeq t12 (tSeq t13 (tSeq t14 (tSeq t15 t16))))))) Le.rfl (tSeq t8 (tSeq t9 (tSeq t10 (tSeq t11 (tSeq t12 (tSeq t13 (tSeq t14 (tSeq t15 t16)))))))) Le.rfl (tSeq t7 (tSeq t8 (tSeq t9 (tSeq t10 (tSeq t11 (tSeq t12 (tSeq t13 (tSeq t14 (tSeq t15 t16))))))))) Le.rfl (tSeq t6 (tSeq t7 (tSeq t8 (tSeq t9 (tSeq t10 (tSeq t11 (tSeq t12 (tSeq t13 (tSeq t14 (tSeq t15 t16)))))))))) Le.rfl (tSeq t5 (tSeq t6 (tSeq t7 (tSeq t8 (tSeq t9 (tSeq t10 (tSeq t11 (tSeq t12 (tSeq t13 (tSeq t14 (tSeq t15 t16))))))))))) Le.rfl (tSeq t4 (tSeq t5 (tSeq t6 (tSeq t7 (tSeq t8 (tSeq t9 (tSeq t10 (tSeq t11 (tSeq t12 (tSeq t13 (tSeq t14 (tSeq t15 t16)))))))))))) Le.rfl (tSeq t3 (tSeq t4 (tSeq t5 (tSeq t6 (tSeq t7 (tSeq t8 (tSeq t9 (tSeq t10 (tSeq t11 (tSeq t12 (tSeq t13 (tSeq t14 (tSeq t15 t16))))))))))))) Le.rfl (tSeq t2 (tSeq t3 (tSeq t4 (tSeq t5 (tSeq t6 (tSeq t7 (tSeq t8 (tSeq t9 (tSeq t10 (tSeq t11 (tSeq t12 (tSeq t13 (tSeq t14 (tSeq t15 t16)))))))))))))) Le.rfl
theorem hids17 {t1 t2 t3 t4 t5 t6 t7 t8 t9 t10 t11 t12 t13 t14 t15 t16 t17 : TS} (k : ∀ u17, Le t17 u17 → ∀ u16, Le (tSeq t16 u17) u16 → ∀ u15, Le (tSeq t15 u16) u15 → ∀ u14, Le (tSeq t14 u15) u14 → ∀ u13, Le (tSeq t13 u14) u13 → ∀ u12, Le (tSeq t12 u13) u12 → ∀ u11, Le (tSeq t11 u12) u11 → ∀ u10, Le (tSeq t10 u11) u10 → ∀ u9, Le (tSeq t9 u10) u9 → ∀ u8, Le (tSeq t8 u9) u8 → ∀ u7, Le (tSeq t7 u8) u7 → ∀ u6, Le (tSeq t6 u7) u6 → ∀ u5, Le (tSeq t5 u6) u5 → ∀ u4, Le (tSeq t4 u5) u4 → ∀ u3, Le (tSeq t3 u4) u3 → ∀ u2, Le (tSeq t2 u3) u2 → tSeq t1 u2 D σ H) : tSeq t1 (tSeq t2 (tSeq t3 (tSeq t4 (tSeq t5 (tSeq t6 (tSeq t7 (tSeq t8 (tSeq t9 (tSeq t10 (tSeq t11 (tSeq t12 (tSeq t13 (tSeq t14 (tSeq t15 (tSeq t16 t17))))))))))))))) D σ H := k t17 Le.rfl (tSeq t16 t17) Le.rfl (tSeq t15 (tSeq t16 t17)) Le.rfl (tSeq t14 (tSeq t15 (tSeq t16 t17))) Le.rfl (tSeq t13 (tSeq t14 (tSeq t15 (tSeq t16 t17)))) Le.rfl (tSeq t12 (tSeq t13 (tSeq t14 (tSeq t15 (tSeq t16 t17))))) Le.rfl (tSeq t11 (tSeq t12 (tSeq t13 (tSeq t14 (tSeq t15 (tSeq t16 t17)))))) Le.rfl (tSeq t10 (tSeq t11 (tSeq t12 (tSeq t13 (tSeq t14 (tSeq t15 (tSeq t16 t17))))))) Le.rfl (tSeq t9 (tSeq t10 (tSeq t11 (tSeq t12 (tSeq t13 (tSeq t14 (tSeq t15 (tSeq t16 t17)))))))) Le.rfl (tSeq t8 (tSeq t9 (tSeq t10 (tSeq t11 (tSeq t12 (tSeq t13 (tSeq t14 (tSeq t15 (tSeq t16 t17))))))))) Le.rfl (tSeq t7 (tSeq t8 (tSeq t9 (tSeq t10 (tSeq t11 (tSeq t12 (tSeq t13 (tSeq t14 (tSeq t15 (tSeq t16 t17)))))))))) Le.rfl (tSeq t6 (tSeq t7 (tSeq t8 (tSeq t9 (tSeq t10 (tSeq t11 (tSeq t12 (tSeq t13 (tSeq t14 (tSeq t15 (tSeq t16 t17))))))))))) Le.rfl (tSeq t5 (tSeq t6 (tSeq t7 (tSeq t8 (tSeq t9 (tSeq t10 (tSeq t11 (tSeq t12 (tSeq t13 (tSeq t14 (tSeq t15 (tSeq t16 t17)))))))))))) Le.rfl (tSeq t4 (tSeq t5 (tSeq t6 (tSeq t7 (tSeq t8 (tSeq t9 (tSeq t10 (tSeq t11 (tSeq t12 (tSeq t13 (tSeq t14 (tSeq t15 (tSeq t16 t17))))))))))))) Le.rfl (tSeq t3 (tSeq t4 (tSeq t5 (tSeq t6 (tSeq t7 (tSeq t8 (tSeq t9 (tSeq t10 (tSeq t11 (tSeq t12 (tSeq t13 (tSeq t14 (tSeq t15 (tSeq t16 t17)))))))))))))) Le.rfl (tSeq t2 (tSeq t3 (tSeq t4 (tSeq t5 (tSeq t6 (tSeq t7 (tSeq t8 (tSeq t9 (tSeq t10 (tSeq t11 (tSeq t12 (tSeq t13 (tSeq t14 (tSeq t15 (tSeq t16 t17))))))))))))))) Le.rfl
theorem hidsX7 {t1 t2 t3 t4 t5 t6 t7 : TSX} {R : XR} (k : ∀ u7, LeX t7 u7 → ∀ u6, LeX (txSeq t6 u7) u6 → ∀ u5, LeX (txSeq t5 u6) u5 → ∀ u4, LeX (txSeq t4 u5) u4 → ∀ u3, LeX (txSeq t3 u4) u3 → ∀ u2, LeX (txSeq t2 u3) u2 → txSeq t1 u2 D R σ H) : txSeq t1 (txSeq t2 (txSeq t3 (txSeq t4 (txSeq t5 (txSeq t6 t7))))) D R σ H := k t7 LeX.rfl (txSeq t6 t7) LeX.rfl (txSeq t5 (txSeq t6 t7)) LeX.rfl (txSeq t4 (txSeq t5 (txSeq t6 t7))) LeX.rfl (txSeq t3 (txSeq t4 (txSeq t5 (txSeq t6 t7)))) LeX.rfl (txSeq t2 (txSeq t3 (txSeq t4 (txSeq t5 (txSeq t6 t7))))) LeX.rfl
theorem hidXN {tx : TEX} {i : Nat} {u : TSX} {R : XR} (k : ∀ Q : V → Hp → Prop, (∀ x H1, u D R (σ.set i (some x)) H1 → Q x H1) → tx σ H Q (R σ)) : txSeq (txSet tx i) u D R σ H := k _ fun _ _ h => h
theorem hidXD {tx : TEX} {u : TSX} {R : XR} (k : ∀ Q : V → Hp → Prop, (∀ x H1, u D R σ H1 → Q x H1) → tx σ H Q (R σ)) : txSeq (txDrop tx) u D R σ H := k _ fun _ _ h => h
theorem nilQ {Q : List V → Hp → Prop} (h : Q [] H) : tNil σ H Q := h
/-- a value that an expression has, whatever comes behind it -/
noncomputable def Ev (te : TE) (σ : St) (H : Hp) (v : V) : Prop := ∀ Q : V → Hp → Prop, Q v H → te σ H Q
noncomputable def EvA (ta : TA) (σ : St) (H : Hp) (vs : List V) : Prop := ∀ Q : List V → Hp → Prop, Q vs H → ta σ H Q
theorem ev_v {i : Nat} {v : V} (h : σ[i]? = some (some v)) : Ev (tVar i) σ H v := fun _ q => ⟨_, h, q⟩
theorem ev_c {v : V} : Ev (tC v) σ H v := fun _ q => q
theorem ev_o {g : Int → Int → V} {ta tb : TE} {i j : Int} (a : Ev ta σ H (.int i)) (b : Ev tb σ H (.int j)) : Ev (tOp (rI0 g) ta tb) σ H (g i j) := fun _ q => a _ (b _ ⟨_, _, rfl, rfl, q⟩)
theorem ev_i {C : Int → Int → Prop} {g : Int → Int → V} {ta tb : TE} {i j : Int} (a : Ev ta σ H (.int i)) (b : Ev tb σ H (.int j)) (c : C i j) : Ev (tOp (rI C g) ta tb) σ H (g i j) := fun _ q => a _ (b _ ⟨_, _, rfl, rfl, c, q⟩)
theorem ev_T {K : PySem.W.Frag} {ta tb : TE} {p : Addr} {xs : List V} {i : Int} {v : V} (a : Ev ta σ H (.ref p)) (b : Ev tb σ H (.int i)) (s : SqT K H p xs) (e : atI xs i = some v) : Ev (tOp (rIxT K) ta tb) σ H v := fun _ q => a _ (b _ ⟨_, _, _, _, rfl, rfl, s, e, q⟩)
theorem ev_L {K : PySem.W.Frag} {ta tb : TE} {p : Addr} {xs : List V} {i : Int} {v : V} (a : Ev ta σ H (.ref p)) (b : Ev tb σ H (.int i)) (s : SqL K H p xs) (e : atI xs i = some v) : Ev (tOp (rIxL K) ta tb) σ H v := fun _ q => a _ (b _ ⟨_, _, _, _, rfl, rfl, s, e, q⟩)
theorem ev_u {g : Int → V} {ta : TE} {i : Int} (a : Ev ta σ H (.int i)) : Ev (tUn (rU g) ta) σ H (g i) := fun _ q => a _ ⟨_, rfl, q⟩
theorem an : EvA tNil σ H [] := fun _ q => q
theorem ac {ta : TE} {tr : TA} {v : V} {vs : List V} (a : Ev ta σ H v) (b : EvA tr σ H vs) : EvA (tCons ta tr) σ H (v :: vs) := fun _ q => a _ (b _ q)
theorem ev_tup {t : TA} {xs : List V} {Q : V → Hp → Prop} (a : EvA t σ H xs) (h : xs.length ≤ sizeLine) (k : ∀ p, H p = none → Q (.ref p) (upd H p (.tup xs))) : tTup t σ H Q := a _ ⟨h, k⟩
theorem ev_lst {t : TA} {xs : List V} {Q : V → Hp → Prop} (a : EvA t σ H xs) (h : xs.length ≤ sizeLine) (k : ∀ p, H p = none → Q (.ref p) (upd H p (.lst xs))) : tLst t σ H Q := a _ ⟨h, k⟩
theorem ev_cons {ta : TE} {tr : TA} {v : V} {Q : List V → Hp → Prop} (a : Ev ta σ H v) (k : tr σ H fun xs H2 => Q (v :: xs) H2) : tCons ta tr σ H Q := a _ k
theorem consQ {ta : TE} {tr : TA} {Q : List V → Hp → Prop} (h : ta σ H fun x H1 => tr σ H1 fun xs H2 => Q (x :: xs) H2) : tCons ta tr σ H Q := h
theorem ev_pair {t : TA} {w : V} {xs : List V} {Q : V → Hp → Prop} (a : EvA t σ H xs) (h : xs.length ≤ sizeLine) (k : ∀ T1, H T1 = none → ∀ T2, (upd H T1 (.tup xs)) T2 = none → Q (.ref T2) (upd (upd H T1 (.tup xs)) T2 (.tup [.ref T1, w]))) : tTup (tCons (tTup t) (tCons (tC w) tNil)) σ H Q := a _ ⟨h, fun T1 h1 => ⟨(by show 2 ≤ sizeLine; decide), fun T2 h2 => k T1 h1 T2 h2⟩⟩
theorem ev_pick {K : PySem.W.Frag} {tl : TA} {tb : TE} {xs : List V} {i : Int} {v : V} {Q : V → Hp → Prop} (a : EvA tl σ H xs) (h : xs.length ≤ sizeLine) (b : ∀ H', Ev tb σ H' (.int i)) (e : atI xs i = some v) (k : ∀ l, H l = none → Q v (upd H l (.lst xs))) : tOp (rIxL K) (tLst tl) tb σ H Q := a _ ⟨h, fun l hl => b _ _ ⟨l, xs, i, v, rfl, rfl, SqL.of upd_same, e, k l hl⟩⟩
theorem eqF {ta tb : TE} {x y : V} {Q : Bool → Hp → Prop} (a : Ev ta σ H x) (b : Ev tb σ H y) (s : scal x y = true) (n : ¬ x = y) (q : Q false H) : tTest (tOp rEq ta tb) σ H Q := a _ (b _ ⟨s, _, rfl, by rw [decide_eq_false n]; exact q⟩)
theorem eqT {ta tb : TE} {x : V} {Q : Bool → Hp → Prop} (a : Ev ta σ H x) (b : Ev tb σ H x) (s : scal x x = true) (q : Q true H) : tTest (tOp rEq ta tb) σ H Q := a _ (b _ ⟨s, _, rfl, by rw [decide_eq_true rfl]; exact q⟩)
end
end L2

namespace L2
open PySem PySem.Spec PyProof.Rows

section
variable {κ : Type} [DecidableEq κ]
noncomputable def valV (kvs : List (κ × V)) (k : κ) : Option V := (kvs.find? fun kv => decide (kv.1 = k)).map (·.2)
/-- in its place, or at the end -/
noncomputable def putK (kvs : List (κ × V)) (k : κ) (v : V) : List (κ × V) :=
  if (kvs.any fun kv => decide (kv.1 = k)) = true then kvs.map (fun kv => if kv.1 = k then (kv.1, v) else kv) else kvs ++ [(k, v)]
noncomputable def dropK (kvs : List (κ × V)) (k : κ) : List (κ × V) := kvs.filter fun kv => decide (kv.1 ≠ k)

theorem valV_pos {p : κ × V} {r : List (κ × V)} {k : κ} (e : p.1 = k) : valV (p :: r) k = some p.2 := by simp [valV, List.find?_cons, e]
theorem valV_neg {p : κ × V} {r : List (κ × V)} {k : κ} (e : ¬ p.1 = k) : valV (p :: r) k = valV r k := by simp [valV, List.find?_cons, e]
theorem valV_any (k : κ) : ∀ kvs : List (κ × V), (kvs.any fun kv => decide (kv.1 = k)) = (valV kvs k).isSome
  | [] => rfl
  | p :: r => by
    rw [List.any_cons]
    by_cases e : p.1 = k
    · simp only [valV_pos e, decide_eq_true e, Bool.true_or, Option.isSome_some]
    · rw [valV_neg e, decide_eq_false e, Bool.false_or]; exact valV_any k r
theorem length_putK (kvs : List (κ × V)) (k : κ) (v : V) : (putK kvs k v).length ≤ kvs.length + 1 := by
  unfold putK
  split
  · rw [List.length_map]; (first | lia | omega)
  · rw [List.length_append, List.length_cons, List.length_nil]; (first | lia | omega)
theorem putK_new {kvs : List (κ × V)} {k : κ} (v : V) (h : valV kvs k = none) : putK kvs k v = kvs ++ [(k, v)] := by
  unfold putK
  rw [valV_any, h]
  exact if_neg (by decide)

theorem RelO.isSome_eq {o : Option V} {u : Option Value} (r : RelO o u) : o.isSome = u.isSome := by
  cases o with
  | none => cases u with
    | none => rfl
    | some _ => exact (show False from r).elim
  | some _ => cases u with
    | none => exact (show False from r).elim
    | some _ => rfl
/-- raw tables of the same keys -/
theorem KV.val {kvs : List (κ × V)} {vs : List (κ × Value)} (r : KV kvs vs) (k : κ) : RelO (valV kvs k) (valueAt vs k) := by
  unfold KV at r
  induction r with
  | nil => exact True.intro
  | @cons p q ps qs h t ih =>
    obtain ⟨h1, h2⟩ := h
    by_cases e : p.1 = k
    · have e' : q.1 = k := h1.symm.trans e
      have b : valueAt (q :: qs) k = some q.2 := by simp [valueAt, List.find?_cons, e']
      rw [valV_pos e, b]; exact h2
    · have e' : ¬ q.1 = k := fun z => e (h1.trans z)
      have b : valueAt (q :: qs) k = valueAt qs k := by simp [valueAt, List.find?_cons, e']
      rw [valV_neg e, b]; exact ih
theorem KV.any {kvs : List (κ × V)} {vs : List (κ × Value)} (r : KV kvs vs) (k : κ) : (kvs.any fun kv => decide (kv.1 = k)) = vs.any fun kv => decide (kv.1 = k) := by
  unfold KV at r
  induction r with
  | nil => rfl
  | cons h t ih => rw [List.any_cons, List.any_cons, ih, h.1]
theorem KV.repl {kvs : List (κ × V)} {vs : List (κ × Value)} (r : KV kvs vs) (k : κ) {y : V} {u : Value} (ry : RelV y u) :
    KV (kvs.map fun kv => if kv.1 = k then (kv.1, y) else kv) (vs.map fun kv => if kv.1 = k then (kv.1, u) else kv) := by
  unfold KV at r ⊢
  induction r with
  | nil => exact .nil
  | @cons p q ps qs h t ih =>
    rw [List.map_cons, List.map_cons]
    refine .cons ?_ ih
    obtain ⟨h1, h2⟩ := h
    by_cases e : p.1 = k
    · rw [if_pos e, if_pos (h1.symm.trans e)]; exact ⟨h1, ry⟩
    · rw [if_neg e, if_neg (fun z => e (h1.trans z))]; exact ⟨h1, h2⟩
theorem KV.put {kvs : List (κ × V)} {vs : List (κ × Value)} (r : KV kvs vs) (k : κ) {y : V} {u : Value} (ry : RelV y u) : KV (putK kvs k y) (stored vs k u) := by
  unfold putK stored
  rw [r.any k]
  by_cases e : (vs.any fun kv => decide (kv.1 = k)) = true
  · rw [if_pos e, if_pos e]; exact r.repl k ry
  · rw [if_neg e, if_neg e]; exact Paired.snoc r ⟨rfl, ry⟩
theorem KV.drop {kvs : List (κ × V)} {vs : List (κ × Value)} (r : KV kvs vs) (k : κ) : KV (dropK kvs k) (without vs k) := by
  unfold KV at r ⊢
  unfold dropK without
  induction r with
  | nil => exact .nil
  | @cons p q ps qs h t ih =>
    obtain ⟨h1, h2⟩ := h
    rw [List.filter_cons, List.filter_cons]
    by_cases e : p.1 = k
    · have a : ¬ decide (p.1 ≠ k) = true := by simp [e]
      have b : ¬ decide (q.1 ≠ k) = true := by simp [h1.symm.trans e]
      rw [if_neg a, if_neg b]; exact ih
    · have e' : ¬ q.1 = k := fun z => e (h1.trans z)
      have a : decide (p.1 ≠ k) = true := by simp [e]
      have b : decide (q.1 ≠ k) = true := by simp [e']
      rw [if_pos a, if_pos b]; exact .cons ⟨h1, h2⟩ ih
theorem KV.keys {kvs : List (κ × V)} {vs : List (κ × Value)} (r : KV kvs vs) : kvs.map (·.1) = vs.map (·.1) := by
  unfold KV at r
  induction r with
  | nil => rfl
  | cons h t ih => rw [List.map_cons, List.map_cons, ih, h.1]
theorem KV.length {kvs : List (κ × V)} {vs : List (κ × Value)} (r : KV kvs vs) : kvs.length = vs.length := Paired.length r
theorem dropK_le (kvs : List (κ × V)) (k : κ) : (dropK kvs k).length ≤ kvs.length := List.length_filter_le _ _
end


theorem kV_is {P : Program} {w : World} {k : Key} {u : Value} (r : RelV (kV k) u) : (mixKind P w).is k u = true := by
  cases k with
  | inl i => obtain ⟨t, e⟩ := (show ∃ t, u = Value.int i t from r); subst e; exact mixKind_int P w i t
  | inr x => obtain ⟨t, e⟩ := (show ∃ t, u = Value.str x t from r); subst e; exact mixKind_str P w x t
theorem items_are {P : Program} {w : World} : ∀ {ks : List Key} {us : List Value}, Vals (ks.map kV) us → ItemsAre (mixKind P w) ks us
  | [], _, r => by rw [List.map_nil] at r; cases r; exact .nil
  | k :: ks, _, r => by
    rw [List.map_cons] at r
    cases r with
    | cons h t => exact .cons (kV_is h) (items_are t)

/-- raw entries of a dict with tuple keys -/
noncomputable abbrev KT (H : Hp) : List (List Key × V) → List (List Key × Addr × Value) → Prop := Paired fun p q => p.1 = q.1 ∧ H q.2.1 = some (.tup (p.1.map kV)) ∧ RelV p.2 q.2.2
theorem KT.val {H : Hp} {kvs : List (List Key × V)} {xs : List (List Key × Addr × Value)} (r : KT H kvs xs) (k : List Key) : RelO (valV kvs k) ((atKey xs k).map (·.2)) := by
  induction r with
  | nil => exact True.intro
  | @cons p q ps qs h t ih =>
    obtain ⟨h1, _, h2⟩ := h
    by_cases e : p.1 = k
    · have e' : q.1 = k := h1.symm.trans e
      have b : atKey (q :: qs) k = some q.2 := by simp [atKey, List.find?_cons, e']
      rw [valV_pos e, b]; exact h2
    · have e' : ¬ q.1 = k := fun z => e (h1.trans z)
      have b : atKey (q :: qs) k = atKey qs k := by simp [atKey, List.find?_cons, e']
      rw [valV_neg e, b]; exact ih
theorem KT.repl {H : Hp} {kvs : List (List Key × V)} {xs : List (List Key × Addr × Value)} (r : KT H kvs xs) (k : List Key) {y : V} {u : Value} (ry : RelV y u) :
    KT H (kvs.map fun kv => if kv.1 = k then (kv.1, y) else kv) (xs.map (putAt k u)) := by
  induction r with
  | nil => exact .nil
  | @cons p q ps qs h t ih =>
    rw [List.map_cons, List.map_cons]
    refine .cons ?_ ih
    obtain ⟨h1, h2, h3⟩ := h
    unfold putAt
    by_cases e : p.1 = k
    · rw [if_pos e, if_pos (h1.symm.trans e)]; exact ⟨h1, h2, ry⟩
    · rw [if_neg e, if_neg (fun z => e (h1.trans z))]; exact ⟨h1, h2, h3⟩
theorem KT.put {H : Hp} {kvs : List (List Key × V)} {xs : List (List Key × Addr × Value)} (r : KT H kvs xs) (k : List Key) {b : Addr} {y : V} {u : Value} (hb : H b = some (.tup (k.map kV))) (ry : RelV y u) :
    KT H (putK kvs k y) (storedH xs k b u) := by
  have e : (kvs.any fun kv => decide (kv.1 = k)) = (atKey xs k).isSome := by
    rw [valV_any, (r.val k).isSome_eq, Option.isSome_map]
  unfold putK storedH
  rw [e]
  by_cases q : (atKey xs k).isSome = true
  · rw [if_pos q, if_pos q]; exact r.repl k ry
  · rw [if_neg q, if_neg q]; exact Paired.snoc r ⟨rfl, hb, ry⟩
theorem KT.keeps {H H' : Hp} {kvs : List (List Key × V)} {xs : List (List Key × Addr × Value)} (r : KT H kvs xs) (ht : ∀ b ys, H b = some (.tup ys) → H' b = some (.tup ys)) : KT H' kvs xs :=
  Paired.mapP r fun _ _ z => ⟨z.1, ht _ _ z.2.1, z.2.2⟩

section
variable {P : Program} {w : World} {H : Hp} {h : Heap} {a : Addr}
theorem rd_of {u : HO} (ok : HOk P w H h) (e : Rd H a u) : ObjOk P w H h a u := e.ok ok
theorem dk_rd {kvs : List (Key × V)} (ok : HOk P w H h) (e : Rd H a (.dK kvs)) : kvs.length ≤ sizeLine ∧ (a == sysModules) = false ∧ ∃ vs, KV kvs vs ∧ h.DictOf (mixKind P w) a vs :=
  show ObjOk P w H h a (.dK kvs) from rd_of ok e
theorem dk_of {kvs : List (Key × V)} (ok : HOk P w H h) (e : H a = some (.dK kvs)) : kvs.length ≤ sizeLine ∧ (a == sysModules) = false ∧ ∃ vs, KV kvs vs ∧ h.DictOf (mixKind P w) a vs := dk_rd ok (.inl e)
/-- a tracked tuple of ints and texts is a key -/
theorem key_of {ks : List Key} (ok : HOk P w H h) (e : H a = some (.tup (ks.map kV))) : (tupleKind (mixKind P w)).is h ks a := by
  obtain ⟨_, its, r, o, h1, h2, n, h3⟩ := (show ObjOk P w H h a (.tup (ks.map kV)) from ok a _ e)
  exact ⟨o, its.toArray, n, h1, h2, h3, by simpa using items_are r⟩
theorem dt_rd {kvs : List (List Key × V)} (ok : HOk P w H h) (e : Rd H a (.dT kvs)) : kvs.length ≤ sizeLine ∧ (a == sysModules) = false ∧
    ∃ xs, KT H kvs xs ∧ h.DictOfH (tupleKind (mixKind P w)) a xs := by
  obtain ⟨z, y, xs, r, o, es, ep, h1, h2, h3, h4, h5⟩ := (show ObjOk P w H h a (.dT kvs) from rd_of ok e)
  refine ⟨z, y, xs, r, o, es, ep, h1, h2, h3, h4, fun x hx => ?_, h5⟩
  have all : ∀ {l : List (List Key × V)} {m : List (List Key × Addr × Value)}, KT H l m → ∀ x ∈ m, (tupleKind (mixKind P w)).is h x.1 x.2.1 := by
    intro l m q
    induction q with
    | nil => intro x hx; exact nomatch hx
    | @cons p q ps qs hq t ih =>
      intro x hx
      rcases List.mem_cons.mp hx with e | hx
      · subst e
        exact key_of ok (by rw [← hq.1]; exact hq.2.1)
      · exact ih x hx
  exact all r x hx
theorem dt_of {kvs : List (List Key × V)} (ok : HOk P w H h) (e : H a = some (.dT kvs)) : kvs.length ≤ sizeLine ∧ (a == sysModules) = false ∧
    ∃ xs, KT H kvs xs ∧ h.DictOfH (tupleKind (mixKind P w)) a xs := dt_rd ok (.inl e)
end

/-- what the dict at a holds at the key y -/
noncomputable def DGet (H : Hp) (a : Addr) (y : V) (r : Option V) : Prop :=
  (∃ kvs k, Rd H a (.dK kvs) ∧ y = kV k ∧ r = valV kvs k) ∨ ∃ kvs k b, Rd H a (.dT kvs) ∧ y = .ref b ∧ H b = some (.tup (k.map kV)) ∧ r = valV kvs k
/-- the heap behind a[y] = v -/
noncomputable def DPut (H : Hp) (a : Addr) (y v : V) (H' : Hp) : Prop :=
  (∃ kvs k, H a = some (.dK kvs) ∧ y = kV k ∧ kvs.length < sizeLine ∧ H' = upd H a (.dK (putK kvs k v))) ∨
  ∃ kvs k b, H a = some (.dT kvs) ∧ y = .ref b ∧ H b = some (.tup (k.map kV)) ∧ kvs.length < sizeLine ∧ H' = upd H a (.dT (putK kvs k v))
theorem DGet.k {H : Hp} {a : Addr} {kvs : List (Key × V)} {k : Key} (e : H a = some (.dK kvs)) : DGet H a (kV k) (valV kvs k) := .inl ⟨kvs, k, .inl e, rfl, rfl⟩
theorem DPut.k {H : Hp} {a : Addr} {kvs : List (Key × V)} {k : Key} {v : V} (e : H a = some (.dK kvs)) (hl : kvs.length < sizeLine) : DPut H a (kV k) v (upd H a (.dK (putK kvs k v))) := .inl ⟨kvs, k, e, rfl, hl, rfl⟩
section
variable {X : Cx} {pins : List (Addr × Obj)} {σ : St} {H : Hp} {s : Shared} {a : Addr} {y v : V} {u r : Value} {o : Option V} {A : Around} {E : Value → Shared → Prop}

theorem Inv.big (I : Inv X pins σ H s) : sysModules < s.heap.objs.size := by
  have h : mainGlobals < s.heap.objs.size := (I.mod.glob.keeps I.bk).lt
  exact Nat.lt_trans (by decide) h

/-- d[y], there -/
theorem d_getItem {Q : Value → Shared → Prop} (hu : A.units + 1 < cLine) (I : Inv X pins σ H s) (g : DGet H a y (some v)) (ry : RelV y u) (h : ∀ w' s', Inv X pins σ H s' → RelV v w' → Q w' s') :
    wpAny (model X.prog X.w) A (getItem (.ref a) u) Q E s := by
  rcases g with ⟨kvs, k, e, ey, l⟩ | ⟨kvs, k, b, e, ey, eb, l⟩
  · subst ey
    obtain ⟨z, hd, vs, rel, dd⟩ := dk_rd I.hok e
    obtain ⟨w', hw, rw'⟩ := RelO.some_of (v := v) (o := valueAt vs k) (by rw [l]; exact rel.val k)
    exact wpAny_getItem_of (kV_is ry) dd.mapOf hw (h w' _ (I.tok _) rw')
  · subst ey
    cases (show u = Value.ref b from ry)
    obtain ⟨z, hd, xs, rel, dd⟩ := dt_rd I.hok e
    obtain ⟨w', hw, rw'⟩ := RelO.some_of (v := v) (o := (atKey xs k).map (·.2)) (by rw [l]; exact rel.val k)
    obtain ⟨p, hp, hp2⟩ := Option.map_eq_some_iff.mp hw
    refine wpAny_getItem_heap (tupleKind_room_in1 hu) (key_of I.hok eb) dd hp ?_
    rw [hp2]
    exact h w' _ (I.tok _) rw'
/-- y in d -/
theorem d_in {Q : Value → Shared → Prop} (hu : A.units + 1 < cLine) (I : Inv X pins σ H s) (g : DGet H a y o) (ry : RelV y u) (h : ∀ s', Inv X pins σ H s' → Q (.bool o.isSome) s') :
    wpAny (model X.prog X.w) A (compareOp .In u (.ref a)) Q E s := by
  rcases g with ⟨kvs, k, e, ey, l⟩ | ⟨kvs, k, b, e, ey, eb, l⟩
  · subst ey
    obtain ⟨z, hd, vs, rel, dd⟩ := dk_rd I.hok e
    refine wpAny_in_of (kV_is ry) hd dd.mapOf ?_
    rw [← (rel.val k).isSome_eq, ← l]
    exact h _ (I.tok _)
  · subst ey
    cases (show u = Value.ref b from ry)
    obtain ⟨z, hd, xs, rel, dd⟩ := dt_rd I.hok e
    refine wpAny_in_heap (tupleKind_room_in1 hu) (key_of I.hok eb) hd dd ?_
    have q := (rel.val k).isSome_eq
    rw [Option.isSome_map] at q
    rw [← q, ← l]
    exact h _ (I.tok _)
theorem d_notIn {Q : Value → Shared → Prop} (hu : A.units + 1 < cLine) (I : Inv X pins σ H s) (g : DGet H a y o) (ry : RelV y u) (h : ∀ s', Inv X pins σ H s' → Q (.bool (!o.isSome)) s') :
    wpAny (model X.prog X.w) A (compareOp .NotIn u (.ref a)) Q E s := by
  rcases g with ⟨kvs, k, e, ey, l⟩ | ⟨kvs, k, b, e, ey, eb, l⟩
  · subst ey
    obtain ⟨z, hd, vs, rel, dd⟩ := dk_rd I.hok e
    refine wpAny_notIn_of (kV_is ry) hd dd.mapOf ?_
    rw [← (rel.val k).isSome_eq, ← l]
    exact h _ (I.tok _)
  · subst ey
    cases (show u = Value.ref b from ry)
    obtain ⟨z, hd, xs, rel, dd⟩ := dt_rd I.hok e
    refine wpAny_notIn_heap (tupleKind_room_in1 hu) (key_of I.hok eb) hd dd ?_
    have q := (rel.val k).isSome_eq
    rw [Option.isSome_map] at q
    rw [← q, ← l]
    exact h _ (I.tok _)
/-- a dict's object is replaced -/
theorem d_write {h' : Heap} {t' : Nat} {ob : HO} (I : Inv X pins σ H s) (mu : Mut (H a)) (hs : Heap.SameBut a s.heap h') (he : ∃ q, h'.get? a = some q) (new : ObjOk X.prog X.w (upd H a ob) h' a ob) :
    Inv X pins σ (upd H a ob) { s with heap := h', toks := t' } :=
  I.write (x := a) (e := a) mu (.inl rfl) (fun b q hb z => (hs.2 b hb).trans z) he new
theorem dk_new {P : Program} {w : World} {H' : Hp} {h' : Heap} {kvs : List (Key × V)} {vs : List (Key × Value)} (z : kvs.length ≤ sizeLine) (hd : (a == sysModules) = false) (rel : KV kvs vs) (dd : h'.DictOf (mixKind P w) a vs) :
    ObjOk P w H' h' a (.dK kvs) := ⟨z, hd, vs, rel, dd⟩
/-- d[y] = v -/
theorem d_setItem {H' : Hp} {Q : Unit → Shared → Prop} (hu : A.units + 1 < cLine) (I : Inv X pins σ H s) (g : DPut H a y v H') (ry : RelV y u) (rv : RelV v r) (h : ∀ s', Inv X pins σ H' s' → Q () s') :
    wpAny (model X.prog X.w) A (setItem (.ref a) u r) Q E s := by
  rcases g with ⟨kvs, k, e, ey, l, eH⟩ | ⟨kvs, k, b, e, ey, eb, l, eH⟩
  · subst ey eH
    obtain ⟨z, hd, vs, rel, dd⟩ := dk_of I.hok e
    have hz : vs.length ≤ sizeLine := by rw [← rel.length]; exact z
    have hl : (putK kvs k v).length ≤ sizeLine := by have := length_putK kvs k v; (first | lia | omega)
    refine wpAny_setItem_pairs (hsz := hz) (kV_is ry) dd fun h' dd' hs => h _ ?_
    have he : ∃ q, h'.get? a = some q := let ⟨q, _, _, hq, _⟩ := dd'; ⟨q, hq⟩
    exact d_write I (by rw [e]; exact True.intro) hs he (dk_new hl hd (rel.put k rv) dd')
  · subst ey eH
    cases (show u = Value.ref b from ry)
    obtain ⟨z, hd, xs, rel, dd⟩ := dt_of I.hok e
    have hz : xs.length ≤ sizeLine := by rw [← Paired.length rel]; exact z
    have hl : (putK kvs k v).length ≤ sizeLine := by have := length_putK kvs k v; (first | lia | omega)
    refine wpAny_setItem_heap (hsz := hz) (tupleKind_room_in1 hu) (key_of I.hok eb) dd fun h' dd' hs => h _ ?_
    obtain ⟨q, es, ep, hq, h2, h3, h4, _, h5⟩ := dd'
    refine d_write I (by rw [e]; exact True.intro) hs ⟨q, hq⟩ ⟨hl, hd, _, (rel.put k eb rv).keeps fun c ys ec => ?_, q, es, ep, hq, h2, h3, h4, h5⟩
    rw [upd_ne (ne_of ec e (fun z => nomatch z))]
    exact ec
end

section
variable {X : Cx} {pins : List (Addr × Obj)} {σ : St} {H : Hp} {s : Shared} {a : Addr} {kvs : List (Key × V)} {k : Key} {u : Value} {A : Around} {E : Value → Shared → Prop}
/-- d.pop(k[, x]), there -/
theorem d_pop {v : V} {more : List Value} {Q : Value → Shared → Prop} (I : Inv X pins σ H s) (e : H a = some (.dK kvs)) (ry : RelV (kV k) u) (l : valV kvs k = some v) (hm : more = [] ∨ ∃ x, more = [x])
    (h : ∀ w' s', Inv X pins σ (upd H a (.dK (dropK kvs k))) s' → RelV v w' → Q w' s') : wpAny (model X.prog X.w) A (call (.builtin "dict.pop") (.ref a :: u :: more)) Q E s := by
  obtain ⟨z, hd, vs, rel, dd⟩ := dk_of I.hok e
  obtain ⟨w', hw, rw'⟩ := RelO.some_of (v := v) (o := valueAt vs k) (by rw [← l]; exact rel.val k)
  have hp : (keyPart u).isSome = true := by
    cases k with
    | inl i => obtain ⟨t, q⟩ := (show ∃ t, u = Value.int i t from ry); subst q; rfl
    | inr x => obtain ⟨t, q⟩ := (show ∃ t, u = Value.str x t from ry); subst q; rfl
  have ha : argsOk "dict.pop" ⟨.ref a :: u :: more, []⟩ := by
    rcases hm with q | ⟨x, q⟩
    · subst q; exact PySem.F.args_dict_pop_2 _ _
    · subst q; exact PySem.F.args_dict_pop_3 _ _ _
  refine call_meetsIn PySem.F.slot_dict_pop dd.typeIs PySem.F.entry_dict_pop ha (meets_dict_pop_there (mixKind X.prog X.w) a (kV_is ry) more hm hp)
    ⟨vs, w', dd, by rw [← rel.length]; exact z, hw, fun h' dd' hs => h w' _ ?_ rw'⟩
  have he : ∃ q, h'.get? a = some q := let ⟨q, _, _, hq, _⟩ := dd'; ⟨q, hq⟩
  exact d_write I (by rw [e]; exact True.intro) hs he (dk_new (Nat.le_trans (dropK_le kvs k) z) hd (rel.drop k) dd')
/-- len(d) -/
theorem d_len {Q : Value → Shared → Prop} (I : Inv X pins σ H s) (e : Rd H a (.dK kvs)) (h : ∀ t s', Inv X pins σ H s' → Q (.int kvs.length t) s') : wpAny (model X.prog X.w) A (call (.builtin "len") [.ref a]) Q E s := by
  obtain ⟨z, hd, vs, rel, dd⟩ := dk_rd I.hok e
  refine call_len_dict hd dd (by rw [← rel.length]; rw [sizeLine_eq] at z; (first | lia | omega)) ?_
  rw [← rel.length]
  exact h _ _ (I.tok _)
end


/-- the element of a subscription, not a slice -/
noncomputable def NoSl (i : Expr) : Prop := ∀ ov iv, subscripted i false ov iv = operate [ov, iv] (getItem ov iv)
theorem subD_of {prog : Program} {w : World} {A : Around} {E : Value → Shared → Prop} {s : Shared} {env : Env} {value slice : Expr} {pos : Pos} {T id : String} {Q : Value → Shared → Prop}
    (hl : typeLookup (.type T) "__getitem__" = pure (some (.builtin id))) (hs : NoSl slice)
    (h : wpAny (model prog w) A (eval value env) (fun o s₁ => wpAny (model prog w) A (eval slice env) (fun i s₂ => s₂.TypeIs o T ∧ wpAny (model prog w) A (getItem o i) Q E s₂) E s₁) E s) :
    wpAny (model prog w) A (eval (.Subscript value slice pos) env) Q E s := by
  refine Subscript_ (wpAny_mono h (fun o s₁ h₁ => wpAny_mono h₁ (fun i s₂ h₂ => ?_) fun _ _ x => x) fun _ _ x => x)
  obtain ⟨hT, h₂⟩ := h₂
  unfold subscriptTail
  refine wpAny_bind ?_
  rw [getitemInPython_of_ne hT.not_modules]
  refine wpAny_bind (wpAny_specialOf hT hl ?_)
  have fin : wpAny (model prog w) A (subscripted slice false o i) (fun r s₃ => wpAny (model prog w) A (letTemporaryGo value o r >>= fun _ => pure r) Q E s₃) E s₂ := by
    rw [hs o i]
    exact wpAny_operating (wpAny_mono h₂ (fun r s₃ h₃ => wpAny_bind (wpAny_letTemporaryGo (wpAny_pure h₃))) fun _ _ x => x)
  first
    | exact wpAny_pure (wpAny_bind fin)
    | exact wpAny_bind (wpAny_pure (wpAny_bind fin))
    | exact wpAny_bind fin

theorem dict_typeIs {X : Cx} {pins : List (Addr × Obj)} {σ : St} {H : Hp} {s : Shared} {a : Addr} {y : V} {o : Option V} (I : Inv X pins σ H s) (g : DGet H a y o) : s.TypeIs (.ref a) "dict" := by
  rcases g with ⟨kvs, k, e, _, _⟩ | ⟨kvs, k, b, e, _, _, _⟩
  · obtain ⟨_, _, vs, _, dd⟩ := dk_rd I.hok e
    exact dd.typeIs
  · obtain ⟨_, _, xs, _, dd⟩ := dt_rd I.hok e
    exact dd.typeIs
/-- d[y] -/
noncomputable def tDGet (td ty : TE) : TE := fun σ H Q => td σ H fun x H1 => ty σ H1 fun y H2 => ∃ a v, x = .ref a ∧ DGet H2 a y (some v) ∧ Q v H2
/-- y in d, y not in d -/
noncomputable def tDIn (ty td : TE) : TE := fun σ H Q => ty σ H fun y H1 => td σ H1 fun x H2 => ∃ a o, x = .ref a ∧ DGet H2 a y o ∧ Q (.bl o.isSome) H2
noncomputable def tDNotIn (ty td : TE) : TE := fun σ H Q => ty σ H fun y H1 => td σ H1 fun x H2 => ∃ a o, x = .ref a ∧ DGet H2 a y o ∧ Q (.bl (!o.isSome)) H2
/-- d[y] = v -/
noncomputable def sDPut (td ty tv : TE) : TS := fun D σ H => tv σ H fun v H1 => td σ H1 fun x H2 => ty σ H2 fun y H3 => ∃ a H4, x = .ref a ∧ DPut H3 a y v H4 ∧ D.nx σ H4
section
variable {X : Cx} {o i e value : Expr} {pos pos' tpos : Pos} {td ty tv : TE}
theorem pe_dget (hu : X.A.units + 1 < cLine) (ho : PE X o td) (hi : PE X i ty) (hs : NoSl i) : PE X (.Subscript o i pos) (tDGet td ty) := by
  intro pins s σ H Q I h
  refine subD_of PySem.F.slot_dict_getitem.lookup hs (thn (ho pins s σ H _ I h) fun u s1 zq1_2 => ?_)
  obtain ⟨x, H1, I1, rx, q1⟩ := zq1_2
  refine thn (hi pins s1 σ H1 _ I1 q1) fun iv s2 zq2_2 => ?_
  obtain ⟨y, H2, I2, ry, a, v, ex, g, q2⟩ := zq2_2
  subst ex
  obtain rfl : u = Value.ref a := rx
  exact ⟨dict_typeIs I2 g, d_getItem hu I2 g ry fun w' s3 I3 rw' => ⟨v, H2, I3, rw', q2⟩⟩
theorem pc_din (hu : X.A.units + 1 < cLine) (hi : PE X i ty) (ho : PE X o td) : PC X .In i o (tDIn ty td) := by
  intro pins s σ H Q I h
  refine thn (hi pins s σ H _ I h) fun iv s1 zq3_2 => ?_
  obtain ⟨y, H1, I1, ry, q1⟩ := zq3_2
  refine thn (ho pins s1 σ H1 _ I1 q1) fun u s2 zq4_2 => ?_
  obtain ⟨x, H2, I2, rx, a, ov, ex, g, q2⟩ := zq4_2
  subst ex
  obtain rfl : u = Value.ref a := rx
  exact d_in hu I2 g ry fun s3 I3 => ⟨.bl ov.isSome, H2, I3, rfl, q2⟩
theorem pc_dnotin (hu : X.A.units + 1 < cLine) (hi : PE X i ty) (ho : PE X o td) : PC X .NotIn i o (tDNotIn ty td) := by
  intro pins s σ H Q I h
  refine thn (hi pins s σ H _ I h) fun iv s1 zq5_2 => ?_
  obtain ⟨y, H1, I1, ry, q1⟩ := zq5_2
  refine thn (ho pins s1 σ H1 _ I1 q1) fun u s2 zq6_2 => ?_
  obtain ⟨x, H2, I2, rx, a, ov, ex, g, q2⟩ := zq6_2
  subst ex
  obtain rfl : u = Value.ref a := rx
  exact d_notIn hu I2 g ry fun s3 I3 => ⟨.bl (!ov.isSome), H2, I3, rfl, q2⟩
theorem ps_dput (hu : X.A.units + 1 < cLine) (ho : PE X o td) (hi : PE X i ty) (hv : PE X value tv) (hs : swapsWith value (some (.Subscript o i pos')) pos.line X.env = pure false) :
    PS X (.Assign [.Subscript o i pos'] value pos) (sDPut td ty tv) := by
  intro pins s σ H D I h
  refine wpAny_Assign_Subscript (thn (hv pins s σ H _ I h) fun r s1 ⟨v, H1, I1, rv, q1⟩ => thn (ho pins s1 σ H1 _ I1 q1) fun u s2 ⟨x, H2, I2, rx, q2⟩ => thn (hi pins s2 σ H2 _ I2 q2) fun iv s3 ⟨y, H3, I3, ry, a, H4, ex, g, q3⟩ => ?_) hs
  subst ex
  obtain rfl : u = Value.ref a := rx
  exact d_setItem hu I3 g ry rv fun s4 I4 => ⟨σ, H4, I4, q3⟩
end


theorem dk_empty {P : Program} {w : World} {H : Hp} (h : Heap) (hb : sysModules < h.objs.size) : ObjOk P w H (h.push { cls := .type "dict", data := .dict #[] }) h.objs.size (.dK []) :=
  ⟨Nat.zero_le _, beq_eq_false_iff_ne.mpr (Ne.symm (Nat.ne_of_lt hb)), [], .nil, Heap.DictOf.new h⟩
/-- {}, to be a dict of the kind that is wanted -/
noncomputable def tDNewK : TE := fun _ H Q => ∀ p, H p = none → Q (.ref p) (upd H p (.dK []))
section
variable {X : Cx} {pos : Pos}
theorem pe_dnewK : PE X (.Dict [] [] pos) tDNewK := fun pins s σ H Q I h =>
  wpAny_Dict_empty ⟨.ref s.heap.objs.size, _, I.laid (a := s.heap.objs.size) (o := .dK []) (t' := s.toks) (fun _ _ q => Heap.get?_push_of_some _ q) (Nat.le_refl _) (dk_empty s.heap I.big), rfl, h _ (I.hok.fresh (Nat.le_refl _))⟩
end

/-- a method call o.m(e) of a built-in, with one argument: what must be seen of the text -/
structure M1 (X : Cx) (o : Expr) (m : Str) (apos : Pos) (e : Expr) (cpos : Pos) : Prop where
  base : attributeBase o m X.env (eval o X.env) = eval o X.env
  few : ((backTo cpos (starEach [e] X.env)).all (fun x => !x.1) && (backToKw cpos (keywordEach [] X.env)).all (fun x => x.1.isSome)
    && decide (([e] : List Expr).length + ([] : List Keyword).length + (if ([] : List Keyword).isEmpty then 0 else 1) < 30)) = true
  line : (apos.endLine == cpos.line) = true
  trees : backTo cpos (starEach [e] X.env) = [(false, eval e X.env)]
/-- a is a dict, whatever its keys -/
noncomputable def IsD (H : Hp) (a : Addr) : Prop := (∃ kvs, Rd H a (.dK kvs)) ∨ ∃ kvs, Rd H a (.dT kvs)
theorem isD_at {X : Cx} {pins : List (Addr × Obj)} {σ : St} {H : Hp} {s : Shared} {a : Addr} (I : Inv X pins σ H s) (d : IsD H a) :
    s.TypeIs (.ref a) "dict" ∧ (∀ b, Value.ref a = .ref b → ∃ ob, s.heap.get? b = some ob ∧ ob.dict = none) ∧ (a == sysModules) = false := by
  rcases d with ⟨kvs, e⟩ | ⟨kvs, e⟩
  · obtain ⟨_, hd, vs, _, dd⟩ := dk_rd I.hok e
    refine ⟨dd.typeIs, fun b q => ?_, hd⟩
    cases q
    obtain ⟨ob, _, _, h1, h2, _⟩ := dd
    exact ⟨ob, h1, h2.2.1⟩
  · obtain ⟨_, hd, xs, _, dd⟩ := dt_rd I.hok e
    refine ⟨dd.typeIs, fun b q => ?_, hd⟩
    cases q
    obtain ⟨ob, _, _, h1, h2, _⟩ := dd
    exact ⟨ob, h1, h2.2.1⟩

section
variable {X : Cx} {pins : List (Addr × Obj)} {σ : St} {H : Hp} {s : Shared} {a : Addr} {y d : V} {u r : Value} {o : Option V} {A : Around} {E : Value → Shared → Prop}
end

/-- d.pop(k): there; d.pop(k, x): there or not -/
noncomputable def tDPop1 (td ty : TE) : TE := fun σ H Q => td σ H fun x H1 => ∃ a, x = .ref a ∧ IsD H1 a ∧ ty σ H1 fun y H2 => ∃ kvs k v, H2 a = some (.dK kvs) ∧ y = kV k ∧ valV kvs k = some v ∧ Q v (upd H2 a (.dK (dropK kvs k)))
section
variable {X : Cx} {o e f : Expr} {apos cpos : Pos} {td ty tx : TE}
theorem pe_dpop1 (ho : PE X o td) (he : PE X e ty) (m : M1 X o "pop" apos e cpos) : PE X (.Call (.Attribute o "pop" apos) [e] [] cpos) (tDPop1 td ty) := by
  intro pins s σ H Q I h
  refine wpAny_Call_method m.base m.few m.line PySem.F.plainAttrs_dict PySem.F.slot_dict_pop PySem.F.type_dict_pop (thn (ho pins s σ H _ I h) fun u s1 zq25_2 => ?_)
  obtain ⟨x, H1, I1, rx, a, ex, d, q1⟩ := zq25_2
  subst ex
  obtain rfl : u = Value.ref a := rx
  obtain ⟨t1, t2, _⟩ := isD_at I1 d
  refine ⟨t1, t2, ?_⟩
  rw [m.trees]
  refine Calls.callWith_builtin rfl (Calls.evalArgs_plain (Calls.spliced_cons (thn (he pins s1 σ H1 _ I1 q1) fun iv s2 zq26_2 => ?_)))
  obtain ⟨y, H2, I2, ry, kvs, k, v, ea, ey, l, q2⟩ := zq26_2
  refine Calls.spliced_nil ?_
  subst ey
  exact d_pop I2 ea ry l (.inl rfl) fun w' s3 I3 rw' => ⟨v, _, I3, rw', q2⟩
end

section
variable {X : Cx} {pins : List (Addr × Obj)} {σ : St} {H : Hp} {s : Shared} {a : Addr} {kvs : List (Key × V)} {A : Around} {E : Value → Shared → Prop}
end


section
variable {X : Cx} {pins : List (Addr × Obj)} {σ : St} {H : Hp} {s : Shared} {a : Addr} {y : V} {u : Value} {A : Around} {E : Value → Shared → Prop}
end
end L2
namespace L2
open PySem PySem.Spec PyProof.Rows
section
variable {X : Cx}
/-- len of a dict -/
theorem call_lenD : CallR X (.builtin "len") (fun xs H Q => ∃ a kvs, xs = [V.ref a] ∧ H a = some (.dK kvs) ∧ Q (.int kvs.length) H) := by
  intro pins s σ H xs us Q I r h
  obtain ⟨a, kvs, rfl, ha, q⟩ := h
  obtain ⟨u, rfl, ru⟩ := vals1 r
  cases ru
  exact d_len I (.inl ha) fun t s' I' => ⟨.int kvs.length, H, I', ⟨t, rfl⟩, q⟩
end
section
variable {κ : Type} [DecidableEq κ]
end
end L2

namespace L2
open PySem PySem.Spec PyProof.Rows

section
variable {X : Cx} {pins : List (Addr × Obj)} {σ : St} {H : Hp} {s : Shared} {a : Addr} {kvs : List (Key × V)} {k : Key} {u r : Value} {d : V} {A : Around} {E : Value → Shared → Prop}
end
section
variable {X : Cx} {o e f : Expr} {apos cpos : Pos} {td ty tx : TE}
end

section
variable {X : Cx} {pins : List (Addr × Obj)} {σ : St} {H : Hp} {s : Shared} {a : Addr} {o : Obj} {u : HO} {kvs : List (Key × V)}
theorem Inv.swap {w : HO} (I : Inv X pins σ H s) (h : H a = some u) (h1 : ∀ o u', X.H₀ a ≠ some (.frz o u')) (h2 : ∀ xs, u ≠ .tup xs) (h3 : ∀ ps, u ≠ .tbl ps) (h4 : ∀ x, u ≠ .own x) (new : ObjOk X.prog X.w (upd H a w) s.heap a w) : Inv X pins σ (upd H a w) s := by
  have ne : ∀ b, H b = none → b ≠ a := fun b q z => by rw [z, h] at q; cases q
  refine ⟨I.ok, I.os, I.bare, ⟨I.base.keep, I.base.slot, fun b o q nn hx => ?_, I.base.there, fun b xs q => ?_, fun b o u' q => ?_, fun b ps q => ?_⟩, I.loc, I.cell, ?_, fun y c q => ?_, fun p hp => ?_, fun b v q => ?_, I.len⟩
  · have z := I.base.free b o q nn hx
    rw [upd_ne (ne b z)]; exact z
  · have z := I.base.tups b xs q
    rw [upd_ne (fun e => h2 xs (by rw [e, h] at z; exact Option.some.inj z))]; exact z
  · have z := I.base.frzs b o u' q
    rw [upd_ne (fun e => h1 o u' (by rw [← e]; exact q))]; exact z
  · obtain ⟨more, z⟩ := I.base.tbls b ps q
    exact ⟨more, by rw [upd_ne (fun e => h3 _ (by rw [e, h] at z; exact Option.some.inj z))]; exact z⟩
  · rw [upd_ne (ne _ I.free)]; exact I.free
  · rw [upd_ne (ne _ (I.freeC y c q))]; exact I.freeC y c q
  · obtain ⟨a1, a2, a3⟩ := I.pin p hp
    exact ⟨a1, by rw [upd_ne (ne _ a2)]; exact a2, a3⟩
  · by_cases hb : b = a
    · subst hb
      rw [upd_same] at q
      cases q
      exact new
    · rw [upd_ne hb] at q
      exact (I.hok b v q).stay (fun _ _ _ z => z) (fun c z => by rw [upd_ne (fun e => h4 b (by rw [e, h] at z; exact Option.some.inj z))]; exact z) fun c xs z => by rw [upd_ne (fun e => h2 xs (by rw [e, h] at z; exact Option.some.inj z))]; exact z
theorem Inv.freeze (I : Inv X pins σ H s) (h : H a = some (.dK kvs)) (ho : s.heap.get? a = some o) (h1 : ∀ o u', X.H₀ a ≠ some (.frz o u')) : Inv X pins σ (upd H a (.frz o (.dK kvs))) s :=
  I.swap h h1 (fun _ z => nomatch z) (fun _ z => nomatch z) (fun _ z => nomatch z) ⟨ho, (show ObjOk X.prog X.w H s.heap a (.dK kvs) from I.hok a _ h)⟩
theorem Inv.thaw (I : Inv X pins σ H s) (h : H a = some (.frz o (.dK kvs))) (h1 : ∀ o u', X.H₀ a ≠ some (.frz o u')) : Inv X pins σ (upd H a (.dK kvs)) s :=
  I.swap h h1 (fun _ z => nomatch z) (fun _ z => nomatch z) (fun _ z => nomatch z) (show ObjOk X.prog X.w H s.heap a (.frz o (.dK kvs)) from I.hok a _ h).2
end
noncomputable def epO (o : Obj) : Nat := match o.data with
  | .dict _ ep => ep
  | _ => 0
/-- the keys of a frozen dict -/
noncomputable def Itd (a : Addr) (o : Obj) (kvs : List (Key × V)) : It :=
  ⟨fun i H => H a = some (.frz o (.dK kvs)) ∧ i < kvs.length, fun i H x H' => H' = H ∧ ∃ k v, kvs[i]? = some (k, v) ∧ x = kV k, fun i H => H a = some (.frz o (.dK kvs)) ∧ kvs.length ≤ i⟩
theorem kV_rel {P : Program} {w : World} {k : Key} {u : Value} (h : (mixKind P w).is k u = true) : RelV (kV k) u := by
  rcases keyIs_shape (show keyIs k u = true from h) with ⟨i, t, rfl, rfl⟩ | ⟨x, t, rfl, rfl⟩
  · exact ⟨t, rfl⟩
  · exact ⟨t, rfl⟩
theorem frz_at {P : Program} {w : World} {H : Hp} {h : Heap} {a : Addr} {o : Obj} {kvs : List (Key × V)} (ok : HOk P w H h) (e : H a = some (.frz o (.dK kvs))) : (a == sysModules) = false ∧ ∃ vs, KV kvs vs ∧ h.DictAt (mixKind P w) a vs (epO o) := by
  obtain ⟨ho, _, hd, vs, r, o', es, ep, h1, h2, h3, h4⟩ := (show ObjOk P w H h a (.frz o (.dK kvs)) from ok a _ e)
  rw [ho] at h1
  cases h1
  have ee : epO o = ep := by unfold epO; rw [h3]
  exact ⟨hd, vs, r, o, es, ho, h2, by rw [ee]; exact h3, h4⟩
theorem turn_dict {P : Program} {w : World} {K : PySem.W.Frag} {tg : Expr} (a it : Addr) (hne : a ≠ it) (o : Obj) (kvs : List (Key × V)) : Turn P w K tg (Itd a o kvs) [it] it (fun i h => h.IsKeyIter it a i kvs.length (epO o)) where
  mem := by simp
  obj := fun i h st b hb => by
    have e : b = it := by simpa using hb
    subst e
    obtain ⟨ob, h1, _, h3⟩ := st
    exact ⟨ob, h1, fun v z => by rw [h3] at z; cases z⟩
  keep := fun i h h' st k => st.at fun o e => k it (by simp) o e
  item := by
    intro X hP hw hK hc i pins s σ H E I hf st hg
    subst hP hw hK
    obtain ⟨hg1, hg2⟩ := hg
    obtain ⟨f0, f1, f2, f3, f4, f5⟩ := hf it (by simp)
    obtain ⟨hd, vs, r, da⟩ := frz_at I.hok hg1
    have hlen := r.length
    obtain ⟨⟨k, x⟩, hx⟩ : ∃ p, vs[i]? = some p := ⟨vs[i]'(by (first | lia | omega)), by simp⟩
    have hk2 : ∃ v, kvs[i]? = some (k, v) := by
      have hi : i < kvs.length := hg2
      refine ⟨(kvs[i]).2, ?_⟩
      have e := r.keys
      have e1 : (kvs.map (·.1))[i]? = (vs.map (·.1))[i]? := by rw [e]
      rw [List.getElem?_map, List.getElem?_map, hx, List.getElem?_eq_getElem hi] at e1
      have e2 : kvs[i].1 = k := Option.some.inj e1
      rw [List.getElem?_eq_getElem hi, ← e2]
    obtain ⟨v, hv⟩ := hk2
    rw [hlen] at st ⊢
    refine wpAny_pyNext_dict_item st da hx fun key h' hkey hit' hs' => ?_
    have I1 : Inv X pins σ H { s with heap := h', toks := s.toks } := I.turned (fun b o hb e => (hs'.2 b hb).trans e) f0 f1 f3 f4 f5
    obtain ⟨ob, h1, h2, h3⟩ := id hit'
    exact ⟨_, rfl, go_of (s := { s with heap := h' }) (n := "dict_keyiterator") h1 h2 h3 (by decide) ⟨kV k, H, I1, kV_rel hkey, ⟨rfl, k, v, hv, rfl⟩, hit', fun b hb => (hf b hb).1⟩⟩
  done := by
    intro X hP hw hK hc i pins s σ H E I hf st hg
    subst hP hw hK
    obtain ⟨hg1, hg2⟩ := hg
    obtain ⟨f0, f1, f2, f3, f4, f5⟩ := hf it (by simp)
    obtain ⟨hd, vs, r, da⟩ := frz_at I.hok hg1
    have hlen := r.length
    rw [hlen] at st
    exact wpAny_pyNext_dict_end (I.ok.hd hc) st da (by simp; (first | lia | omega)) fun h' eb => ⟨rfl, I.turned (t' := s.toks) (fun b o hb e => eb b o hb e) f0 f1 f3 f4 f5⟩
  self := fun _ _ _ _ _ st h => wpAny_pyIter_keyiter st h
/-- for k in d; X.H₀: the heap at the def's entry -/
noncomputable def iDict (H₀ : Hp) (td : TE) : TI := fun σ H R => td σ H fun x H1 => ∃ a kvs, x = .ref a ∧ H1 a = some (.dK kvs) ∧ (∀ o u', H₀ a ≠ some (.frz o u')) ∧ ∀ o, R (Itd a o kvs) (upd H1 a (.frz o (.dK kvs)))
section
variable {X : Cx} {tg : Expr}
theorem pi_dict {l : Expr} {td : TE} (hl : PE X l td) : PI X tg l (iDict X.H₀ td) := by
  intro pins s σ H R I h
  refine thn (hl pins s σ H _ I h) fun v s1 zq4_2 => ?_
  obtain ⟨x, H1, I1, r1, a, kvs, e, ha, hn, q⟩ := zq4_2
  subst e
  cases r1
  obtain ⟨_, hd, vs, rel, dd⟩ := dk_of I1.hok ha
  obtain ⟨ob, es, ep, h1, h2, h3, h4⟩ := id dd
  have I2 := I1.freeze ha h1 hn
  have lt : a < s1.heap.objs.size := Heap.lt_size h1
  have da : s1.heap.DictAt (mixKind X.prog X.w) a vs (epO ob) := ⟨ob, es, h1, h2, by unfold epO; rw [h3], h4⟩
  refine wpAny_pyIter_dict hd da ?_
  refine ⟨s1.heap.objs.size, [s1.heap.objs.size], _, Itd a ob kvs, _, rfl, I2.kept (t' := s1.toks) fun b o e => Heap.get?_push_of_some _ e, turn_dict a _ (Nat.ne_of_lt lt) ob kvs, ⟨_, Heap.get?_push_size _ rfl, rfl, ?_⟩, fun b hb => ?_, q ob⟩
  · rw [rel.length]; rfl
  · have e : b = s1.heap.objs.size := by simpa using hb
    subst e
    exact I2.fpOk (Nat.le_refl _) (I2.hok.fresh (Nat.le_refl _))
/-- what was frozen may be written again -/
noncomputable def tThaw (H₀ : Hp) (t : TS) : TS := fun D σ H => t { D with
  nx := fun σ' H' => ∃ a o kvs, H' a = some (.frz o (.dK kvs)) ∧ (∀ o u', H₀ a ≠ some (.frz o u')) ∧ D.nx σ' (upd H' a (.dK kvs))
  rt := fun v H' => ∃ a o kvs, H' a = some (.frz o (.dK kvs)) ∧ (∀ o u', H₀ a ≠ some (.frz o u')) ∧ D.rt v (upd H' a (.dK kvs)) } σ H
theorem ps_thaw {st : Stmt} {t : TS} (h : PS X st t) : PS X st (tThaw X.H₀ t) := by
  intro pins s σ H D I q
  refine thn (h pins s σ H _ I q) fun f s1 hq => ?_
  cases f with
  | next =>
    obtain ⟨σ', H', I', a, o, kvs, ha, hn, q'⟩ := hq
    exact ⟨σ', _, I'.thaw ha hn, q'⟩
  | ret u =>
    obtain ⟨v, σ', H', I', r, a, o, kvs, ha, hn, q'⟩ := hq
    exact ⟨v, σ', _, I'.thaw ha hn, r, q'⟩
  | brk => exact hq
  | cont => exact hq
end
theorem for_dict {a : Addr} {o : Obj} {kvs : List (Key × V)} {g : TG} {tb : TS} {D : Ends} {σ : St} {H : Hp} (Pv : Nat → St → Hp → Prop) (h0 : Pv 0 σ H) (hl : ∀ i σ H, i ≤ kvs.length → Pv i σ H → H a = some (.frz o (.dK kvs)))
    (hs : ∀ i k v σ H, kvs[i]? = some (k, v) → Pv i σ H → g (kV k) σ H fun σ2 H2 => tb { D with nx := Pv (i + 1), ct := Pv (i + 1), bk := D.nx } σ2 H2) (hd : ∀ σ H, Pv kvs.length σ H → D.nx σ H) :
    ∃ W : Nat → Nat → St → Hp → Prop, (∃ m, W 0 m σ H) ∧ ∀ i m σ H, W i m σ H →
      ((Itd a o kvs).stop i H ∧ D.nx σ H) ∨ ((Itd a o kvs).go i H ∧ ∃ N : St → Hp → Prop, (∀ σ' H', N σ' H' → ∃ m', m' < m ∧ W (i + 1) m' σ' H') ∧ ∀ x H', (Itd a o kvs).yld i H x H' → g x σ H' fun σ2 H2 => tb { D with nx := N, ct := N, bk := D.nx } σ2 H2) := by
  refine ⟨fun i m σ H => m = kvs.length - i ∧ i ≤ kvs.length ∧ Pv i σ H, ⟨kvs.length, by simp, Nat.zero_le _, h0⟩, ?_⟩
  rintro i m σ H ⟨rfl, hi, p⟩
  have q := hl i σ H hi p
  by_cases hlt : i < kvs.length
  · refine .inr ⟨⟨q, hlt⟩, Pv (i + 1), fun σ' H' p' => ⟨kvs.length - (i + 1), by (first | lia | omega), rfl, hlt, p'⟩, fun x H' y => ?_⟩
    obtain ⟨e, k, v, hk, ex⟩ := y
    subst e ex
    exact hs i k v σ _ hk p
  · have e : i = kvs.length := by (first | lia | omega)
    subst e
    exact .inl ⟨⟨q, Nat.le_refl _⟩, hd σ H p⟩

section
variable {X : Cx}
/-- != of two lists of flat items -/
noncomputable def rNeL (K : PySem.W.Frag) : R2 := fun x y H Q => ∃ p q xs ys, x = .ref p ∧ y = .ref q ∧ SqL K H p xs ∧ SqL K H q ys ∧ xs.all flatV = true ∧ ys.all flatV = true ∧ Q (.bl (!eqLV xs ys)) H
theorem op_neL (hu : X.A.units < cLine) : OpR X (compareOp .NotEq) (rNeL X.K) := by
  intro pins s σ H x y v u Q I rx ry h
  obtain ⟨p, q, xs, ys, rfl, rfl, hx, hy, fx, fy, hq⟩ := h
  cases rx
  cases ry
  obtain ⟨its, r, pl, hz⟩ := I.list hx
  obtain ⟨its2, r2, pl2, hz2⟩ := I.list hy
  have hl := r.length
  have hl2 := r2.length
  by_cases e : xs.length = ys.length
  · refine PySem.SeqAt.RcNeAt.lists (e := fun j => eqV (xs.getD j .non) (ys.getD j .non)) pl.isList pl2.isList (by rw [List.size_toArray, List.size_toArray]; (first | lia | omega)) hu (fun j h1 h2 => ?_) _ _ _ _ ⟨.bl (!eqLV xs ys), H, I, ?_, hq⟩
    · have j1 : j < xs.length := by rw [List.size_toArray] at h1; (first | lia | omega)
      have j2 : j < ys.length := by (first | lia | omega)
      obtain ⟨a, ea, ra⟩ := r.get (i := j) (x := xs[j]) (by simp [j1])
      obtain ⟨b, eb, rb⟩ := r2.get (i := j) (x := ys[j]) (by simp [j2])
      obtain ⟨_, ea'⟩ := List.getElem?_eq_some_iff.mp ea
      obtain ⟨_, eb'⟩ := List.getElem?_eq_some_iff.mp eb
      have g1 : xs.getD j .non = xs[j] := by simp [j1]
      have g2 : ys.getD j .non = ys[j] := by simp [j2]
      show SeqAt.EqAt _ _ its.toArray[j] its2.toArray[j] (eqV (xs.getD j .non) (ys.getD j .non))
      rw [g1, g2]
      have f1 : flatV xs[j] = true := List.all_eq_true.mp fx _ (List.getElem_mem j1)
      have f2 : flatV ys[j] = true := List.all_eq_true.mp fy _ (List.getElem_mem j2)
      have z := eqAt_V (A := X.A.in1) (s := s) ra rb f1 f2
      have a1 : its.toArray[j] = a := by simpa using ea'
      have a2 : its2.toArray[j] = b := by simpa using eb'
      rw [a1, a2]
      exact z
    · show Value.bool _ = Value.bool _
      rw [List.size_toArray, ← hl, eqLV_range e]
  · refine PySem.SeqAt.RcNeAt.lists_lengths pl.isList pl2.isList ?_ hu _ _ _ _ ⟨.bl (!eqLV xs ys), H, I, ?_, hq⟩
    · rw [List.size_toArray, List.size_toArray, ← hl, ← hl2]
      exact bne_iff_ne.mpr e
    · show Value.bool _ = Value.bool _
      rw [eqLV_len e]
      rfl
end
end L2

namespace L2
open PySem PySem.Spec PyProof.Rows

noncomputable def Itrs (lo st : Int) (n : Nat) : It := ⟨fun i _ => i < n, fun i H x H' => H' = H ∧ x = .int (lo + i * st), fun i _ => n ≤ i⟩
theorem turn_rangeS {P : Program} {w : World} {K : PySem.W.Frag} {tg : Expr} (it : Addr) (lo st : Int) (n : Nat) : Turn P w K tg (Itrs lo st n) [it] it (fun i h => IsRangeIter h it (lo + (i : Nat) * st) ((n : Int) - (i : Nat)) st) where
  mem := by simp
  obj := fun i h st b hb => by
    have e : b = it := by simpa using hb
    subst e
    exact ⟨_, st, fun v z => by
      have z' : Data.fields _ = Data.cell v := z
      cases z'⟩
  keep := fun i h h' st k => k it (by simp) _ st
  item := by
    intro X hP hw hK hc i pins s σ H E I hf st' hg
    subst hP hw hK
    obtain ⟨f0, f1, f2, f3, f4, f5⟩ := hf it (by simp)
    have W := Walks.range (prog := X.prog) (w := X.w) (I.ok.hd hc) it lo st n
    refine W.item i s _ _ hg st' fun v h' tk hv st'' kk => ?_
    obtain ⟨t, rfl⟩ := hv
    have I1 : Inv X pins σ H { s with heap := h', toks := tk } := I.turned (fun b o hb e => kk b o (by simpa using hb) e) f0 f1 f3 f4 f5
    exact ⟨_, rfl, go_of (s := { s with heap := h', toks := tk }) (n := "range_iterator") st'' rfl rfl (by decide) ⟨.int (lo + i * st), H, I1, ⟨t, rfl⟩, ⟨rfl, rfl⟩, st'', fun b hb => (hf b hb).1⟩⟩
  done := by
    intro X hP hw hK hc i pins s σ H E I hf st' hg
    subst hP hw hK
    obtain ⟨f0, f1, f2, f3, f4, f5⟩ := hf it (by simp)
    exact wpAny_pyNext_range_end (I.ok.hd hc) st' (by have : n ≤ i := hg; (first | lia | omega)) fun h' eb => ⟨rfl, I.turned (t' := s.toks) (fun b o hb e => eb b o hb e) f0 f1 f3 f4 f5⟩
  self := fun _ _ _ _ _ st h => wpAny_pyIter_rangeiter st h
noncomputable def iRng3 (ta : TA) : TI := fun σ H R => ta σ H fun vs H1 => ∃ (i j st : Int) (n : Nat), vs = [.int i, .int j, .int st] ∧ Builtin.Range.small i j st = true ∧ Builtin.Range.rangeSize i j st = (n : Int) ∧ st ≠ 0 ∧ Builtin.divisionGoesByPylong (j - i) st = false ∧ R (Itrs i st n) H1
section
variable {X : Cx} {tg : Expr}
theorem pi_range3 {a b c : Expr} {ta : TA} {p pos : Pos} (hg : Gl X "range") (hm : X.mg "range" = none) (ha : PA X [a, b, c] ta) (hs : starEach [a, b, c] X.env = [(false, eval a X.env), (false, eval b X.env), (false, eval c X.env)] := by rfl) (hs2 : starEach [b, c] X.env = [(false, eval b X.env), (false, eval c X.env)] := by rfl) :
    PI X tg (.Call (.Name "range" p) [a, b, c] [] pos) (iRng3 ta) := by
  intro pins s σ H R I h
  refine Call_ (ld_blt I hg hm boot_range (PyProof.Rows.callWith_type1 (thn (ha pos pins s σ H _ I h) fun us s1 ⟨vs, H1, I1, r1, q1⟩ => ?_) (by rw [hs, hs2]) (by rw [hs2]; rfl)))
  obtain ⟨i, j, st, n, e, q1, q2, q3, q4, q⟩ := q1
  subst e
  cases r1 with
  | cons r rr =>
    cases rr with
    | cons r' rr =>
      cases rr with
      | cons r'' rr =>
        cases rr
        obtain ⟨t, rfl⟩ := r
        obtain ⟨t', rfl⟩ := r'
        obtain ⟨t'', rfl⟩ := r''
        refine call_range_3 q3 ?_ (.inl q4)
        refine wpAny_pyIter_range (IsRange.new ..) q1 ?_
        have I2 : Inv X pins σ H1 { s1 with heap := s1.heap.push { cls := .type "range", data := .fields #[.int i t, .int j t', .int st t''] }, toks := s1.toks } := I1.kept fun b o e => Heap.get?_push_of_some _ e
        refine ⟨_, [_], _, _, H1, rfl, I2.kept (t' := s1.toks) fun b o e => Heap.get?_push_of_some _ e, turn_rangeS _ i st n, ?_, fun b hb => ?_, q⟩
        · have e1 : i + ((0 : Nat) : Int) * st = i := by simp
          have e2 : (n : Int) - ((0 : Nat) : Int) = Builtin.Range.rangeSize i j st := by rw [q2]; (first | lia | omega)
          show IsRangeIter _ _ (i + ((0 : Nat) : Int) * st) ((n : Int) - ((0 : Nat) : Int)) st
          rw [e1, e2]
          exact Heap.get?_push_size _ rfl
        · have e := List.mem_singleton.mp hb
          subst e
          exact I2.fpOk (Nat.le_refl _) (I2.hok.fresh (Nat.le_refl _))
end
end L2

namespace Srt
open PySem PyProof.Rows
section
variable {prog : Program} {w : World} {A : Around} {E : Value → Shared → Prop} {s : Shared} {a₀ : Array Keyed}
end
end Srt

namespace Srt
open PySem PyProof.Rows
section
variable {prog : Program} {w : World} {A : Around} {E : Value → Shared → Prop} {s : Shared} {a₀ : Array Keyed}
end
end Srt

namespace Srt
open PySem PyProof.Rows
end Srt

namespace Srt
open PySem PyProof.Rows
section
variable {prog : Program} {w : World} {A : Around} {E : Value → Shared → Prop} {s : Shared} {a₀ : Array Keyed}
end
end Srt

namespace Srt
open PySem PyProof.Rows
end Srt

namespace Srt
open PySem PyProof.Rows
section
variable {prog : Program} {w : World} {A : Around} {E : Value → Shared → Prop} {s : Shared} {a₀ : Array Keyed}
end
end Srt

namespace Srt
open PySem PyProof.Rows
section
variable {prog : Program} {w : World} {A : Around} {E : Value → Shared → Prop} {s : Shared} {a₀ : Array Keyed}
end
end Srt

namespace Srt
open PySem PyProof.Rows
section
variable {prog : Program} {w : World} {A : Around} {E : Value → Shared → Prop} {s : Shared} {a₀ : Array Keyed}
end
end Srt

namespace Srt
open PySem PyProof.Rows
section
variable {prog : Program} {w : World} {A : Around} {E : Value → Shared → Prop} {s : Shared}
end
end Srt

namespace Srt
open PySem PyProof.Rows
section
variable {prog : Program} {w : World} {A : Around} {E : Value → Shared → Prop} {s : Shared} {T : String} {r d : Addr} {n : Nat} {P : Nat → Value → Prop} {OK : Heap → Prop}
end
end Srt
namespace L2
open PySem PySem.Spec PyProof.Rows
section
variable {X : Cx}
end
end L2

namespace Srt
open PySem PyProof.Rows
section
variable {prog : Program} {w : World} {A : Around} {s : Shared} {T : String} {r d : Addr} {n : Nat} {P : Nat → Value → Prop} {OK : Heap → Prop}
end
end Srt
namespace L2
open PySem PySem.Spec PyProof.Rows
theorem vals_of : ∀ {xs : List V} {vs : List Value}, xs.length = vs.length → (∀ (j : Nat) (x : V) (v : Value), xs[j]? = some x → vs[j]? = some v → RelV x v) → Vals xs vs
  | [], [], _, _ => .nil
  | x :: xs, v :: vs, hl, h => .cons (h 0 x v rfl rfl) (vals_of (by simpa using hl) fun j a b ha hb => h (j + 1) a b (by simpa using ha) (by simpa using hb))
  | [], _ :: _, hl, _ => by simp at hl
  | _ :: _, [], hl, _ => by simp at hl
section
variable {X : Cx}
/-- == of two tuples of flat items -/
noncomputable def rEqT (K : PySem.W.Frag) : R2 := fun x y H Q => ∃ p q xs ys, x = .ref p ∧ y = .ref q ∧ SqT K H p xs ∧ SqT K H q ys ∧ xs.all flatV = true ∧ ys.all flatV = true ∧ Q (.bl (eqLV xs ys)) H
theorem eqLV_minT : ∀ {xs ys : List V}, ((List.range (min xs.length ys.length)).all (fun j => eqV (xs.getD j .non) (ys.getD j .non)) && xs.length == ys.length) = eqLV xs ys := by
  intro xs ys
  by_cases e : xs.length = ys.length
  · rw [e, Nat.min_self, beq_self_eq_true, Bool.and_true, ← eqLV_range e, e]
  · rw [eqLV_len e, beq_eq_false_iff_ne.mpr e, Bool.and_false]
theorem op_eqT (hu : X.A.units < cLine) : OpR X (compareOp .Eq) (rEqT X.K) := by
  intro pins s σ H x y v u Q I rx ry h
  obtain ⟨p, q, xs, ys, rfl, rfl, hx, hy, fx, fy, hq⟩ := h
  cases rx
  cases ry
  obtain ⟨its, r, pl, hz⟩ := I.tuple hx
  obtain ⟨its2, r2, pl2, hz2⟩ := I.tuple hy
  have hl := r.length
  have hl2 := r2.length
  refine SeqAt.eq_tupleAt (e := fun j => eqV (xs.getD j .non) (ys.getD j .non)) pl pl2 hu (fun j h1 h2 => ?_) ⟨.bl (eqLV xs ys), H, I, ?_, hq⟩
  · rw [List.size_toArray] at h1 h2
    have j1 : j < xs.length := by (first | lia | omega)
    have j2 : j < ys.length := by (first | lia | omega)
    obtain ⟨a, ea, ra⟩ := r.get (i := j) (x := xs[j]) (by simp [j1])
    obtain ⟨b, eb, rb⟩ := r2.get (i := j) (x := ys[j]) (by simp [j2])
    obtain ⟨_, ea'⟩ := List.getElem?_eq_some_iff.mp ea
    obtain ⟨_, eb'⟩ := List.getElem?_eq_some_iff.mp eb
    have g1 : xs.getD j .non = xs[j] := by simp [j1]
    have g2 : ys.getD j .non = ys[j] := by simp [j2]
    show SeqAt.EqAt _ _ its.toArray[j] its2.toArray[j] (eqV (xs.getD j .non) (ys.getD j .non))
    have a1 : its.toArray[j] = a := by simpa using ea'
    have a2 : its2.toArray[j] = b := by simpa using eb'
    rw [g1, g2, a1, a2]
    exact eqAt_V ra rb (List.all_eq_true.mp fx _ (List.getElem_mem j1)) (List.all_eq_true.mp fy _ (List.getElem_mem j2))
  · show Value.bool _ = Value.bool _
    rw [List.size_toArray, List.size_toArray, ← hl, ← hl2, eqLV_minT]
end
end L2

namespace L2
open PySem PySem.Spec PyProof.Rows
/-- one is what the other is, n deep -/
noncomputable def Deep (K : PySem.W.Frag) (H : Hp) : Nat → V → V → Prop
  | 0, x, y => x = y ∧ flatV x = true
  | n + 1, x, y => (x = y ∧ flatV x = true) ∨ ∃ p q xs ys, x = .ref p ∧ y = .ref q ∧ p ≠ q ∧ ((SqL K H p xs ∧ SqL K H q ys) ∨ (SqT K H p xs ∧ SqT K H q ys)) ∧ Paired (Deep K H n) xs ys
theorem eqV_refl : ∀ {x : V}, flatV x = true → eqV x x = true := by
  intro x h
  cases x <;> first | (simp [eqV]; done) | exact nomatch h
theorem pr_len {α β : Type} {F : α → β → Prop} : ∀ {xs : List α} {ys : List β}, Paired F xs ys → xs.length = ys.length
  | _, _, .nil => rfl
  | _, _, .cons _ t => by rw [List.length_cons, List.length_cons, pr_len t]
theorem pr_at {α β : Type} {F : α → β → Prop} : ∀ {xs : List α} {ys : List β}, Paired F xs ys → ∀ (j : Nat) (x : α) (y : β), xs[j]? = some x → ys[j]? = some y → F x y
  | _, _, .nil, j, _, _, h, _ => by simp at h
  | _, _, .cons r t, 0, x, y, h1, h2 => by simp at h1 h2; subst h1; subst h2; exact r
  | _, _, .cons r t, j + 1, x, y, h1, h2 => pr_at t j x y (by simpa using h1) (by simpa using h2)
section
variable {X : Cx} {pins : List (Addr × Obj)} {σ : St} {H : Hp} {s : Shared}
theorem deep_items {n : Nat} {A : Around} {xs ys : List V} {its its2 : List Value} (r : Vals xs its) (r2 : Vals ys its2) (hp : Paired (Deep X.K H n) xs ys)
    (ih : ∀ {x y : V} {v u : Value}, Deep X.K H n x y → RelV x v → RelV y u → SeqAt.EqAt A s v u true) (j : Nat) (h1 : j < its.toArray.size) (h2 : j < its2.toArray.size) : SeqAt.EqAt A s its.toArray[j] its2.toArray[j] true := by
  have hl := r.length
  have hl2 := r2.length
  rw [List.size_toArray] at h1 h2
  have j1 : j < xs.length := by (first | lia | omega)
  have j2 : j < ys.length := by (first | lia | omega)
  obtain ⟨a, ea, ra⟩ := r.get (i := j) (x := xs[j]) (by simp [j1])
  obtain ⟨b, eb, rb⟩ := r2.get (i := j) (x := ys[j]) (by simp [j2])
  obtain ⟨_, ea'⟩ := List.getElem?_eq_some_iff.mp ea
  obtain ⟨_, eb'⟩ := List.getElem?_eq_some_iff.mp eb
  have a1 : its.toArray[j] = a := by simpa using ea'
  have a2 : its2.toArray[j] = b := by simpa using eb'
  rw [a1, a2]
  exact ih (pr_at hp j _ _ (by simp [j1]) (by simp [j2])) ra rb
theorem deep_eq (I : Inv X pins σ H s) : ∀ (n : Nat) {A : Around} {x y : V} {v u : Value}, A.units + n < cLine → Deep X.K H n x y → RelV x v → RelV y u → SeqAt.EqAt A s v u true
  | 0, A, x, y, v, u, _, ⟨e, f⟩, rx, ry => by
    subst e
    have z := eqAt_V (A := A) (s := s) rx ry f f
    rwa [eqV_refl f] at z
  | n + 1, A, x, y, v, u, hu, h, rx, ry => by
    rcases h with ⟨e, f⟩ | ⟨p, q, xs, ys, rfl, rfl, hne, hsq, hp⟩
    · subst e
      have z := eqAt_V (A := A) (s := s) rx ry f f
      rwa [eqV_refl f] at z
    · cases rx
      cases ry
      have hin : A.in1.units + n < cLine := by show A.units + 1 + n < cLine; (first | lia | omega)
      have ih : ∀ {x y : V} {v u : Value}, Deep X.K H n x y → RelV x v → RelV y u → SeqAt.EqAt A.in1 s v u true := fun a b c => deep_eq I n hin a b c
      have hl := pr_len hp
      rcases hsq with ⟨h1, h2⟩ | ⟨h1, h2⟩
      · obtain ⟨its, r, pl, _⟩ := I.list h1
        obtain ⟨its2, r2, pl2, _⟩ := I.list h2
        have l1 := r.length
        have l2 := r2.length
        have z := SeqAt.RcAt.lists (A := A) (s := s) (e := fun _ => true) pl.isList pl2.isList (by rw [List.size_toArray, List.size_toArray]; (first | lia | omega)) (by (first | lia | omega)) (deep_items r r2 hp ih)
        have e : ((List.range its.toArray.size).all fun _ => true) = true := List.all_eq_true.mpr fun _ _ => rfl
        rw [e] at z
        exact SeqAt.EqAt.of_refs hne z
      · obtain ⟨its, r, pl, _⟩ := I.tuple h1
        obtain ⟨its2, r2, pl2, _⟩ := I.tuple h2
        have l1 := r.length
        have l2 := r2.length
        have z := SeqAt.RcAt.tuples (A := A) (s := s) (e := fun _ => true) pl pl2 (by (first | lia | omega)) (deep_items r r2 hp ih)
        have e : ((List.range (min its.toArray.size its2.toArray.size)).all (fun _ => true) && its.toArray.size == its2.toArray.size) = true := by
          rw [Bool.and_eq_true]
          exact ⟨List.all_eq_true.mpr fun _ _ => rfl, by rw [List.size_toArray, List.size_toArray]; exact beq_iff_eq.mpr (by (first | lia | omega))⟩
        rw [e] at z
        exact SeqAt.EqAt.of_refs hne z
end
/-- != of two lists that are alike, n deep -/
noncomputable def rNeD (K : PySem.W.Frag) (n : Nat) : R2 := fun x y H Q => ∃ p q xs ys, x = .ref p ∧ y = .ref q ∧ SqL K H p xs ∧ SqL K H q ys ∧ Paired (Deep K H n) xs ys ∧ Q (.bl false) H
section
variable {X : Cx}
theorem op_neD (n : Nat) (hu : X.A.units + n + 1 < cLine) : OpR X (compareOp .NotEq) (rNeD X.K n) := by
  intro pins s σ H x y v u Q I rx ry h
  obtain ⟨p, q, xs, ys, rfl, rfl, hx, hy, hp, hq⟩ := h
  cases rx
  cases ry
  obtain ⟨its, r, pl, hz⟩ := I.list hx
  obtain ⟨its2, r2, pl2, hz2⟩ := I.list hy
  have l1 := r.length
  have l2 := r2.length
  have hl := pr_len hp
  have hin : X.A.in1.units + n < cLine := by show X.A.units + 1 + n < cLine; (first | lia | omega)
  have ih : ∀ {x y : V} {v u : Value}, Deep X.K H n x y → RelV x v → RelV y u → SeqAt.EqAt X.A.in1 s v u true := fun a b c => deep_eq I n hin a b c
  refine PySem.SeqAt.RcNeAt.lists (e := fun _ => true) pl.isList pl2.isList (by rw [List.size_toArray, List.size_toArray]; (first | lia | omega)) (by (first | lia | omega)) (deep_items r r2 hp ih) _ _ _ _ ⟨.bl false, H, I, ?_, hq⟩
  have e : ((List.range its.toArray.size).all fun _ => true) = true := List.all_eq_true.mpr fun _ _ => rfl
  rw [e]
  rfl
end
end L2

namespace PySem
open Sem (wp)
section
variable {prog : Program} {w : World} {A : Around} {E : Value → Shared → Prop} {h : Heap} {g : Array GenState} {d : Drawn} {t : Nat} {os : OsState} {a : Addr} {its : Array Value} {n : Nat}
end
end PySem

namespace PySem
open PyProof.Rows
namespace F
end F
section
variable {prog : Program} {w : World} {K : Type} [DecidableEq K] {knd : KeyKind prog w K} {A : Around} {E : Value → Shared → Prop}
end
end PySem

namespace L2
open PySem PySem.Spec PyProof.Rows
section
variable {X : Cx} {scope : Scope} {cl : List (Str × Addr)} {t : Str × Str} {caps : List (Str × Nat)} {pins : List (Addr × Obj)} {σ : St} {H : Hp} {s : Shared} {C : Addr} {fp : List Addr}
end

section
variable {X : Cx} {scope : Scope} {cl : List (Str × Addr)} {t : Str × Str} {caps : List (Str × Nat)} {elt iter : Expr} {ifs : List Expr} {px pos : Pos} {es : List Expr} {kx : Nat} {g : TG} {wi : TI} {tt : TT} {te : TE}

end
end L2

namespace L2
open PySem PySem.Spec PyProof.Rows
theorem bt_zip : bootBuiltins "zip" = some (.type "zip") := by decide +kernel
theorem bt_enumerate : bootBuiltins "enumerate" = some (.type "enumerate") := by decide +kernel
theorem bt_min : bootBuiltins "min" = some (.builtin "min") := by decide +kernel
section
variable {X : Cx} {pins : List (Addr × Obj)} {σ : St} {H : Hp} {s : Shared} {h' : Heap}
/-- untracked records of ours have turned -/
theorem Inv.turnedL {t' : Nat} {ch : List Addr} (I : Inv X pins σ H s) (k : ∀ b o, b ∉ ch → s.heap.get? b = some o → h'.get? b = some o) (hf : ∀ b ∈ ch, FpOk X pins H b) : Inv X pins σ H { s with heap := h', toks := t' } := by
  have nit : ∀ b u, H b = some u → b ∉ ch := fun b u e z => by rw [(hf b z).1] at e; cases e
  refine I.step (g' := s.gens) (d' := s.drawn) (ch := ch) (fun b hb => ?_) (fun b o _ _ hc e _ => k b o hc e) (fun b o _ _ hc e _ => ⟨o.slots, k b o hc e⟩) (fun _ _ _ _ n => n)
    (fun b o hc e => ⟨o, k b o hc e⟩) (fun _ _ e => e) (fun _ _ _ e => e) (fun b ps e => ⟨#[], by rw [e]; simp⟩) (fun m hm => ?_) (fun b u e => ?_) I.bare
  · obtain ⟨_, f1, f2, f3, f4, f5⟩ := hf b hb
    exact ⟨f3, f1, f4, f5⟩
  · obtain ⟨o, es, ep, ho, r⟩ := hm
    exact ⟨o, es, ep, k _ o (fun z => (hf _ z).2.1 rfl) ho, r⟩
  · refine (I.hok b u e).stay (fun c v hc q => k c v ?_ q) (fun _ q => q) fun _ _ q => q
    rcases hc with z | z
    · rw [z]; exact nit b u e
    · exact nit c _ z
/-- an untracked tuple of ours is tracked from now on -/
theorem Inv.trackT {D : Addr} {ys : List V} {its : List Value} (I : Inv X pins σ H s) (f : FpOk X pins H D) (e : IsTup s.heap D its.toArray) (r : Vals ys its) (hz : ys.length ≤ sizeLine) :
    Inv X pins σ (upd H D (.tup ys)) s := by
  obtain ⟨f0, f1, f2, f3, f4, f5⟩ := f
  obtain ⟨hh, g, d, tk, os⟩ := s
  refine I.step (g' := g) (d' := d) (t' := tk) (h' := hh) (ch := [D]) (fun b hb => ?_) (fun b o _ _ _ e _ => e) (fun b o _ _ _ e _ => ⟨o.slots, e⟩) (fun b o hb _ n => ?_) (fun b o _ e => ⟨o, e⟩) (fun b xs q => ?_) (fun b o u q => ?_) (fun b ps q => ⟨#[], ?_⟩) (fun m hm => hm) (fun b u q => ?_) I.bare
  · have z : b = D := by simpa using hb
    subst z
    exact ⟨f3, f1, f4, f5⟩
  · rw [upd_ne (fun z => hb (by simp [z]))]; exact n
  · rw [upd_ne (ne_of_none q f0)]; exact q
  · rw [upd_ne (ne_of_none q f0)]; exact q
  · rw [upd_ne (ne_of_none q f0), q]; simp
  · by_cases hb : b = D
    · subst hb
      rw [upd_same] at q
      cases q
      exact ⟨hz, its, r, e⟩
    · rw [upd_ne hb] at q
      exact (I.hok b u q).stay (fun _ _ _ z => z) (fun c z => by rw [upd_ne (ne_of_none z f0)]; exact z) fun c xs z => by rw [upd_ne (ne_of_none z f0)]; exact z
end
/-- two lists, side by side -/
noncomputable def Itz (K : PySem.W.Frag) (l1 l2 : Addr) : It :=
  ⟨fun i H => ∃ xs ys x y, SqL K H l1 xs ∧ SqL K H l2 ys ∧ xs[i]? = some x ∧ ys[i]? = some y,
   fun i H v H' => ∃ T x y, v = .ref T ∧ H T = none ∧ H' = upd H T (.tup [x, y]) ∧ (∀ xs, SqL K H l1 xs → xs[i]? = some x) ∧ ∀ ys, SqL K H l2 ys → ys[i]? = some y,
   fun i H => ∃ xs ys, SqL K H l1 xs ∧ SqL K H l2 ys ∧ (xs.length ≤ i ∨ ys.length ≤ i)⟩
noncomputable def znT (z TI TO i1 i2 l1 l2 : Addr) (i : Nat) (h : Heap) : Prop := IsZip h z TI TO .none ∧ IsPair h TI (.ref i1) (.ref i2) ∧ (∃ a b, IsPair h TO a b) ∧ h.IsListIter i1 l1 i ∧ h.IsListIter i2 l2 i
theorem two_le : 2 ≤ sizeLine := by rw [sizeLine_eq]; decide
theorem turn_zip {P : Program} {w : World} {K : PySem.W.Frag} {es : List Expr} {kx : Nat} {px : Pos} {z TI TO i1 i2 l1 l2 : Addr} (D : ZipApart z TI TO i1 i2 l1 l2) : Turn P w K (.Tuple es kx px) (Itz K l1 l2) [z, TI, TO, i1, i2] z (znT z TI TO i1 i2 l1 l2) where
  mem := by simp
  obj := by
    rintro i h ⟨hz, hTI, ⟨a, b', hTO⟩, h1, h2⟩ b hb
    simp only [List.mem_cons, List.not_mem_nil, or_false] at hb
    rcases hb with rfl | rfl | rfl | rfl | rfl
    · exact ⟨_, hz, fun v q => by cases (show Data.fields _ = Data.cell v from q)⟩
    · exact ⟨_, hTI, fun v q => by cases (show Data.seq _ _ = Data.cell v from q)⟩
    · exact ⟨_, hTO, fun v q => by cases (show Data.seq _ _ = Data.cell v from q)⟩
    · obtain ⟨o, e, c, d⟩ := h1; exact ⟨o, e, fun v q => by rw [d] at q; cases q⟩
    · obtain ⟨o, e, c, d⟩ := h2; exact ⟨o, e, fun v q => by rw [d] at q; cases q⟩
  keep := fun i h h' ⟨hz, hTI, ⟨a, b, hTO⟩, h1, h2⟩ k => ⟨k z (by simp) _ hz, k TI (by simp) _ hTI, ⟨a, b, k TO (by simp) _ hTO⟩, h1.at fun o e => k i1 (by simp) o e, h2.at fun o e => k i2 (by simp) o e⟩
  item := by
    intro X hP hw hK hc i pins s σ H E I hf st hg
    subst hP hw hK
    obtain ⟨hz, hTI, ⟨a, b, hTO⟩, h1, h2⟩ := st
    obtain ⟨xs, ys, x, y, q1, q2, e1, e2⟩ := hg
    obtain ⟨its1, rv1, p1, _⟩ := I.list q1
    obtain ⟨its2, rv2, p2, _⟩ := I.list q2
    obtain ⟨u1, hu1, ru1⟩ := rv1.get e1
    obtain ⟨u2, hu2, ru2⟩ := rv2.get e2
    have f4 : ∀ b ∈ [z, TO, i1, i2], FpOk X pins H b := fun b hb => hf b (by simp only [List.mem_cons, List.not_mem_nil, or_false] at hb ⊢; rcases hb with h | h | h | h <;> simp [h])
    refine wpAny_pyNext_zip_item D hz hTI hTO h1 h2 p1.isList p2.isList (x := u1) (y := u2) (by simpa using hu1) (by simpa using hu2) fun h' z' TO' a1 a2 pT sz kk => ?_
    have I1 : Inv X pins σ H { s with heap := h' } := I.turnedL (t' := s.toks) (ch := [z, TO, i1, i2]) (fun b o hb e => kk b o (fun q => hb (by simp [q])) (fun q => hb (by simp [q])) (fun q => hb (by simp [q])) (fun q => hb (by simp [q])) e) f4
    refine ⟨_, rfl, wpAny_letOwnedTupleGo_zip z' fun h2' z2 sb => ?_⟩
    replace sb : Heap.SameBut z h' h2' := sb
    have I2 : Inv X pins σ H { s with heap := h2' } := I1.turnedL (s := { s with heap := h' }) (h' := h2') (t' := s.toks) (ch := [z]) (fun b o hb e => (sb.2 b (fun q => hb (by simp [q]))).trans e) fun b hb => hf b (by simp only [List.mem_singleton] at hb; simp [hb])
    have fT : FpOk X pins H s.heap.objs.size := I.fpOk (Nat.le_refl _) (I.hok.fresh (Nat.le_refl _))
    have nz : s.heap.objs.size ≠ z := Nat.ne_of_gt (Heap.lt_size hz)
    have pT2 : IsPair h2' s.heap.objs.size u1 u2 := sb.extBut _ _ nz pT
    have I3 : Inv X pins σ (upd H s.heap.objs.size (.tup [x, y])) { s with heap := h2' } := I2.trackT (its := [u1, u2]) fT ⟨_, pT2, rfl, _, rfl⟩ (.cons ru1 (.cons ru2 .nil)) two_le
    refine ⟨.ref s.heap.objs.size, _, I3, rfl, ⟨_, x, y, rfl, fT.1, rfl, fun zs hzs => by rw [I.list_inj hzs q1]; exact e1, fun zs hzs => by rw [I.list_inj hzs q2]; exact e2⟩, ⟨z2, sb.extBut _ _ D.TIz (kk _ _ D.TIz D.TITO D.TIi1 D.TIi2 hTI), ⟨_, _, sb.extBut _ _ D.TOz TO'⟩, a1.extBut sb.extBut D.i1z, a2.extBut sb.extBut D.i2z⟩, fun b hb => ?_⟩
    have nb : b ≠ s.heap.objs.size := by
      intro q
      simp only [List.mem_cons, List.not_mem_nil, or_false] at hb
      obtain ⟨o1, g1, _⟩ := h1
      obtain ⟨o2, g2, _⟩ := h2
      rcases hb with e | e | e | e | e <;> rw [e] at q
      · exact nz q.symm
      · exact Nat.ne_of_lt (Heap.lt_size hTI) q
      · exact Nat.ne_of_lt (Heap.lt_size hTO) q
      · exact Nat.ne_of_lt (Heap.lt_size g1) q
      · exact Nat.ne_of_lt (Heap.lt_size g2) q
    rw [upd_ne nb]
    exact (hf b hb).1
  done := by
    intro X hP hw hK hc i pins s σ H E I hf st hg
    subst hP hw hK
    obtain ⟨hz, hTI, ⟨a, b, hTO⟩, h1, h2⟩ := st
    obtain ⟨xs, ys, q1, q2, e⟩ := hg
    obtain ⟨its1, rv1, p1, _⟩ := I.list q1
    obtain ⟨its2, rv2, p2, _⟩ := I.list q2
    have hl1 := rv1.length
    have hl2 := rv2.length
    have f4 : ∀ b ∈ [z, TO, i1, i2], FpOk X pins H b := fun b hb => hf b (by simp only [List.mem_cons, List.not_mem_nil, or_false] at hb ⊢; rcases hb with h | h | h | h <;> simp [h])
    refine wpAny_pyNext_zip_end (I.ok.hd hc) D hz hTI hTO h1 h2 p1.isList p2.isList (e.elim (fun e => .inl (by simp; (first | lia | omega))) fun e => .inr (by simp; (first | lia | omega))) fun h' kk => ⟨rfl, I.turnedL (t' := s.toks) (ch := [z, TO, i1, i2]) (fun b o hb e => kk b o (fun q => hb (by simp [q])) (fun q => hb (by simp [q])) (fun q => hb (by simp [q])) (fun q => hb (by simp [q])) e) f4⟩
  self := fun _ _ _ _ _ st h => wpAny_pyIter_zip st.1 h
section
variable {X : Cx}
noncomputable def iZip (K : PySem.W.Frag) (ta : TA) : TI := fun σ H R => ta σ H fun vs H1 => ∃ l1 l2, vs = [.ref l1, .ref l2] ∧ (∃ xs, SqL K H1 l1 xs) ∧ (∃ ys, SqL K H1 l2 ys) ∧ R (Itz K l1 l2) H1
theorem pi_zip {es : List Expr} {kx : Nat} {px : Pos} {a b : Expr} {ta : TA} {p pos : Pos} (hg : Gl X "zip") (hm : X.mg "zip" = none) (ha : PA X [a, b] ta) (hs : starEach [a, b] X.env = [(false, eval a X.env), (false, eval b X.env)] := by rfl) (hs2 : starEach [b] X.env = [(false, eval b X.env)] := by rfl) :
    PI X (.Tuple es kx px) (.Call (.Name "zip" p) [a, b] [] pos) (iZip X.K ta) := by
  intro pins s σ H R I h
  refine Call_ (ld_blt I hg hm bt_zip (PyProof.Rows.callWith_type1 (thn (ha pos pins s σ H _ I h) fun us s1 ⟨vs, H1, I1, r1, q1⟩ => ?_) (by rw [hs, hs2]) (by rw [hs2]; rfl)))
  obtain ⟨l1, l2, rfl, ⟨xs, g1⟩, ⟨ys, g2⟩, q⟩ := q1
  obtain ⟨u1, u2, rfl, e1, e2⟩ := vals2 r1
  obtain rfl : u1 = Value.ref l1 := e1
  obtain rfl : u2 = Value.ref l2 := e2
  obtain ⟨its1, rv1, p1, _⟩ := I1.list g1
  obtain ⟨its2, rv2, p2, _⟩ := I1.list g2
  have lt1 : l1 < s1.heap.objs.size := let ⟨_, e, _⟩ := p1.isList; Heap.lt_size e
  have lt2 : l2 < s1.heap.objs.size := let ⟨_, e, _⟩ := p2.isList; Heap.lt_size e
  refine call_zip_2 p1.isList p2.isList fun h' hz hTI hTO hi1 hi2 hsz hk => ?_
  refine wpAny_pyIter_zip hz ?_
  refine ⟨s1.heap.objs.size + 4, [s1.heap.objs.size + 4, s1.heap.objs.size + 2, s1.heap.objs.size + 3, s1.heap.objs.size, s1.heap.objs.size + 1], _, _, H1, rfl, I1.kept (t' := s1.toks) hk, turn_zip (zipApart_new lt1 lt2), ⟨hz, hTI, ⟨_, _, hTO⟩, hi1, hi2⟩, fun b hb => ?_, q⟩
  have le : s1.heap.objs.size ≤ b := by
    simp only [List.mem_cons, List.not_mem_nil, or_false] at hb
    rcases hb with e | e | e | e | e <;> rw [e] <;> first | exact Nat.le_refl _ | exact Nat.le_add_right _ _
  exact I1.fpOk le (I1.hok.fresh le)
/-- a list with its places -/
noncomputable def Ite (K : PySem.W.Frag) (l : Addr) : It :=
  ⟨fun i H => ∃ xs x, SqL K H l xs ∧ xs[i]? = some x,
   fun i H v H' => ∃ T x, v = .ref T ∧ H T = none ∧ H' = upd H T (.tup [.int i, x]) ∧ ∀ xs, SqL K H l xs → xs[i]? = some x,
   fun i H => ∃ xs, SqL K H l xs ∧ xs.length ≤ i⟩
noncomputable def enT (e it l : Addr) (i : Nat) (h : Heap) : Prop := (∃ old, IsEnum h e it i old) ∧ h.IsListIter it l i
theorem turn_enum {P : Program} {w : World} {K : PySem.W.Frag} {es : List Expr} {kx : Nat} {px : Pos} {e it l : Addr} (D : e ≠ it) : Turn P w K (.Tuple es kx px) (Ite K l) [e, it] e (enT e it l) where
  mem := by simp
  obj := by
    rintro i h ⟨⟨old, he⟩, h1⟩ b hb
    simp only [List.mem_cons, List.not_mem_nil, or_false] at hb
    rcases hb with rfl | rfl
    · exact ⟨_, he, fun v q => by cases (show Data.fields _ = Data.cell v from q)⟩
    · obtain ⟨o, e, c, d⟩ := h1; exact ⟨o, e, fun v q => by rw [d] at q; cases q⟩
  keep := fun i h h' ⟨⟨old, he⟩, h1⟩ k => ⟨⟨old, k e (by simp) _ he⟩, h1.at fun o q => k it (by simp) o q⟩
  item := by
    intro X hP hw hK hc i pins s σ H E I hf st hg
    subst hP hw hK
    obtain ⟨⟨old, he⟩, h1⟩ := st
    obtain ⟨xs, x, q1, e1⟩ := hg
    obtain ⟨its1, rv1, p1, _⟩ := I.list q1
    obtain ⟨u1, hu1, ru1⟩ := rv1.get e1
    refine wpAny_pyNext_enum_item he h1 p1.isList (x := u1) (by simpa using hu1) D fun h' eo a1 pT sz kk => ?_
    have I1 : Inv X pins σ H { s with heap := h', toks := s.toks + 1 } := I.turnedL (t' := s.toks + 1) (ch := [e, it]) (fun b o hb q => kk b o (fun z => hb (by simp [z])) (fun z => hb (by simp [z])) q) hf
    refine ⟨_, rfl, wpAny_letOwnedTupleGo_enum eo fun h2' e2 sb => ?_⟩
    replace sb : Heap.SameBut e h' h2' := sb
    have I2 : Inv X pins σ H { s with heap := h2', toks := s.toks + 1 } := I1.turnedL (s := { s with heap := h', toks := s.toks + 1 }) (h' := h2') (t' := s.toks + 1) (ch := [e]) (fun b o hb q => (sb.2 b (fun z => hb (by simp [z]))).trans q) fun b hb => hf b (by simp only [List.mem_singleton] at hb; simp [hb])
    have fT : FpOk X pins H s.heap.objs.size := I.fpOk (Nat.le_refl _) (I.hok.fresh (Nat.le_refl _))
    have ne : s.heap.objs.size ≠ e := Nat.ne_of_gt (Heap.lt_size he)
    have pT2 := sb.extBut _ _ ne pT
    have I3 : Inv X pins σ (upd H s.heap.objs.size (.tup [.int i, x])) { s with heap := h2', toks := s.toks + 1 } := I2.trackT (its := [.int i s.toks, u1]) fT ⟨_, pT2, rfl, _, rfl⟩ (.cons ⟨_, rfl⟩ (.cons ru1 .nil)) two_le
    refine ⟨.ref s.heap.objs.size, _, I3, rfl, ⟨_, x, rfl, fT.1, rfl, fun zs hzs => by rw [I.list_inj hzs q1]; exact e1⟩, ⟨⟨u1, ?_⟩, a1.extBut sb.extBut (Ne.symm D)⟩, fun b hb => ?_⟩
    · have ec : ((i + 1 : Nat) : Int) = (i : Int) + 1 := by push_cast; rfl
      rw [ec]
      exact e2
    · have nb : b ≠ s.heap.objs.size := by
        intro q
        simp only [List.mem_cons, List.not_mem_nil, or_false] at hb
        obtain ⟨o1, g1, _⟩ := h1
        rcases hb with z | z <;> rw [z] at q
        · exact ne q.symm
        · exact Nat.ne_of_lt (Heap.lt_size g1) q
      rw [upd_ne nb]
      exact (hf b hb).1
  done := by
    intro X hP hw hK hc i pins s σ H E I hf st hg
    subst hP hw hK
    obtain ⟨⟨old, he⟩, h1⟩ := st
    obtain ⟨xs, q1, e1⟩ := hg
    obtain ⟨its1, rv1, p1, _⟩ := I.list q1
    have hl1 := rv1.length
    obtain ⟨f0, f1, f2, f3, f4, f5⟩ := hf it (by simp)
    exact wpAny_pyNext_enum_end (I.ok.hd hc) he h1 p1.isList (by simp; (first | lia | omega)) fun h' eb => ⟨rfl, I.turned (t' := s.toks) (fun b o hb q => eb b o hb q) f0 f1 f3 f4 f5⟩
  self := fun _ _ _ _ _ st h => let ⟨⟨_, he⟩, _⟩ := st; wpAny_pyIter_enum he h
noncomputable def iEnum (K : PySem.W.Frag) (ta : TA) : TI := fun σ H R => ta σ H fun vs H1 => ∃ l, vs = [.ref l] ∧ (∃ xs, SqL K H1 l xs) ∧ R (Ite K l) H1
theorem pi_enum {es : List Expr} {kx : Nat} {px : Pos} {a : Expr} {ta : TA} {p pos : Pos} (hg : Gl X "enumerate") (hm : X.mg "enumerate" = none) (ha : PA X [a] ta) (hs : starEach [a] X.env = [(false, eval a X.env)] := by rfl) :
    PI X (.Tuple es kx px) (.Call (.Name "enumerate" p) [a] [] pos) (iEnum X.K ta) := by
  intro pins s σ H R I h
  refine Call_ (ld_blt I hg hm bt_enumerate (PyProof.Rows.callWith_type1 (thn (ha pos pins s σ H _ I h) fun us s1 ⟨vs, H1, I1, r1, q1⟩ => ?_) hs rfl))
  obtain ⟨l, rfl, ⟨xs, g1⟩, q⟩ := q1
  obtain ⟨u1, rfl, e1⟩ := vals1 r1
  obtain rfl : u1 = Value.ref l := e1
  obtain ⟨its1, rv1, p1, _⟩ := I1.list g1
  refine call_enumerate_list p1.isList fun h' he hi hsz hk => ?_
  refine wpAny_pyIter_enum he ?_
  refine ⟨s1.heap.objs.size + 1, [s1.heap.objs.size + 1, s1.heap.objs.size], _, _, H1, rfl, I1.kept (t' := s1.toks) hk, turn_enum (l := l) (Nat.succ_ne_self _), ⟨⟨_, he⟩, hi⟩, fun b hb => ?_, q⟩
  have le : s1.heap.objs.size ≤ b := by
    simp only [List.mem_cons, List.not_mem_nil, or_false] at hb
    rcases hb with e | e <;> rw [e] <;> first | exact Nat.le_refl _ | exact Nat.le_add_right _ _
  exact I1.fpOk le (I1.hok.fresh le)
end
theorem for_enum {K : PySem.W.Frag} {a : Addr} {xs : List V} {g : TG} {tb : TS} {D : Ends} {σ : St} {H : Hp} (Pv : Nat → St → Hp → Prop) (h0 : Pv 0 σ H) (hl : ∀ i σ H, i ≤ xs.length → Pv i σ H → SqL K H a xs)
    (hs : ∀ i x σ H T, xs[i]? = some x → H T = none → Pv i σ H → g (.ref T) σ (upd H T (.tup [.int i, x])) fun σ2 H2 => tb { D with nx := Pv (i + 1), ct := Pv (i + 1), bk := D.nx } σ2 H2) (hd : ∀ σ H, Pv xs.length σ H → D.nx σ H) :
    ∃ W : Nat → Nat → St → Hp → Prop, (∃ m, W 0 m σ H) ∧ ∀ i m σ H, W i m σ H →
      ((Ite K a).stop i H ∧ D.nx σ H) ∨ ((Ite K a).go i H ∧ ∃ N : St → Hp → Prop, (∀ σ' H', N σ' H' → ∃ m', m' < m ∧ W (i + 1) m' σ' H') ∧ ∀ x H', (Ite K a).yld i H x H' → g x σ H' fun σ2 H2 => tb { D with nx := N, ct := N, bk := D.nx } σ2 H2) := by
  refine ⟨fun i m σ H => m = xs.length - i ∧ i ≤ xs.length ∧ Pv i σ H, ⟨xs.length, by simp, Nat.zero_le _, h0⟩, ?_⟩
  rintro i m σ H ⟨rfl, hi, p⟩
  have q1 := hl i σ H hi p
  by_cases hlt : i < xs.length
  · refine .inr ⟨⟨xs, xs[i], q1, by simp [hlt]⟩, Pv (i + 1), fun σ' H' p' => ⟨xs.length - (i + 1), by (first | lia | omega), rfl, hlt, p'⟩, ?_⟩
    rintro v H' ⟨T, x, rfl, hT, rfl, e1⟩
    exact hs i x σ H T (e1 xs q1) hT p
  · have e : i = xs.length := by (first | lia | omega)
    subst e
    exact .inl ⟨⟨xs, q1, Nat.le_refl _⟩, hd σ H p⟩
end L2

namespace L2
open PySem PySem.Spec PyProof.Rows
section
variable {X : Cx}
noncomputable def tThawE (H₀ : Hp) (t : TE) : TE := fun σ H Q => t σ H fun v H' => ∃ a o kvs, H' a = some (.frz o (.dK kvs)) ∧ (∀ o u', H₀ a ≠ some (.frz o u')) ∧ Q v (upd H' a (.dK kvs))
theorem pe_thaw {e : Expr} {t : TE} (h : PE X e t) : PE X e (tThawE X.H₀ t) := by
  intro pins s σ H Q I q
  refine thn (h pins s σ H _ I q) fun u s1 ⟨v, H', I', r, a, o, kvs, ha, hn, q'⟩ => ?_
  exact ⟨v, _, I'.thaw ha hn, r, q'⟩
end
section
variable {X : Cx}
end
section
variable {X : Cx} {tg : Expr}
end
end L2

namespace Srt
open PySem PyProof.Rows
section
variable {prog : Program} {w : World} {A : Around} {E : Value → Shared → Prop} {s : Shared} {a₀ : Array Keyed}
end
section
variable {prog : Program} {w : World} {A : Around} {E : Value → Shared → Prop} {s : Shared}
end
section
variable {prog : Program} {w : World} {A : Around} {E : Value → Shared → Prop} {s : Shared} {T : String} {r d : Addr} {n : Nat} {P : Nat → Value → Prop} {OK : Heap → Prop}
end
end Srt

namespace L2
open PySem PySem.Spec PyProof.Rows
section
variable {X : Cx}
end
theorem for_listX {K : PySem.W.Frag} {a : Addr} {xs : List V} {g : TG} {tb : TSX} {R : XR} {D : Ends} {σ : St} {H : Hp} (Pv : Nat → St → Hp → Prop) (h0 : Pv 0 σ H) (hl : ∀ i σ H, i ≤ xs.length → Pv i σ H → SqL K H a xs)
    (hs : ∀ i x σ H, xs[i]? = some x → Pv i σ H → g x σ H fun σ2 H2 => tb { D with nx := Pv (i + 1), ct := Pv (i + 1), bk := D.nx } R σ2 H2) (hd : ∀ σ H, Pv xs.length σ H → D.nx σ H) :
    ∃ W : Nat → Nat → St → Hp → Prop, (∃ m, W 0 m σ H) ∧ ∀ i m σ H, W i m σ H →
      ((Itl K a).stop i H ∧ D.nx σ H) ∨ ((Itl K a).go i H ∧ ∃ N : St → Hp → Prop, (∀ σ' H', N σ' H' → ∃ m', m' < m ∧ W (i + 1) m' σ' H') ∧ ∀ x H', (Itl K a).yld i H x H' → g x σ H' fun σ2 H2 => tb { D with nx := N, ct := N, bk := D.nx } R σ2 H2) :=
  for_list (tb := fun D σ H => tb D R σ H) Pv h0 hl hs hd
end L2

namespace Sp
open PySem PySem.StrLaws PySem.Builtin PySem.Builtin.Str
end Sp

namespace L2
open PySem PySem.Spec PyProof.Rows PySem.Builtin PySem.Builtin.Str
section
variable {X : Cx}
theorem call_sum (hc : X.calm = true) : CallR X (.builtin "sum") (fun xs H Q => ∃ (p : Addr) (ns : List Int), xs = [.ref p] ∧ SqL X.K H p (ns.map V.int) ∧ Q (.int ns.sum) H) := by
  intro pins s σ H xs us Q I r h
  obtain ⟨p, ns, rfl, hp, q⟩ := h
  obtain ⟨u, rfl, ru⟩ := vals1 r
  cases ru
  obtain ⟨its, rv, pl, hz⟩ := I.list hp
  have hI := intsAre_of rv
  have hn := hI.numsOf
  obtain ⟨ys, e⟩ := hI.allInts.items
  have hl := pl.isList
  rw [e] at hl
  refine sum_intListG (I.ok.hd hc) hl fun h' tk t' hk => ?_
  have hs : preSum (numAt ys) ys.size = ns.sum := by
    rw [preSum_eq, List.take_of_length_le (by simp), ← nums_intItems, ← e]
    rw [show its.toArray.toList = its from rfl, hn]
  exact ⟨.int ns.sum, H, I.kept hk, ⟨_, by rw [hs]⟩, q⟩
end
end L2

namespace L2
open PySem PySem.Spec PyProof.Rows PySem.Builtin
section
variable {X : Cx}
theorem call_rng2 : CallR X (.type "range") (fun xs H Q => ∃ i j : Int, xs = [.int i, .int j] ∧ ∀ p, H p = none → Q (.ref p) (upd H p (.rng i j))) := by
  intro pins s σ H xs us Q I r h
  obtain ⟨i, j, rfl, q⟩ := h
  obtain ⟨u, u', rfl, ⟨t, rfl⟩, ⟨t', rfl⟩⟩ := vals2 r
  refine call_range_2 ⟨.ref s.heap.objs.size, _, I.laid (fun b o e => Heap.get?_push_of_some _ e) (Nat.le_refl _) ?_, rfl, q _ (I.hok.fresh (Nat.le_refl _))⟩
  exact ⟨_, _, _, Heap.get?_push_size s.heap rfl⟩
end
end L2

namespace L2
open PySem PySem.Spec PyProof.Rows
section
variable {X : Cx}
end
end L2

namespace L2
open PySem PySem.Spec PyProof.Rows
section
variable {X : Cx}
/-- list(range(i, j)) -/
theorem call_list_rng2 (hc : X.calm = true) : CallR X (.type "list") (fun xs H Q => ∃ (p : Addr) (i : Int) (n : Nat), xs = [.ref p] ∧ H p = some (.rng i (i + n)) ∧ n ≤ 1000 ∧ -1000 ≤ i ∧ i ≤ 1000 ∧ ∀ l, H l = none → Q (.ref l) (upd H l (.lst ((List.range n).map fun k : Nat => V.int (i + k))))) := by
  intro pins s σ H xs us Q I r h
  obtain ⟨p, i, n, rfl, hp, hn, i0, i1, q⟩ := h
  obtain ⟨u, rfl, ru⟩ := vals1 r
  cases ru
  have hs : sizeLine = 16777216 := sizeLine_eq
  obtain ⟨t, u, v, e⟩ := (show ObjOk X.prog X.w H s.heap p (.rng i (i + n)) from I.hok p _ hp)
  refine call_list_range (n := n) (I.ok.hd hc) e (small_one (by (first | lia | omega)) (by (first | lia | omega)) (by (first | lia | omega)) (by (first | lia | omega))) (by rw [rangeSize_one]; split <;> (first | lia | omega)) (by (first | lia | omega)) fun h' tk acc' c' kp e' it => ?_
  have rv : Vals ((List.range n).map fun k : Nat => V.int (i + k)) acc'.toList := by
    obtain ⟨h1, h2⟩ := it
    refine vals_of ?_ fun j x v hx hv => ?_
    · rw [List.length_map, List.length_range]; simpa using h1.symm
    · rw [List.getElem?_map] at hx
      obtain ⟨k, hk, rfl⟩ := Option.map_eq_some_iff.mp hx
      have hk' : k = j := by
        have := List.getElem?_eq_some_iff.mp hk
        obtain ⟨_, e⟩ := this
        simpa using e.symm
      obtain ⟨t, e⟩ := h2 j v (by simpa using hv)
      exact ⟨t, by rw [e, hk']; congr 1; (first | lia | omega)⟩
  refine ⟨.ref s.heap.objs.size, _, I.laid kp (Nat.le_refl _) (show ObjOk X.prog X.w _ h' _ (.lst ((List.range n).map fun k : Nat => V.int (i + k))) from ⟨by rw [List.length_map, List.length_range]; (first | lia | omega), acc'.toList, c', rv, by simpa using e'⟩), rfl, q _ (I.hok.fresh (Nat.le_refl _))⟩
/-- list(d) -/
theorem call_listD (hc : X.calm = true) : CallR X (.type "list") (fun xs H Q => ∃ (d : Addr) (kvs : List (Key × V)), xs = [.ref d] ∧ H d = some (.dK kvs) ∧ kvs.length ≤ 1000 ∧ ∀ l, H l = none → Q (.ref l) (upd H l (.lst (kvs.map fun kv => kV kv.1)))) := by
  intro pins s σ H xs us Q I r h
  obtain ⟨d, kvs, rfl, hD, hn, q⟩ := h
  obtain ⟨u, rfl, ru⟩ := vals1 r
  cases ru
  have hs : sizeLine = 16777216 := sizeLine_eq
  obtain ⟨_, hd, vs, rel, dd⟩ := dk_of I.hok hD
  obtain ⟨ep, dat⟩ := dd.dictAt
  have hlen := rel.length
  refine PySem.W.kdl_call (PySem.W.kdl_dict (knd := mixKind X.prog X.w) (kvs := vs) (ep := ep) hd) (I.ok.hd hc) dat (by (first | lia | omega)) fun h' tk acc' c' k1 k2 k3 => ?_
  obtain ⟨sz, it⟩ := k3
  have rv : Vals (kvs.map fun kv => kV kv.1) acc'.toList := by
    refine vals_of ?_ fun j x v hx hv => ?_
    · have al : acc'.toList.length = acc'.size := Array.length_toList
      rw [List.length_map]; (first | lia | omega)
    · rw [List.getElem?_map] at hx
      obtain ⟨kv, hk, rfl⟩ := Option.map_eq_some_iff.mp hx
      have hv' : acc'[j]? = some v := by rw [← Array.getElem?_toList]; exact hv
      obtain ⟨k, y, e1, e2⟩ := it j v hv'
      have e3 : (vs.map (·.1))[j]? = some k := by rw [List.getElem?_map, e1]; rfl
      rw [← rel.keys, List.getElem?_map, hk] at e3
      obtain rfl : kv.1 = k := Option.some.inj e3
      exact kV_rel e2
  refine ⟨.ref s.heap.objs.size, _, I.laid k1 (Nat.le_refl _) (show ObjOk X.prog X.w _ h' _ (.lst (kvs.map fun kv => kV kv.1)) from ⟨by rw [List.length_map]; (first | lia | omega), acc'.toList, c', rv, by simpa using k2⟩), rfl, q _ (I.hok.fresh (Nat.le_refl _))⟩
end
/-- the keys of a dict in a comprehension -/
theorem comp_dict0 {a : Addr} {o : Obj} {kvs : List (Key × V)} {caps : List (Str × Nat)} {te : TE} {σ : St} {H : Hp} {QE : List V → Hp → Prop} (Pv : Nat → List V → Hp → Prop) (h0 : Pv 0 [] H)
    (hl : ∀ i zs H, i ≤ kvs.length → Pv i zs H → H a = some (.frz o (.dK kvs)))
    (hs : ∀ i k v zs H, kvs[i]? = some (k, v) → Pv i zs H → te (capS caps σ (some (kV k))) H (fun z H3 => zs.length < sizeLine ∧ Pv (i + 1) (zs ++ [z]) H3))
    (hd : ∀ zs H, Pv kvs.length zs H → QE zs H) : ∃ W : Nat → Nat → List V → Hp → Prop, (∃ m, W 0 m [] H) ∧ CompW caps tYes te σ (Itd a o kvs) QE W := by
  refine ⟨fun i m zs H => m = kvs.length - i ∧ i ≤ kvs.length ∧ Pv i zs H, ⟨kvs.length, by simp, Nat.zero_le _, h0⟩, ?_⟩
  rintro i m zs H ⟨rfl, hi, p⟩
  have q1 := hl i zs H hi p
  by_cases hlt : i < kvs.length
  · refine .inr ⟨⟨q1, hlt⟩, Pv (i + 1), fun zs' H' p' => ⟨kvs.length - (i + 1), by (first | lia | omega), rfl, hlt, p'⟩, ?_⟩
    rintro x H' ⟨rfl, k, v, hk, rfl⟩
    unfold tYes
    dsimp only
    rw [if_pos rfl]
    exact hs i k v zs _ hk p
  · have e : i = kvs.length := by (first | lia | omega)
    subst e
    exact .inl ⟨⟨q1, Nat.le_refl _⟩, hd zs H p⟩
theorem comp_rangeS0 {caps : List (Str × Nat)} {te : TE} {σ : St} {H : Hp} {lo st : Int} {n : Nat} {QE : List V → Hp → Prop} (Pv : Nat → List V → Hp → Prop) (h0 : Pv 0 [] H)
    (hs : ∀ i ys H, i < n → Pv i ys H → te (capS caps σ (some (.int (lo + i * st)))) H (fun y H3 => ys.length < sizeLine ∧ Pv (i + 1) (ys ++ [y]) H3))
    (hd : ∀ ys H, Pv n ys H → QE ys H) : ∃ W : Nat → Nat → List V → Hp → Prop, (∃ m, W 0 m [] H) ∧ CompW caps tYes te σ (Itrs lo st n) QE W := by
  refine ⟨fun i m ys H => m = n - i ∧ i ≤ n ∧ Pv i ys H, ⟨n, by simp, Nat.zero_le _, h0⟩, ?_⟩
  rintro i m ys H ⟨rfl, hi, p⟩
  by_cases hlt : i < n
  · refine .inr ⟨hlt, Pv (i + 1), fun ys' H' p' => ⟨n - (i + 1), by (first | lia | omega), rfl, hlt, p'⟩, fun x H' y => ?_⟩
    obtain ⟨e, y⟩ := y
    subst e y
    unfold tYes
    dsimp only
    rw [if_pos rfl]
    exact hs i ys _ hlt p
  · have e : i = n := by (first | lia | omega)
    subst e
    exact .inl ⟨Nat.le_refl _, hd ys H p⟩
theorem for_zip {K : PySem.W.Frag} {a b : Addr} {xs ys : List V} {g : TG} {tb : TS} {D : Ends} {σ : St} {H : Hp} (Pv : Nat → St → Hp → Prop) (h0 : Pv 0 σ H) (he : xs.length = ys.length)
    (hl : ∀ i σ H, i ≤ xs.length → Pv i σ H → SqL K H a xs ∧ SqL K H b ys)
    (hs : ∀ i x y σ H T, xs[i]? = some x → ys[i]? = some y → H T = none → Pv i σ H → g (.ref T) σ (upd H T (.tup [x, y])) fun σ2 H2 => tb { D with nx := Pv (i + 1), ct := Pv (i + 1), bk := D.nx } σ2 H2)
    (hd : ∀ σ H, Pv xs.length σ H → D.nx σ H) :
    ∃ W : Nat → Nat → St → Hp → Prop, (∃ m, W 0 m σ H) ∧ ∀ i m σ H, W i m σ H →
      ((Itz K a b).stop i H ∧ D.nx σ H) ∨ ((Itz K a b).go i H ∧ ∃ N : St → Hp → Prop, (∀ σ' H', N σ' H' → ∃ m', m' < m ∧ W (i + 1) m' σ' H') ∧ ∀ x H', (Itz K a b).yld i H x H' → g x σ H' fun σ2 H2 => tb { D with nx := N, ct := N, bk := D.nx } σ2 H2) := by
  refine ⟨fun i m σ H => m = xs.length - i ∧ i ≤ xs.length ∧ Pv i σ H, ⟨xs.length, by simp, Nat.zero_le _, h0⟩, ?_⟩
  rintro i m σ H ⟨rfl, hi, p⟩
  obtain ⟨q1, q2⟩ := hl i σ H hi p
  by_cases hlt : i < xs.length
  · have hlt' : i < ys.length := by (first | lia | omega)
    refine .inr ⟨⟨xs, ys, xs[i], ys[i], q1, q2, by simp [hlt], by simp [hlt']⟩, Pv (i + 1), fun σ' H' p' => ⟨xs.length - (i + 1), by (first | lia | omega), rfl, hlt, p'⟩, ?_⟩
    rintro v H' ⟨T, x, y, rfl, hT, rfl, e1, e2⟩
    exact hs i x y σ H T (e1 _ q1) (e2 _ q2) hT p
  · have e : i = xs.length := by (first | lia | omega)
    subst e
    exact .inl ⟨⟨xs, ys, q1, q2, .inl (Nat.le_refl _)⟩, hd σ H p⟩
end L2

namespace L2
open PySem PySem.Spec PyProof.Rows
/-- != of two tuples of flat items -/
noncomputable def rNeT (K : PySem.W.Frag) : R2 := fun x y H Q => ∃ p q xs ys, x = .ref p ∧ y = .ref q ∧ SqT K H p xs ∧ SqT K H q ys ∧ xs.all flatV = true ∧ ys.all flatV = true ∧ Q (.bl (!eqLV xs ys)) H
section
variable {X : Cx}
theorem op_neT (hu : X.A.units < cLine) : OpR X (compareOp .NotEq) (rNeT X.K) := by
  intro pins s σ H x y v u Q I rx ry h
  obtain ⟨p, q, xs, ys, rfl, rfl, hx, hy, fx, fy, hq⟩ := h
  cases rx
  cases ry
  obtain ⟨its, r, pl, hz⟩ := I.tuple hx
  obtain ⟨its2, r2, pl2, hz2⟩ := I.tuple hy
  have hl := r.length
  have hl2 := r2.length
  refine PySem.SeqAt.RcNeAt.tuples (e := fun j => eqV (xs.getD j .non) (ys.getD j .non)) pl pl2 hu (fun j h1 h2 => ?_) _ _ _ _ ⟨.bl (!eqLV xs ys), H, I, ?_, hq⟩
  · rw [List.size_toArray] at h1 h2
    have j1 : j < xs.length := by (first | lia | omega)
    have j2 : j < ys.length := by (first | lia | omega)
    obtain ⟨a, ea, ra⟩ := r.get (i := j) (x := xs[j]) (by simp [j1])
    obtain ⟨b, eb, rb⟩ := r2.get (i := j) (x := ys[j]) (by simp [j2])
    obtain ⟨_, ea'⟩ := List.getElem?_eq_some_iff.mp ea
    obtain ⟨_, eb'⟩ := List.getElem?_eq_some_iff.mp eb
    have g1 : xs.getD j .non = xs[j] := by simp [j1]
    have g2 : ys.getD j .non = ys[j] := by simp [j2]
    show SeqAt.EqAt _ _ its.toArray[j] its2.toArray[j] (eqV (xs.getD j .non) (ys.getD j .non))
    have a1 : its.toArray[j] = a := by simpa using ea'
    have a2 : its2.toArray[j] = b := by simpa using eb'
    rw [g1, g2, a1, a2]
    exact eqAt_V ra rb (List.all_eq_true.mp fx _ (List.getElem_mem j1)) (List.all_eq_true.mp fy _ (List.getElem_mem j2))
  · show Value.bool _ = Value.bool _
    rw [List.size_toArray, List.size_toArray, ← hl, ← hl2, eqLV_minT]
end
end L2

namespace L2
open PySem PySem.Spec PyProof.Rows
theorem entry_unchain : entryFor table "proto.unchain" = some Builtin.«proto.unchain» := entryFor_of_fast (by kernel_rfl)
section
variable {prog : Program} {w : World} {A : Around} {E : Value → Shared → Prop} {s : Shared}
/-- the handled one has no context: nothing is cut -/
theorem unchain_at {h e : Addr} {oh : Obj} {vh : Array Value} {Q : Value → Shared → Prop} (hoh : s.heap.get? h = some oh) (hdh : oh.data = .fields vh) (hc : vh[2]? = some .none) (q : Q .none s) :
    wpAny (model prog w) A (runValue (.builtin "proto.unchain" ⟨[.ref e, .ref h, .ref h, .bool false], []⟩)) Q E s := by
  refine wpAny_runValue (codeAny_builtin entry_unchain ?_)
  unfold Builtin.«proto.unchain»
  refine wpAny_bind (wpAny_field hoh hdh hc ?_)
  rw [if_pos (show (Value.none == Value.none) = true from rfl)]
  exact wpAny_pure q
theorem raise_at {α : Type} {h e : Addr} {oh oe : Obj} {vh vs : Array Value} {Q : α → Shared → Prop} (hh : A.handled = some (.ref h)) (ne : h ≠ e) (hoh : s.heap.get? h = some oh) (hdh : oh.data = .fields vh) (hc : vh[2]? = some .none)
    (he : s.heap.get? e = some oe) (hd : oe.data = .fields vs) (h2 : 2 < vs.size) (q : E (.ref e) { s with heap := s.heap.update e (Obj.mapFields (·.setIfInBounds 2 (.ref h))) }) : wpAny (model prog w) A (raiseNew (.ref e) : Sem α) Q E s := by
  unfold raiseNew
  refine wpAny_bind (wpAny_handled ?_)
  rw [hh]
  dsimp only
  rw [if_pos (show (Value.ref h != Value.ref e) = true from by simpa using ne)]
  refine wpAny_bind (wpAny_holding (unchain_at hoh hdh hc ?_))
  unfold updateField
  refine wpAny_bind (wpAny_bind (wpAny_load he ?_))
  rw [hd]
  dsimp only
  rw [if_pos h2]
  exact wpAny_update he (wpAny_throw q)
/-- StopIteration, raised while the exception at hx is handled: all that was there stays -/
theorem raise_stop {α : Type} {hx : Addr} {oh : Obj} {vh : Array Value} {Q : α → Shared → Prop} (hh : A.handled = some (.ref hx)) (hoh : s.heap.get? hx = some oh) (hdh : oh.data = .fields vh) (hc : vh[2]? = some .none)
    (q : ∀ h' e, (∀ b o, s.heap.get? b = some o → h'.get? b = some o) → (∃ o, h'.get? e = some o ∧ o.cls = .type "StopIteration") → E (.ref e) { s with heap := h' }) :
    wpAny (model prog w) A (newExc (.type "StopIteration") [] >>= fun x => (raiseNew x : Sem α)) Q E s := by
  refine wpAny_bind ?_
  unfold newExc newTuple
  refine wpAny_bind (wpAny_newObj_type (?_ : wpAny _ _ _ _ _ _) (by size_fits))
  refine wpAny_bind (m := firstArgMember _ _) (wpAny_of_eq (a := Value.none) (by first | rfl | (unfold firstArgMember; rfl)) ?_)
  refine wpAny_newObj_type ?_ (by size_fits)
  have k1 : ∀ b o, s.heap.get? b = some o → (s.heap.push { cls := Value.type "tuple", dict := none, data := Data.seq ([] : List Value).toArray }).get? b = some o := fun b o e => Heap.get?_push_of_some _ e
  have lt := Heap.lt_size hoh
  refine raise_at (e := (s.heap.push _).objs.size) hh (by rw [Heap.size_push]; exact Nat.ne_of_lt (Nat.lt_succ_of_lt lt)) (Heap.get?_push_of_some _ (Heap.get?_push_of_some _ hoh)) hdh hc (Heap.get?_push_size _ rfl) rfl (by simp [ownMembersOf]) (q _ _ (fun b o e => ?_) ?_)
  · have lb := Heap.lt_size e
    rw [Heap.get?_update_other _ _ (by rw [Heap.size_push]; exact Nat.ne_of_gt (Nat.lt_succ_of_lt lb))]
    exact Heap.get?_push_of_some _ (Heap.get?_push_of_some _ e)
  · exact ⟨_, Heap.get?_update_self _ (Heap.get?_push_size _ rfl) (Obj.isFreed_of_fields (Obj.data_mapFields rfl _)), Obj.cls_mapFields _ _⟩
/-- a list's iterator is at its end -/
theorem list_end_at {it l hx : Addr} {i : Nat} {items : Array Value} {oh : Obj} {vh : Array Value} {Q : Option Value → Shared → Prop} (hh : A.handled = some (.ref hx)) (hoh : s.heap.get? hx = some oh) (hdh : oh.data = .fields vh) (hc : vh[2]? = some .none) (nx : it ≠ hx)
    (hit : s.heap.IsListIter it l i) (hl : s.heap.IsList l items) (hn : items[i]? = none) (q : ∀ h', Heap.ExtBut it s.heap h' → Q none { s with heap := h' }) : wpAny (model prog w) A (pyNext (.ref it)) Q E s := by
  obtain ⟨ob, gb, cb, db⟩ := id hit
  obtain ⟨ol, gl, cl, nl, dl⟩ := hl
  unfold pyNext
  refine wpAny_bind (wpAny_attempt (wpAny_callSpecial?_slot (name := Str.ofString "__next__") hit.typeIs slot_listiter_next (wpAny_call_entry slot_listiter_next hit.typeIs entry_listiter_next (?_ : wpAny _ _ _ _ _ _) (args_listiter_next _))))
  refine (wpAny_bind (wpAny_field gb db (x := .ref l) rfl ?_) : wpAny _ _ (field (.ref it) 0 >>= _) _ _ s)
  rw [if_neg (show ¬ ((Value.ref l == Value.none) = true) from Bool.false_ne_true)]
  refine (wpAny_bind (wpAny_field gb db (x := .int i 0) rfl ?_) : wpAny _ _ (field (.ref it) 1 >>= _) _ _ s)
  refine (wpAny_bind (wpAny_seqItems gl dl ?_) : wpAny _ _ (seqItems? (.ref l) >>= _) _ _ s)
  simp only [Int.toNat_natCast, hn]
  refine wpAny_bind (wpAny_rule (wpAny_bind (wpAny_setField gb db (by simp) ?_)))
  have sb : Heap.SameBut it s.heap (s.heap.update it (Obj.mapFields (·.setIfInBounds 0 Value.none))) := Heap.SameBut.update ..
  refine raise_stop (A := A.in1) hh ((sb.2 hx (Ne.symm nx)).trans hoh) hdh hc fun h' e keep zq1_3 => ?_
  obtain ⟨o, ho, co⟩ := zq1_3
  refine wpAny_bind (wpAny_isInstance (T := "StopIteration") (b := true) ⟨o, ho, co⟩ isSubtype_stop ?_)
  exact wpAny_pure (q h' fun b u nb eb => keep b u ((sb.2 b nb).trans eb))
/-- a range's iterator is at its end -/
theorem range_end_at {it hx : Addr} {x left step : Int} {oh : Obj} {vh : Array Value} {Q : Option Value → Shared → Prop} (hh : A.handled = some (.ref hx)) (hoh : s.heap.get? hx = some oh) (hdh : oh.data = .fields vh) (hc : vh[2]? = some .none)
    (hit : IsRangeIter s.heap it x left step) (hn : left ≤ 0) (q : ∀ h', Heap.ExtBut it s.heap h' → Q none { s with heap := h' }) : wpAny (model prog w) A (pyNext (.ref it)) Q E s := by
  have ty : s.TypeIs (.ref it) "range_iterator" := ⟨_, hit, rfl⟩
  unfold pyNext
  refine wpAny_bind (wpAny_attempt (wpAny_callSpecial?_slot (name := Str.ofString "__next__") ty F.slot_range_iterator_next (wpAny_call_entry F.slot_range_iterator_next ty F.entry_range_iterator_next (?_ : wpAny _ _ _ _ _ _) (F.args_range_iterator_next_1 _))))
  refine (wpAny_bind (wpAny_field hit rfl (x := rawInt x) rfl ?_) : wpAny _ _ (field (.ref it) 0 >>= _) _ _ s)
  refine (wpAny_bind (wpAny_field hit rfl (x := rawInt left) rfl ?_) : wpAny _ _ (field (.ref it) 1 >>= _) _ _ s)
  refine (wpAny_bind (wpAny_field hit rfl (x := rawInt step) rfl ?_) : wpAny _ _ (field (.ref it) 2 >>= _) _ _ s)
  refine (?_ : wpAny _ _ (if left ≤ 0 then _ else _) _ _ s)
  rw [if_pos hn]
  refine wpAny_bind (wpAny_rule ?_)
  refine wpAny_bind ?_
  refine raise_stop (A := A.in1) hh hoh hdh hc fun h' e keep zq2_3 => ?_
  obtain ⟨o, ho, co⟩ := zq2_3
  refine wpAny_bind (wpAny_isInstance (T := "StopIteration") (b := true) ⟨o, ho, co⟩ isSubtype_stop ?_)
  exact wpAny_pure (q h' fun b u nb eb => keep b u eb)
end
end L2

namespace L2
open PySem PySem.Spec PyProof.Rows
/-- an exception that is handled: it has no context -/
noncomputable def xq (e : Addr) (cls : Value) : HO := .ext fun h => ∃ o vs, h.get? e = some o ∧ o.cls = cls ∧ o.data = .fields vs ∧ vs[2]? = some .none
theorem xq_ok {P : Program} {w : World} {H : Hp} {h : Heap} {e : Addr} {cls : Value} (x : ∃ o vs, h.get? e = some o ∧ o.cls = cls ∧ o.data = .fields vs ∧ vs[2]? = some .none) : ObjOk P w H h e (xq e cls) :=
  ⟨x, let ⟨o, _, e1, _⟩ := x; ⟨o, e1⟩, fun h1 h2 zq1_2 k => by obtain ⟨o, vs, e1, e2⟩ := zq1_2; exact ⟨o, vs, k o e1, e2⟩⟩
theorem Inv.xq_at {X : Cx} {pins : List (Addr × Obj)} {σ : St} {H : Hp} {s : Shared} {e : Addr} {cls : Value} (I : Inv X pins σ H s) (h : H e = some (xq e cls)) : ∃ o vs, s.heap.get? e = some o ∧ o.cls = cls ∧ o.data = .fields vs ∧ vs[2]? = some .none := by
  obtain ⟨p, _⟩ := (show ObjOk X.prog X.w H s.heap e (xq e cls) from I.hok e _ h)
  exact p
/-- an iterator's turns while the exception at hx is handled -/
structure TurnH (hx : Addr) (xc : Value) (P : Program) (w : World) (K : PySem.W.Frag) (tg : Expr) (J : It) (fp : List Addr) (it : Addr) (tn : Nat → Heap → Prop) : Prop where
  mem : it ∈ fp
  obj : ∀ i h, tn i h → ∀ b ∈ fp, ∃ o, h.get? b = some o ∧ ∀ v, o.data ≠ .cell v
  keep : ∀ i h h', tn i h → (∀ b ∈ fp, ∀ o, h.get? b = some o → h'.get? b = some o) → tn i h'
  item : ∀ (X : Cx), X.prog = P → X.w = w → X.K = K → X.A.handled = some (.ref hx) → ∀ (i : Nat) (pins : List (Addr × Obj)) (s : Shared) (σ : St) (H : Hp) (E : Value → Shared → Prop), H hx = some (xq hx xc) → Inv X pins σ H s → (∀ b ∈ fp, FpOk X pins H b) → tn i s.heap → J.go i H →
    wpAny (model P w) X.A (pyNext (.ref it)) (fun r s1 => ∃ u, r = some u ∧
      wpAny (model P w) X.A (letOwnedTupleGo tg (.ref it) u) (fun _ s2 => ∃ x H', Inv X pins σ H' s2 ∧ RelV x u ∧ J.yld i H x H' ∧ tn (i + 1) s2.heap ∧ ∀ b ∈ fp, H' b = none) E s1) E s
  done : ∀ (X : Cx), X.prog = P → X.w = w → X.K = K → X.A.handled = some (.ref hx) → ∀ (i : Nat) (pins : List (Addr × Obj)) (s : Shared) (σ : St) (H : Hp) (E : Value → Shared → Prop), H hx = some (xq hx xc) → Inv X pins σ H s → (∀ b ∈ fp, FpOk X pins H b) → tn i s.heap → J.stop i H →
    wpAny (model P w) X.A (pyNext (.ref it)) (fun r s1 => r = none ∧ Inv X pins σ H s1) E s
  self : ∀ (A : Around) (i : Nat) (s : Shared) (Q : Value → Shared → Prop) (E : Value → Shared → Prop), tn i s.heap → Q (.ref it) s → wpAny (model P w) A (pyIter (.ref it)) Q E s
theorem turn_listH {hx : Addr} {xc : Value} {P : Program} {w : World} {K : PySem.W.Frag} {tg : Expr} (a it : Addr) : TurnH hx xc P w K tg (Itl K a) [it] it (fun i h => h.IsListIter it a i) where
  mem := (turn_list (P := P) (w := w) (K := K) (tg := tg) a it).mem
  obj := (turn_list (P := P) (w := w) (K := K) (tg := tg) a it).obj
  keep := (turn_list (P := P) (w := w) (K := K) (tg := tg) a it).keep
  item := by
    intro X hP hw hK hA i pins s σ H E hX I hf st hg
    subst hP hw hK
    obtain ⟨xs, x, hq, hi⟩ := hg
    obtain ⟨its, rv, pl, hz⟩ := I.list hq
    obtain ⟨u, hu, ru⟩ := rv.get hi
    obtain ⟨g0, g1, g2, g3, g4, g5⟩ := hf it (by simp)
    refine wpAny_pyNext_list_item st pl.isList (x := u) (by simpa using hu) fun hN stN sbN => ?_
    have IN : Inv X pins σ H { s with heap := hN } := I.turned (t' := s.toks) (fun b o nb e => (sbN.2 b nb).trans e) g0 g1 g3 g4 g5
    obtain ⟨o, eo, co, od⟩ := id stN
    exact ⟨u, rfl, go_of (s := { s with heap := hN }) eo co od (by decide) ⟨x, H, IN, ru, ⟨rfl, fun ys hy => by rw [I.list_inj hy hq]; exact hi⟩, stN, fun b hb => (hf b hb).1⟩⟩
  done := by
    intro X hP hw hK hA i pins s σ H E hX I hf st hg
    subst hP hw hK
    obtain ⟨xs, hq, hi⟩ := hg
    obtain ⟨its, rv, pl, hz⟩ := I.list hq
    obtain ⟨g0, g1, g2, g3, g4, g5⟩ := hf it (by simp)
    obtain ⟨o, vs, eo, _, od, oc⟩ := I.xq_at hX
    have hl := rv.length
    exact list_end_at hA eo od oc (fun e => by rw [e, hX] at g0; cases g0) st pl.isList (by simp; (first | lia | omega)) fun hN eN => ⟨rfl, I.turned (t' := s.toks) (fun b o nb e => eN b o nb e) g0 g1 g3 g4 g5⟩
  self := (turn_list (P := P) (w := w) (K := K) (tg := tg) a it).self
theorem turn_rangeH {hx : Addr} {xc : Value} {P : Program} {w : World} {K : PySem.W.Frag} {tg : Expr} (it : Addr) (lo : Int) (n : Nat) : TurnH hx xc P w K tg (Itr lo n) [it] it (fun i h => IsRangeIter h it (lo + (i : Nat) * 1) ((n : Int) - (i : Nat)) 1) where
  mem := (turn_range (P := P) (w := w) (K := K) (tg := tg) it lo n).mem
  obj := (turn_range (P := P) (w := w) (K := K) (tg := tg) it lo n).obj
  keep := (turn_range (P := P) (w := w) (K := K) (tg := tg) it lo n).keep
  item := by
    intro X hP hw hK hA i pins s σ H E hX I hf st hg
    subst hP hw hK
    have hg' : i < n := hg
    obtain ⟨g0, g1, g2, g3, g4, g5⟩ := hf it (by simp)
    refine wpAny_pyNext_range_item st (by (first | lia | omega)) fun hN stN sbN => ?_
    have IN : Inv X pins σ H { s with heap := hN, toks := s.toks + 1 } := I.turned (t' := s.toks + 1) (fun b o nb e => (sbN.2 b nb).trans e) g0 g1 g3 g4 g5
    have e1 : lo + ((i + 1 : Nat) : Int) * 1 = lo + (i : Int) * 1 + 1 := by (first | lia | omega)
    have e2 : (n : Int) - ((i + 1 : Nat) : Int) = (n : Int) - (i : Int) - 1 := by (first | lia | omega)
    have st2 : IsRangeIter hN it (lo + ((i + 1 : Nat) : Int) * 1) ((n : Int) - ((i + 1 : Nat) : Int)) 1 := by rw [e1, e2]; exact stN
    refine ⟨_, rfl, go_of (s := { s with heap := hN, toks := s.toks + 1 }) (n := "range_iterator") st2 rfl rfl (by decide) ⟨.int (lo + i), H, IN, ⟨s.toks, ?_⟩, ⟨rfl, rfl⟩, st2, fun b hb => (hf b hb).1⟩⟩
    rw [Int.mul_one]
  done := by
    intro X hP hw hK hA i pins s σ H E hX I hf st hg
    subst hP hw hK
    have hg' : n ≤ i := hg
    obtain ⟨g0, g1, g2, g3, g4, g5⟩ := hf it (by simp)
    obtain ⟨o, vs, eo, _, od, oc⟩ := I.xq_at hX
    exact range_end_at hA eo od oc st (by (first | lia | omega)) fun hN eN => ⟨rfl, I.turned (t' := s.toks) (fun b o nb e => eN b o nb e) g0 g1 g3 g4 g5⟩
  self := (turn_range (P := P) (w := w) (K := K) (tg := tg) it lo n).self
noncomputable def PIEH (hx : Addr) (xc : Value) (X : Cx) (pins : List (Addr × Obj)) (σ : St) (tg : Expr) (R : It → Hp → Prop) (itv : Value) (s2 : Shared) : Prop :=
  ∃ (it : Addr) (fp : List Addr) (tn : Nat → Heap → Prop) (J : It) (H' : Hp), itv = .ref it ∧ Inv X pins σ H' s2 ∧ TurnH hx xc X.prog X.w X.K tg J fp it tn ∧ tn 0 s2.heap ∧ (∀ b ∈ fp, FpOk X pins H' b) ∧ R J H'
noncomputable def PIH (hx : Addr) (xc : Value) (X : Cx) (tg iter : Expr) (wi : TI) : Prop :=
  ∀ (pins : List (Addr × Obj)) (s : Shared) (σ : St) (H : Hp) (R : It → Hp → Prop), Inv X pins σ H s → wi σ H R →
    wpAny (model X.prog X.w) X.A (eval iter X.env) (fun v s1 => wpAny (model X.prog X.w) X.A (pyIter v) (PIEH hx xc X pins σ tg R) X.xe s1) X.xe s
theorem pi_listH {hx : Addr} {xc : Value} {X : Cx} {tg l : Expr} {tl : TE} (hl : PE X l tl) : PIH hx xc X tg l (iList X.K tl) := by
  intro pins s σ H R I h
  refine thn (hl pins s σ H _ I h) fun v s1 zq2_2 => ?_
  obtain ⟨x, H1, I1, r1, a, e, ⟨xs, hq⟩, q⟩ := zq2_2
  subst e
  cases r1
  obtain ⟨its, rv, pl, hz⟩ := I1.list hq
  refine wpAny_pyIter_list pl.isList ⟨s1.heap.objs.size, [s1.heap.objs.size], _, _, H1, rfl, I1.kept (t' := s1.toks) fun b o e => Heap.get?_push_of_some _ e, turn_listH a _, ⟨_, Heap.get?_push_size _ rfl, rfl, rfl⟩, fun b hb => ?_, q⟩
  obtain rfl : b = s1.heap.objs.size := by simpa using hb
  exact I1.fpOk (Nat.le_refl _) (I1.hok.fresh (Nat.le_refl _))
noncomputable def tCompH (hx : Addr) (xc : Value) (caps : List (Str × Nat)) (wi : TI) (tt : TT) (te : TE) : TE := fun σ H Q => wi σ H fun J H1 =>
  ∃ W : Nat → Nat → List V → Hp → Prop, (∃ m, W 0 m [] H1) ∧ (∀ i m ys H, W i m ys H → H hx = some (xq hx xc)) ∧ CompW caps tt te σ J (fun ys H2 => ∀ p, H2 p = none → Q (.ref p) (upd H2 p (.lst ys))) W
section
variable {X : Cx} {scope : Scope} {cl : List (Str × Addr)} {t : Str} {caps : List (Str × Nat)} {elt iter : Expr} {ifs : List Expr} {px pos : Pos} {wi : TI} {tt : TT} {te : TE}
theorem comp_blockH {hx : Addr} {xc : Value} {pins : List (Addr × Obj)} {σ : St} {H : Hp} {s : Shared} {J : It} {fp : List Addr} {it : Addr} {tn : Nat → Heap → Prop} {W : Nat → Nat → List V → Hp → Prop} {QE : List V → Hp → Prop} {E : Value → Shared → Prop} {RR : Value → Addr → Result → Shared → Prop} {m0 : Nat}
    (K : CapOk X scope cl t caps) (hA : X.A.handled = some (.ref hx))
    (ht : ∀ C s₀ H₀ ex, PTs (cxC X (capN t caps) scope cl C s₀ H₀ ex) ifs tt) (he : ∀ C s₀ H₀ ex, PE (cxC X (capN t caps) scope cl C s₀ H₀ ex) elt te)
    (I : Inv X pins σ H s) (T : TurnH hx xc X.prog X.w X.K (.Name t px) J fp it tn) (st : tn 0 s.heap) (hf : ∀ b ∈ fp, FpOk X pins H b) (w0 : W 0 m0 [] H) (hW : CompW caps tt te σ J QE W) (hWx : ∀ i m ys H, W i m ys H → H hx = some (xq hx xc))
    (fin : ∀ D C ys H' s' m, H' D = none → Inv X pins σ (upd H' D (.lst ys)) s' → s'.heap.Ns C m → FpOk X pins (upd H' D (.lst ys)) C → QE ys H' → RR (.ref D) C (.ok .next) s') :
    wpAny (model X.prog X.w) X.A (newList []) (fun acc s₃ => wpAny (model X.prog X.w) X.A (newFunctionEnv scope X.env.globals cl [] X.env.qual none .none (some X.env)) (fun cenv s₄ =>
      codeAny (model X.prog X.w) X.A (.compStart (.ListComp elt [⟨.Name t px, iter, ifs, 0⟩] scope pos) 0 (.ref it) acc { cenv with scope := relabel scope X.env }) (RR acc cenv.locals) s₄) E s₃) E s :=
  comp_blockG (hd := fun Y => Y.A.handled = some (.ref hx)) (Pw := fun H => H hx = some (xq hx xc)) K (fun _ _ _ _ => hA) ht he I T.obj T.keep T.item T.done T.self st hf w0 hW hWx fin
theorem pe_compH {hx : Addr} {xc : Value} (K : CapOk X scope cl t caps) (hA : X.A.handled = some (.ref hx)) (hi : PIH hx xc X (.Name t px) iter wi)
    (ht : ∀ C s₀ H₀ ex, PTs (cxC X (capN t caps) scope cl C s₀ H₀ ex) ifs tt) (he : ∀ C s₀ H₀ ex, PE (cxC X (capN t caps) scope cl C s₀ H₀ ex) elt te)
    (hs : ∀ x, foldedSetIterable iter X.env x = pure x := by intro _; rfl) : PE X (.ListComp elt [⟨.Name t px, iter, ifs, 0⟩] scope pos) (tCompH hx xc caps wi tt te) := by
  intro pins s σ H Q I h
  rw [eval_ListComp]
  refine wpAny_comprehension_free (use := none) rfl hs K.clos K.kind K.names (thn (hi pins s σ H _ I h) fun v s1 h1 => thn h1 fun itv s2 h2 => ?_)
  obtain ⟨it, fp, tn, J, H2, e, I2, T, st2, f2, W, ⟨m0, w0⟩, hWx, hW⟩ := h2
  subst e
  refine comp_blockH (RR := fun acc C => compPost (model X.prog X.w) X.A X.xe none (EP X pins σ Q) acc C) K hA ht he I2 T st2 f2 w0 hW hWx ?_
  intro D C ys H' s' m hD I' hn hC q
  refine ⟨m, hn, fun h' hs' => ?_⟩
  obtain ⟨c0, c1, c2, c3, c4, c5⟩ := hC
  exact ⟨.ref D, _, I'.turned (t' := s'.toks) (fun b o hb e => (hs'.2 b hb).trans e) c0 c1 c3 c4 c5, rfl, q D hD⟩

end
end L2

namespace L2
open PySem PySem.Spec PyProof.Rows
/-- isinstance(e, C) of an exception that is handled -/
theorem call_isq {X : Cx} : CallR X (.builtin "isinstance") (fun xs H Q => ∃ (e C : Addr) (c : V) (cv : Value) (b : Bool), xs = [.ref e, c] ∧ ((∃ D, c = .ref D ∧ cv = .ref D) ∨ ∃ n, c = .ty n ∧ cv = .type n) ∧ PySem.W.XCls X.K C ∧ H e = some (xq e (.ref C)) ∧ PySem.W.kitOne X.K (.ref C) cv = some b ∧ Q (.bl b) H) := by
  intro pins s σ H xs us Q I r h
  obtain ⟨e, C, c, cv, b, rfl, hc, xc, he, hk, q⟩ := h
  obtain ⟨u, u2, rfl, ru, rc⟩ := vals2 r
  obtain rfl : u = Value.ref e := ru
  have ec : u2 = cv := by
    rcases hc with ⟨D, rfl, rfl⟩ | ⟨n, rfl, rfl⟩
    · exact rc
    · exact rc
  subst ec
  obtain ⟨o, vs, e1, e2, _⟩ := I.xq_at he
  exact PySem.W.kia_one (PySem.W.kitx_exc xc) I.kIn ⟨o, e1, e2⟩ hk (fun z => nomatch z) fun tk => ⟨.bl b, H, I.tok _, rfl, q⟩
/-- the walk of a list while an exception is handled -/
theorem walks_listH {prog : Program} {w : World} {A : Around} {hx : Addr} {oh : Obj} {vh : Array Value} (hh : A.handled = some (.ref hx)) (hdh : oh.data = .fields vh) (hc : vh[2]? = some .none) (it l : Addr) (nl : l ≠ it) (nx : it ≠ hx) (items : Array Value) :
    Walks prog w A it [it, l, hx] [it] items.size (fun i v => items[i]? = some v) (fun i h => h.IsListIter it l i ∧ h.IsList l items ∧ h.get? hx = some oh) where
  sub := fun b hb => by simp at hb; simp [hb]
  frame := fun _ _ _ st hk => ⟨st.1.at fun o e => hk it (by simp) o e, st.2.1.at fun o e => hk l (by simp) o e, hk hx (by simp) _ st.2.2⟩
  item := fun i s Q E hi st hQ => by
    refine wpAny_pyNext_list_item st.1 st.2.1 (x := items[i]) (by simp [hi]) fun hN itN sN => ?_
    exact hQ _ hN s.toks (by simp [hi]) ⟨itN, st.2.1.extBut sN.extBut nl, (sN.2 hx (Ne.symm nx)).trans st.2.2⟩ fun b o hb e => sN.extBut b o (fun z => hb (by simp [z])) e
  done := fun s Q E st hQ => list_end_at hh st.2.2 hdh hc nx st.1 st.2.1 (by simp) fun hN eN => hQ hN s.toks fun b o hb e => eN b o (fun z => hb (by simp [z])) e
  self := fun _ _ _ _ st hQ => wpAny_pyIter_listiter st.1 hQ
theorem call_sumH {X : Cx} {hx : Addr} {xc : Value} (hA : X.A.handled = some (.ref hx)) : CallR X (.builtin "sum") (fun xs H Q => ∃ (p : Addr) (ns : List Int), xs = [.ref p] ∧ SqL X.K H p (ns.map V.int) ∧ H hx = some (xq hx xc) ∧ Q (.int ns.sum) H) := by
  intro pins s σ H xs us Q I r h
  obtain ⟨p, ns, rfl, hp, hX, q⟩ := h
  obtain ⟨u, rfl, ru⟩ := vals1 r
  cases ru
  obtain ⟨its, rv, pl, hz⟩ := I.list hp
  have hI := intsAre_of rv
  have hn := hI.numsOf
  obtain ⟨ys, e⟩ := hI.allInts.items
  have hl := pl.isList
  rw [e] at hl
  obtain ⟨o, vs, eo, _, od, oc⟩ := I.xq_at hX
  refine call_sum_walkG (iter_intList hl fun s2 e2 st hfp hlI => ?_)
  subst e2
  have lx := Heap.lt_size eo
  refine ⟨_, _, _, _, _, _, numAt ys, rfl, walks_listH (A := X.A.in1) hA od oc _ p hlI (Nat.ne_of_gt lx) (intItems ys), ⟨st.1, st.2, Heap.get?_push_of_some _ eo⟩, fun b hb => ?_, (fun _ _ => intItems_at), fun h' tk t' hk => ?_⟩
  · rcases List.mem_cons.mp hb with z | hb
    · exact hfp b (by simp [z])
    · rcases List.mem_cons.mp hb with z | hb
      · exact hfp b (by simp [z])
      · rw [List.mem_singleton.mp hb]
        show hx < (s.heap.push _).objs.size
        rw [Heap.size_push]
        exact Nat.lt_succ_of_lt lx
  · have hs : preSum (numAt ys) ys.size = ns.sum := by
      rw [preSum_eq, List.take_of_length_le (by simp), ← nums_intItems, ← e]
      rw [show its.toArray.toList = its from rfl, hn]
    have hz2 : (intItems ys).size = ys.size := by simp [intItems]
    refine ⟨.int ns.sum, H, I.kept fun b o eb => hk b o (fun hm => ?_) (Heap.get?_push_of_some _ eb), ⟨_, by rw [hz2, hs]⟩, q⟩
    exact absurd (List.mem_singleton.mp hm ▸ Heap.lt_size eb) (Nat.lt_irrefl _)
theorem pi_range1H {hx : Addr} {xc : Value} {X : Cx} {tg a : Expr} {ta : TA} {p pos : Pos} (hg : Gl X "range") (hm : X.mg "range" = none) (ha : PA X [a] ta) (hs : starEach [a] X.env = [(false, eval a X.env)] := by rfl) : PIH hx xc X tg (.Call (.Name "range" p) [a] [] pos) (iRng1 ta) := by
  intro pins s σ H R I h
  refine Call_ (ld_blt I hg hm boot_range (PyProof.Rows.callWith_type1 (thn (ha pos pins s σ H _ I h) fun us s1 ⟨vs, H1, I1, r1, j, e, q1, q2, q⟩ => ?_) hs rfl))
  subst e
  cases r1 with
  | cons r rr =>
    cases rr
    obtain ⟨t, rfl⟩ := r
    refine call_range_1 (wpAny_pyIter_range (IsRange.new ..) (small_one (by (first | lia | omega)) (by (first | lia | omega)) q1 q2) ?_)
    have I2 : Inv X pins σ H1 _ := I1.kept (t' := s1.toks + 1 + 1) fun b o e => Heap.get?_push_of_some { cls := Value.type "range", data := Data.fields #[Value.int 0 s1.toks, Value.int j t, Value.int 1 (s1.toks + 1)] } e
    refine ⟨_, [_], _, _, H1, rfl, I2.kept (t' := s1.toks + 1 + 1) fun b o e => Heap.get?_push_of_some _ e, turn_rangeH _ 0 j.toNat, ?_, fun b hb => ?_, q⟩
    · have e1 : (0 : Int) + ((0 : Nat) : Int) * 1 = 0 := by simp
      have e2 : ((j.toNat : Nat) : Int) - ((0 : Nat) : Int) = Builtin.Range.rangeSize 0 j 1 := by rw [rangeSize_one]; split <;> (first | lia | omega)
      rw [e1, e2]
      exact Heap.get?_push_size _ rfl
    · have eb := List.mem_singleton.mp hb
      subst eb
      exact I2.fpOk (Nat.le_refl _) (I2.hok.fresh (Nat.le_refl _))
end L2

namespace L2
open PySem PySem.Spec PyProof.Rows
structure RoomH (hx : Addr) (k : Nat) (A : Around) : Prop where
  hd : A.handled = some (.ref hx)
  dp : A.depth + 3 * k + 5 < recursionLimit
  un : A.units + 16 * k + 200 < cLine
theorem RoomH.deeper {hx : Addr} {k : Nat} {A : Around} (r : RoomH hx (k + 1) A) (env : Env) : RoomH hx k (A.deeper env) :=
  ⟨r.hd, by have := r.dp; show A.depth + 1 + 3 * k + 5 < _; (first | lia | omega), by have := r.un; show A.units + 3 + 16 * k + 200 < _; (first | lia | omega)⟩
theorem Room.hand {k : Nat} {A : Around} (r : Room k A) (hx : Addr) : RoomH hx k (A.mark (some (.ref hx))) := ⟨rfl, r.dp, r.un⟩
structure FnOkH (hx : Addr) (P : Program) (w : World) (K : PySem.W.Frag) (mg : Str → Option Value) (base : Heap) (k : Nat) (f : Addr) (fd : FuncData) (ps : List Str) (sp : Sp) : Prop where
  len : ∀ vs H Q E, sp vs H Q E → vs.length = ps.length
  run : ∀ (A : Around) (outer : List Env) (s : Shared) (H : Hp) (args : Args) (us : List Value) (vs : List V) (Q : VK), RoomH hx k A → Env0 P w K mg base A outer s H → BindsTo s fd args (ps.zip us) → Vals vs us → sp vs H Q E0 →
    codeAny (model P w) A (.call (.ref f) args) (CR CX0 outer P w H s Q E0) s
/-- the context of the def's body -/
noncomputable def cxH (hx : Addr) (P : Program) (w : World) (K : PySem.W.Frag) (mg : Str → Option Value) (base : Heap) (N : List Str) (qual : Str) (scope : Scope) (f : Addr) (cd : Value) (A : Around) (outer : List Env) (s : Shared) (H : Hp) : Cx :=
  (cxOf CX0 P w K mg base N qual scope f cd { A with handled := none } outer s H E0).hand hx
theorem cxH_A {hx : Addr} {P : Program} {w : World} {K : PySem.W.Frag} {mg : Str → Option Value} {base : Heap} {N : List Str} {qual : Str} {scope : Scope} {f : Addr} {cd : Value} {A : Around} {outer : List Env} {s : Shared} {H : Hp} (h : A.handled = some (.ref hx)) :
    (cxH hx P w K mg base N qual scope f cd A outer s H).A = A.deeper (envOfC qual scope s.heap.objs.size f cd) := by
  obtain ⟨a, b, c, d, e⟩ := A
  obtain rfl : a = some (.ref hx) := h
  rfl
section
variable {hx : Addr} {P : Program} {w : World} {K : PySem.W.Frag} {mg : Str → Option Value} {base : Heap}
theorem Fun.okH {x qual : Str} {st : Stmt} {f : Addr} {fd : FuncData} {N ps : List Str} {k : Nat} {sp : Sp} (F : Fun K x qual st f fd) (S : FnScope N ps (defScope st)) (len : ∀ vs H Q E, sp vs H Q E → vs.length = ps.length)
    (hbody : ∀ (cdv : Value) (A : Around) (outer : List Env) (s : Shared) (H : Hp) (vs : List V) (Q : VK), RoomH hx k (cxH hx P w K mg base N qual (defScope st) f cdv A outer s H).A → sp vs H Q E0 →
      ∃ t, PSs (cxH hx P w K mg base N qual (defScope st) f cdv A outer s H).nox (defBody st) t ∧ t { nx := fun _ H' => Q .non H', rt := Q } (start N vs) H) : FnOkH hx P w K mg base (k + 1) f fd ps sp := by
  obtain ⟨oc, od, kV, doc, pm, an, cdv, ct, osl, rfl, lk, hcd⟩ := F.ex
  refine ⟨len, fun A outer s H args us vs Q hr e0 hb r hsp => ?_⟩
  have hl := len _ _ _ _ hsp
  have KX : K.In s.heap := e0.mod.kin.keeps fun b o e => (e0.bs b o e).1
  have lim : s.heap.NoLimit := e0.mod.nolimit.keeps fun b o e => (e0.bs b o e).1
  have kinds : ∀ y ∈ ps.zip us, (defScope st).names.lookup y.1 = some .local ∨ ((defScope st).names.lookup y.1 = some .cell ∧ ((cellsFrom (s.heap.objs.size + 1) (defScope st).names []).lookup y.1).isSome = true) := fun y hy => by
    rcases S.par y.1 (List.of_mem_zip (show (y.1, y.2) ∈ ps.zip us from hy)).1 with z | z
    · exact .inl z
    · exact .inr ⟨z, PySem.W.cellsFrom_some _ _ _ (.inl z)⟩
  refine codeAny_call_function (by have := hr.dp; (first | lia | omega)) (KX _ _ lk) rfl S.co S.gen rfl (PySem.W.codeRec_of KX hcd) (hb _ _ _ _ ?_)
  refine wpAny_newFunctionEnv_cells S.kind kinds fun env he s1 x => ?_
  subst he
  refine ⟨lim.keeps x.toInCall.keep, codeAny_func ?_⟩
  have eA := cxH_A (P := P) (w := w) (K := K) (mg := mg) (base := base) (N := N) (qual := qual) (scope := defScope st) (f := f) (cd := cdv) (outer := outer) (s := s) (H := H) hr.hd
  obtain ⟨t, ht, hq⟩ := hbody cdv A outer s H vs Q (by rw [eA]; exact hr.deeper _) hsp
  have e1 : Env0 P w K mg base { A with handled := none } outer s H := ⟨e0.frames, e0.mod, e0.bs, e0.bsz, e0.funs, e0.frf, e0.hok, e0.bare⟩
  have I : Inv (cxH hx P w K mg base N qual (defScope st) f cdv A outer s H) [] (start N vs) H s1 := (inv_start (CX := CX0) (E := E0) (A := { A with handled := none }) S rfl e1 hl r x).hand hx
  have run := ht [] s1 (start N vs) H _ (I.wish _) hq
  have run' : wpAny (model P w) (cxH hx P w K mg base N qual (defScope st) f cdv A outer s H).A (execs (defBody st) (envOfC qual (defScope st) s.heap.objs.size f cdv)) _ _ s1 := run
  rw [eA] at run'
  refine wpAny_mono run' (fun fl s' hs => ?_) fun e s' hs => hs.elim
  have fin : ∀ {σ' : St} {H' : Hp} {v : V} {u : Value}, Inv (cxH hx P w K mg base N qual (defScope st) f cdv A outer s H).nox [] σ' H' s' → RelV v u → Q v H' → CE outer P w H s Q u s' :=
    fun J rv q => ⟨_, _, J.os, J.bare, J.base, J.hok, rv, q⟩
  cases fl with
  | ret u => obtain ⟨v, σ', H', J, rv, q⟩ := hs; exact fin J rv q
  | next => obtain ⟨σ', H', J, q⟩ := hs; exact fin (v := V.non) (u := Value.none) J rfl q
  | brk => obtain ⟨_, _, _, q⟩ := hs; exact False.elim q
  | cont => obtain ⟨_, _, _, q⟩ := hs; exact False.elim q
end
section
variable {hx : Addr} {X : Cx} {k : Nat} {f : Addr} {fd : FuncData} {ps : List Str} {sp : Sp} {x : Str} {p pos : Pos} {e : Expr} {es : List Expr} {t : TA}
theorem pe_callH (F : FnOkH hx X.prog X.w X.K X.mg X.base k f fd ps sp) (hr : RoomH hx k X.A) (hg : Gl X x) (hm : X.mg x = some (.ref f)) (hk : PySem.W.keepIn X.K (.ref f) = true) (hb : Binds X.K fd ps [])
    (ha : PA X (e :: es) t) (hdb : (x == ("__debug__" : Str)) = false := by decide) (he : starEach (e :: es) X.env = (false, eval e X.env) :: starEach es X.env := by rfl) (hpl : (backTo pos (starEach es X.env)).any (·.1) = false := by rfl) :
    PE X (.Call (.Name x p) (e :: es) [] pos) (tCall sp [] E0 t) := by
  intro pins s σ H Q I h
  refine wpAny_Call_Name_kw (ld_glob I hg hm ?_ hdb)
  refine PySem.W.callWith_K (h₀ := X.base) I.ok.mod.kin hk (thn (ha pos pins s σ H _ I h) fun us s1 ⟨vs, H1, I1, r, q⟩ => ⟨I1.kIn, ?_⟩) he hpl
  have q' : sp vs H1 Q E0 := by
    have z : sp (vs ++ []) H1 Q E0 := q
    rw [List.append_nil] at z
    exact z
  have hl : us.length = ps.length := by rw [← r.length]; exact F.len _ _ _ _ q'
  have bz := hb s1 us I1.kIn (by rw [List.append_nil]; exact hl)
  rw [List.append_nil] at bz
  refine wpAny_call (codeAny_mono (F.run X.A X.stack s1 H1 ⟨us, []⟩ us vs Q hr I1.env0 bz r q') fun res s2 hq => ?_)
  cases res with
  | error e => exact False.elim hq
  | ok fl =>
    cases fl with
    | ret u => exact I1.after hq
    | next => exact False.elim hq
    | brk => exact False.elim hq
    | cont => exact False.elim hq
end
end L2

namespace L2
open PySem PySem.Spec PyProof.Rows
section
variable {X : Cx} {pins : List (Addr × Obj)} {σ : St} {H : Hp} {s : Shared}
/-- the caught exception is tracked from now on -/
theorem Inv.trackQ {e : Addr} {cls : Value} (I : Inv X pins σ H s) (n : NewTo X pins H e) (x : ∃ o vs, s.heap.get? e = some o ∧ o.cls = cls ∧ o.data = .fields vs ∧ vs[2]? = some .none) : Inv X pins σ (upd H e (xq e cls)) s := by
  have ne : ∀ b o, H b = some o → b ≠ e := fun b o q => ne_of_none q n.free
  refine ⟨I.ok, I.os, I.bare, ⟨I.base.keep, I.base.slot, fun b o q nn hx => ?_, I.base.there, fun b xs q => ?_, fun b o u q => ?_, fun b ps q => ?_⟩, I.loc, I.cell, ?_, fun y c q => ?_, fun p hp => ?_, fun b u q => ?_, I.len⟩
  · rw [upd_ne (fun z => by rw [z, n.old] at q; cases q)]; exact I.base.free b o q nn hx
  · have z := I.base.tups b xs q
    rw [upd_ne (ne _ _ z)]; exact z
  · have z := I.base.frzs b o u q
    rw [upd_ne (ne _ _ z)]; exact z
  · obtain ⟨more, z⟩ := I.base.tbls b ps q
    exact ⟨more, by rw [upd_ne (ne _ _ z)]; exact z⟩
  · rw [upd_ne (Ne.symm n.loc)]; exact I.free
  · rw [upd_ne (n.cell y c q)]; exact I.freeC y c q
  · obtain ⟨a1, a2, a3⟩ := I.pin p hp
    exact ⟨a1, by rw [upd_ne (n.pin p hp)]; exact a2, a3⟩
  · by_cases hb : b = e
    · subst hb
      rw [upd_same] at q
      cases q
      exact xq_ok x
    · rw [upd_ne hb] at q
      exact (I.hok b u q).stay (fun _ _ _ z => z) (fun c z => by rw [upd_ne (ne _ _ z)]; exact z) fun c xs z => by rw [upd_ne (ne _ _ z)]; exact z
end
noncomputable def tTryQ (K : PySem.W.Frag) (C : Addr) (i : Nat) (tb : TSX) (ts : Addr → TS) : TS := fun D σ H => tb D (fun σ' cls H' => PySem.W.exmOne K cls (.ref C) = some true ∧ ∀ e, H' e = none → ts e (goneE i D) (σ'.set i (some (.ref e))) (upd H' e (xq e cls))) σ H
section
variable {X : Cx} {C : Addr} {i : Nat} {x n : Str} {np hpos pos : Pos} {body suite : List Stmt} {b₀ : Stmt} {tb : TSX} {ts : Addr → TS}
theorem ps_tryQ (hex : X.ex = []) (hst : X.stack = X.env :: X.outer) (hf : X.env.frame = some X.env.locals) (hg : Gl X x) (hm : X.mg x = some (.ref C)) (hN : X.N.Nodup) (hi : X.N[i]? = some n) (hl : X.env.scope.names.lookup n = some .local)
    (hb : PSsX X body tb) (hs : ∀ e, PSs (X.hand e).nox (b₀ :: suite) (ts e)) (hd : (x == ("__debug__" : Str)) = false := by decide) :
    PS X (.Try body [.ExceptHandler (some (.Name x np)) (some n) (b₀ :: suite) hpos] [] [] pos) (tTryQ X.K C i tb ts) := by
  intro pins s σ H D I h
  refine wpAny_Try_except (wpAny_mono (hb pins s σ H D _ I h) (fun f s1 q => ?_) fun v s1 hx => ?_)
  · cases f with
    | next => exact wpAny_execs_nil q
    | ret v => exact q
    | brk => exact q
    | cont => exact q
  obtain ⟨e, cls, a0, B, σ1, H1, rfl, fl, c2, be, new, hmt, hk⟩ := hx
  have stay : B.StaysIn s1.heap := by
    rcases fl with z | z | ⟨_, _, z⟩
    · exact z.1
    · exact z.1
    · exact z.1
  have I1 := be.now stay
  have hfr := I1.ok.frames
  rw [hst] at fl hfr
  have okX := I1.ok
  refine made_looks hfr hf fl c2 fun h4 held up4 c4 => ?_
  refine lands_c held c4 fun h5 fl5 up5 c5 => ?_
  have up5' := up4.trans up5
  have I5 := (be h5 s1.toks fl5.1 up5').hand e
  obtain ⟨ob, hob, hobc⟩ := fl5.there
  refine wpAny_handleBy_cons (codeAny_handlers_test (ld_glob (X := X.hand e) I5 hg hm ?_ hd)) (by intro q; cases q)
  have LT : PySem.W.Looks (model X.prog X.w) h5 (typeOf (.ref e)) cls := hobc ▸ (PySem.W.Looks.ld hob).andThen .now
  refine (PySem.W.exm_one I5.kIn LT hmt).here (s := { s1 with heap := h5 }) ?_
  refine codeAny_handlers_suite_as ?_
  refine lands_c2 fl5 c5 fun h6 fl6 up6 c6 => ?_
  have I6 := be h6 s1.toks fl6.1 (up5'.trans up6)
  have I6' := (I6.trackQ (cls := cls) new (by
    obtain ⟨o1, g1, g2⟩ := fl6.there
    obtain ⟨o2, vs, g3, g4, g5⟩ := c6
    obtain rfl : o1 = o2 := Option.some.inj (g1.symm.trans g3)
    exact ⟨o1, vs, g1, g2, g4, g5⟩)).hand e
  refine store_ok (X := X.hand e) (v := .ref e) I6' hN hi (.inl hl) rfl (fun s7 I7 => ?_) (.inr hl)
  refine nx (hs e pins s7 _ _ _ (I7.wish _) (hk e new.free)) fun f s8 hq => ?_
  have fin : ∀ {σ8 : St} {H8 : Hp} {Q : Shared → Prop}, Inv (X.hand e).nox pins σ8 H8 s8 → (∀ s9, Inv X pins (σ8.set i none) H8 s9 → Q s9) →
      wpAny (model X.prog X.w) X.A (do bindName X.env n .none; unbindBehindTheSuite X.env n hpos) (fun _ s9 => Q s9) X.xe s8 := fun {σ8 H8 Q} I8 k => by
    have I8' : Inv X pins σ8 H8 s8 := (I8.unwish).unhand okX
    obtain ⟨m, hn, hl'⟩ := I8'.loc
    exact wpAny_nameGoes_keeps hl hn (by rw [I8'.ok.kind]; rfl) fun h' v hn' hs' => k _ (I8'.unset hN hi hl hn hl' hn' hs')
  cases f with
  | next =>
    obtain ⟨σ8, H8, I8, q⟩ := hq
    exact fin I8 fun s9 I9 => ⟨_, _, I9, q⟩
  | brk =>
    obtain ⟨σ8, H8, I8, q⟩ := hq
    exact fin I8 fun s9 I9 => ⟨_, _, I9, q⟩
  | cont =>
    obtain ⟨σ8, H8, I8, q⟩ := hq
    exact fin I8 fun s9 I9 => ⟨_, _, I9, q⟩
  | ret u =>
    obtain ⟨v, σ8, H8, I8, rv, q⟩ := hq
    exact fin I8 fun s9 I9 => ⟨v, _, _, I9, rv, q⟩
end
theorem comp_rangeH {hx : Addr} {xc : Value} {caps : List (Str × Nat)} {tt : TT} {te : TE} {σ : St} {H : Hp} {lo : Int} {n : Nat} {QE : List V → Hp → Prop} (Pv : Nat → List V → Hp → Prop) (h0 : Pv 0 [] H) (hX : ∀ i ys H, Pv i ys H → H hx = some (xq hx xc))
    (hs : ∀ i ys H, i < n → Pv i ys H → tt (capS caps σ (some (.int (lo + i)))) H fun b H2 => if b = true then te (capS caps σ (some (.int (lo + i)))) H2 (fun y H3 => ys.length < sizeLine ∧ Pv (i + 1) (ys ++ [y]) H3) else Pv (i + 1) ys H2)
    (hd : ∀ ys H, Pv n ys H → QE ys H) : ∃ W : Nat → Nat → List V → Hp → Prop, (∃ m, W 0 m [] H) ∧ (∀ i m ys H, W i m ys H → H hx = some (xq hx xc)) ∧ CompW caps tt te σ (Itr lo n) QE W := by
  refine ⟨fun i m ys H => m = n - i ∧ i ≤ n ∧ Pv i ys H, ⟨n, by simp, Nat.zero_le _, h0⟩, fun i m ys H q => hX i ys H q.2.2, ?_⟩
  rintro i m ys H ⟨rfl, hi, p⟩
  by_cases hlt : i < n
  · refine .inr ⟨hlt, Pv (i + 1), fun ys' H' p' => ⟨n - (i + 1), by omega, rfl, hlt, p'⟩, fun x H' y => ?_⟩
    obtain ⟨e, y⟩ := y
    subst e y
    exact hs i ys _ hlt p
  · have e : i = n := by omega
    subst e
    exact .inl ⟨Nat.le_refl _, hd ys H p⟩
theorem comp_listH {hx : Addr} {xc : Value} {K : PySem.W.Frag} {a : Addr} {xs : List V} {caps : List (Str × Nat)} {tt : TT} {te : TE} {σ : St} {H : Hp} {QE : List V → Hp → Prop} (Pv : Nat → List V → Hp → Prop) (h0 : Pv 0 [] H) (hX : ∀ i ys H, Pv i ys H → H hx = some (xq hx xc)) (hl : ∀ i ys H, i ≤ xs.length → Pv i ys H → SqL K H a xs)
    (hs : ∀ i x ys H, xs[i]? = some x → Pv i ys H → tt (capS caps σ (some x)) H fun b H2 => if b = true then te (capS caps σ (some x)) H2 (fun y H3 => ys.length < sizeLine ∧ Pv (i + 1) (ys ++ [y]) H3) else Pv (i + 1) ys H2)
    (hd : ∀ ys H, Pv xs.length ys H → QE ys H) : ∃ W : Nat → Nat → List V → Hp → Prop, (∃ m, W 0 m [] H) ∧ (∀ i m ys H, W i m ys H → H hx = some (xq hx xc)) ∧ CompW caps tt te σ (Itl K a) QE W := by
  refine ⟨fun i m ys H => m = xs.length - i ∧ i ≤ xs.length ∧ Pv i ys H, ⟨xs.length, by simp, Nat.zero_le _, h0⟩, fun i m ys H q => hX i ys H q.2.2, ?_⟩
  rintro i m ys H ⟨rfl, hi, p⟩
  have q := hl i ys H hi p
  by_cases hlt : i < xs.length
  · refine .inr ⟨⟨xs, xs[i], q, by simp [hlt]⟩, Pv (i + 1), fun ys' H' p' => ⟨xs.length - (i + 1), by omega, rfl, hlt, p'⟩, fun x H' y => ?_⟩
    obtain ⟨e, y⟩ := y
    subst e
    exact hs i x ys _ (y xs q) p
  · have e : i = xs.length := by omega
    subst e
    exact .inl ⟨⟨xs, q, Nat.le_refl _⟩, hd ys H p⟩
end L2

namespace Rm
open PySem L2
noncomputable def top (i : Nat) : Stmt := PySem.Challenge.pw_ownroom_k21_plain_rooms_refused.main.body.getD i (.Pass ⟨0, 0, 0, 0⟩)
noncomputable abbrev sRoomOf : Stmt := top 9
noncomputable abbrev sSecond : Stmt := top 10
noncomputable abbrev sAbove : Stmt := top 11
noncomputable abbrev sPagesFrom : Stmt := top 12
noncomputable abbrev sUnmapped : Stmt := top 13
noncomputable abbrev sToMap : Stmt := top 14
noncomputable abbrev sToDrop : Stmt := top 15
noncomputable abbrev sOfCells : Stmt := top 16
noncomputable abbrev sWithin : Stmt := top 17
noncomputable abbrev sWith : Stmt := top 18
theorem same_new {H : Hp} {l : Addr} {X : HO} (h : H l = none) : Same H (upd H l X) := fun b o e => by rw [upd_ne (ne_of_none e h)]; exact e
theorem same_wr {H H' : Hp} {l : Addr} {X : HO} (s : Same H H') (h : H l = none) : Same H (upd H' l X) := fun b o e => by rw [upd_ne (ne_of_none e h)]; exact s b o e
structure XTxt (K : PySem.W.Frag) (mg : Str → Option Value) (x : Str) (C : Addr) : Prop where
  mgN : mg x = some (.ref C)
  exN : PySem.W.excIn K C veMro "ValueError.__new__" = true
structure Def (K : PySem.W.Frag) (mg : Str → Option Value) (x : Str) (f : Addr) (fd : FuncData) (ps : List Str) : Prop where
  mg : mg x = some (.ref f)
  kp : PySem.W.keepIn K (.ref f) = true
  b : Binds K fd ps []
structure STxt (mg : Str → Option Value) : Prop where
  pages : ∃ u, mg "ROOM_PAGES" = some u ∧ RelV (.int 64) u
  cells : ∃ u, mg "PAGE_CELLS" = some u ∧ RelV (.int 8) u
  list : mg "list" = none
  range : mg "range" = none
  len : mg "len" = none
noncomputable def noPages (p m : Int) : Prop := m < 1 ∨ p < 0 ∨ 64 < p + m
noncomputable def pagesL (p m : Int) : List Int := (List.range m.toNat).map fun k : Nat => p + k
noncomputable def spPagesFrom (CP : Addr) : Sp := fun vs H Q E => ∃ p m : Int, vs = [.int p, .int m] ∧ p.natAbs.log2 < 1920 ∧ m.natAbs.log2 < 1920 ∧ (noPages p m → E (.ref CP) none H) ∧
  (¬ noPages p m → ∀ (H' : Hp) (l : Addr), Same H H' → H l = none → H' l = some (.lst ((pagesL p m).map V.int)) → Q (.ref l) H')
theorem inV_ints (q : Int) : ∀ ms : List Int, inV (.int q) (ms.map V.int) = decide (q ∈ ms)
  | [] => rfl
  | m :: ms => by
    have ih := inV_ints q ms
    unfold inV at ih ⊢
    rw [List.map_cons, List.any_cons, ih]
    by_cases e : q = m
    · rw [e]; simp [eqV]
    · have e' : m ≠ q := Ne.symm e
      simp [eqV, e, e']
noncomputable def spUnmapped (CP : Addr) : Sp := fun vs H Q E => ∃ (a b : Addr) (ms ps : List Int), vs = [.ref a, .ref b] ∧ H a = some (.lst (ms.map V.int)) ∧ H b = some (.lst (ps.map V.int)) ∧ (∀ q ∈ ps, q.natAbs.log2 < 1920) ∧
  ((¬ ∀ q ∈ ps, q ∈ ms) → E (.ref CP) none H) ∧ ((∀ q ∈ ps, q ∈ ms) → Q .non H)
section
variable {P : Program} {w : World} {K : PySem.W.Frag} {mg : Str → Option Value} {base : Heap}
theorem scPf : FnScope ["page", "many"] ["page", "many"] (defScope sPagesFrom) := ⟨rfl, rfl, rfl, by decide +kernel, rfl, by decide +kernel, by decide +kernel⟩
theorem ok_pagesFrom {f CP : Addr} {fd : FuncData} (F : Fun K "pages_from" "pages_from" sPagesFrom f fd) (T : STxt mg) (XP : XTxt K mg "NoPage" CP) : FnOk P w K mg base (CXO P w) 1 f fd ["page", "many"] (spPagesFrom CP) := by
  obtain ⟨u64, m64, r64⟩ := T.pages
  refine F.okx scPf (fun vs H Q E h => ?_) (fun cdv A outer s H vs Q E hr h => ?_)
  · obtain ⟨p, m, rfl, _⟩ := h
    rfl
  · obtain ⟨p, m, rfl, hp, hm, kE, kQ⟩ := h
    have hs : sizeLine = 16777216 := sizeLine_eq
    refine ⟨_, (pssx_cons (psx_if (PW.pt (pw_or (pt_cmpR op_lt (pv 1) pe_int (nomark _)) (pw_or (pt_cmpR op_lt (pv 0) pe_int (nomark _)) (pw_or1 (pt_cmpR op_gt (pe_op op_add (pv 0) (pv 1)) (pe_glob (by rfl) m64 r64) (nomark _)))))) (pssx_one (psx_raise rfl XP.mgN XP.exN rfl rfl (pa_cons (pe_join (pj_cons (pe_fv (pv 1)) (pj_cons pe_str (pj_cons (pe_fv (pv 0)) (pj_cons pe_str pj_nil))))) pa_nil))) pssx_nil)
      (pssx_of (pss_one (ps_ret (pe_callTy (call_list_rng2 rfl) (by rfl) T.list bt_list (pa_cons (pe_callTy call_rng2 (by rfl) T.range bt_range (pa_cons (pv 0) (pa_cons (pe_op op_add (pv 0) (pv 1)) pa_nil))) pa_nil)))))), ?_⟩
    have l1 := len_int hm
    have l2 := len_int hp
    have c0 : (Str.empty : Str).length = 0 := rfl
    have c1 : (Str.ofString " from ").length = 6 := by decide +kernel
    have c2 : (Str.ofString " on are no pages of a room").length = 26 := by decide +kernel
    have g1 : (Str.empty ++ toString m : Str).length ≤ sizeLine := by rw [len_app, c0]; (first | lia | omega)
    have g2 : (Str.empty ++ toString m ++ Str.ofString " from " : Str).length ≤ sizeLine := by rw [len_app, len_app, c0, c1]; (first | lia | omega)
    have g3 : (Str.empty ++ toString m ++ Str.ofString " from " ++ toString p : Str).length ≤ sizeLine := by rw [len_app, len_app, len_app, c0, c1]; (first | lia | omega)
    have g4 : (Str.empty ++ toString m ++ Str.ofString " from " ++ toString p ++ Str.ofString " on are no pages of a room" : Str).length ≤ sizeLine := by rw [len_app, len_app, len_app, len_app, c0, c1, c2]; (first | lia | omega)
    refine hidXC fun _ ji je => ?_
    have jj : noPages p m → _ := fun hb => ji H ⟨_, rfl, m, rfl, hm, _, rfl, g1, _, rfl, g2, _, rfl, p, rfl, hp, _, rfl, g3, _, rfl, g4, g4, (by show 1 ≤ sizeLine; decide), kE hb⟩
    refine ⟨_, rfl, _, _, rfl, rfl, _, rfl, ?_⟩
    refine ite2 (fun c => jj (.inl (of_decide_eq_true c))) (fun c => ?_)
    refine ⟨_, rfl, _, _, rfl, rfl, _, rfl, ?_⟩
    refine ite2 (fun c' => jj (.inr (.inl (of_decide_eq_true c')))) (fun c' => ?_)
    refine ⟨_, rfl, _, rfl, _, _, rfl, rfl, _, _, rfl, rfl, _, rfl, ?_⟩
    refine iteB (fun c'' => jj (.inr (.inr (of_decide_eq_true c'')))) (fun c'' => je _ ?_)
    have d1 : ¬ m < 1 := fun z => c (decide_eq_true z)
    have d2 : ¬ p < 0 := fun z => c' (decide_eq_true z)
    have d3 : ¬ 64 < p + m := fun z => c'' (decide_eq_true z)
    refine ⟨_, rfl, _, rfl, _, rfl, _, _, rfl, rfl, p, p + m, rfl, fun pr hpr => ?_⟩
    have s1 := same_new (X := .rng p (p + m)) hpr
    refine ⟨pr, p, m.toNat, rfl, by rw [upd_same, Int.toNat_of_nonneg (by (first | lia | omega))], by (first | lia | omega), by (first | lia | omega), by (first | lia | omega), fun l hl => ?_⟩
    refine kQ (fun z => z.elim d1 fun z => z.elim d2 d3) _ l (s1.trans (same_new hl)) (s1.free hl) ?_
    rw [upd_same]
    unfold pagesL
    rw [List.map_map]
    rfl
theorem scUn : FnScope ["mapped", "pages", "page"] ["mapped", "pages"] (defScope sUnmapped) := ⟨rfl, rfl, rfl, by decide +kernel, rfl, by decide +kernel, by decide +kernel⟩
theorem ok_unmapped {f CP : Addr} {fd : FuncData} (F : Fun K "refuse_unmapped" "refuse_unmapped" sUnmapped f fd) (XP : XTxt K mg "NoPage" CP) : FnOk P w K mg base (CXO P w) 1 f fd ["mapped", "pages"] (spUnmapped CP) := by
  refine F.okx scUn (fun vs H Q E h => ?_) (fun cdv A outer s H vs Q E hr h => ?_)
  · obtain ⟨a, b, ms, ps, rfl, _⟩ := h
    rfl
  · obtain ⟨a, b, ms, ps, rfl, ha, hb, hg, kE, kQ⟩ := h
    have hs : sizeLine = 16777216 := sizeLine_eq
    refine ⟨_, (pssx_one (psx_for rfl rfl rfl (pi_list (pv 1)) (pg_name (i := 2) scUn.nd rfl (Or.inl rfl)) (pssx_one (psx_if (pt_cmpR op_notIn_seq (pv 2) (pv 0) (by with_unfolding_all rfl)) (pssx_one (psx_raise rfl XP.mgN XP.exN rfl rfl (pa_cons (pe_join (pj_cons pe_str (pj_cons (pe_fv (pv 2)) (pj_cons pe_str pj_nil)))) pa_nil))) pssx_nil)))), ?_⟩
    refine ⟨_, rfl, b, rfl, ⟨_, SqL.of hb⟩, ?_⟩
    refine for_listX (K := K) (a := b) (xs := ps.map V.int) (fun i σ H2 => ∃ v2 : Option V, σ = [some (.ref a), some (.ref b), v2] ∧ H2 = H ∧ ∀ q ∈ ps.take i, q ∈ ms) ⟨_, rfl, rfl, (fun _ h => nomatch h)⟩ (fun i σ H2 _ z0 => by obtain ⟨_, _, e, _⟩ := z0; rw [e]; exact SqL.of hb) ?_ ?_
    · rintro i x σ H2 hx ⟨v2, rfl, rfl, hq⟩
      rw [List.getElem?_map] at hx
      obtain ⟨q, hq1, rfl⟩ := Option.map_eq_some_iff.mp hx
      have hm := List.mem_of_getElem? hq1
      have hl := hg q hm
      have l1 := len_int hl
      have c0 : (Str.empty : Str).length = 0 := rfl
      have c1 : (Str.ofString "page ").length = 5 := by decide +kernel
      have c2 : (Str.ofString " is not mapped").length = 14 := by decide +kernel
      have g1 : (Str.empty ++ Str.ofString "page " : Str).length ≤ sizeLine := by rw [len_app, c0, c1]; (first | lia | omega)
      have g2 : (Str.empty ++ Str.ofString "page " ++ toString q : Str).length ≤ sizeLine := by rw [len_app, len_app, c0, c1]; (first | lia | omega)
      have g3 : (Str.empty ++ Str.ofString "page " ++ toString q ++ Str.ofString " is not mapped" : Str).length ≤ sizeLine := by rw [len_app, len_app, len_app, c0, c1, c2]; (first | lia | omega)
      refine ⟨_, rfl, _, rfl, a, _, rfl, .inl (SqL.of ha), rfl, flat_ints _, _, rfl, ?_⟩
      rw [inV_ints]
      by_cases h : q ∈ ms
      · rw [decide_eq_true h]
        refine iteF ⟨_, rfl, rfl, fun r hr => ?_⟩
        rw [List.take_add_one, hq1] at hr
        rcases List.mem_append.mp hr with hr | hr
        · exact hq r hr
        · have : r = q := by simpa using hr
          rw [this]; exact h
      · rw [decide_eq_false h]
        exact iteT ⟨_, rfl, g1, _, rfl, q, rfl, hl, _, rfl, g2, _, rfl, g3, g3, (by show 1 ≤ sizeLine; decide), kE fun z => h (z q hm)⟩
    · rintro σ H2 ⟨v2, rfl, rfl, hq⟩
      rw [List.length_map, List.take_length] at hq
      exact kQ hq
end
end Rm

namespace Rm
open PySem L2
theorem pages_log {p m : Int} (h : ¬ noPages p m) : ∀ q ∈ pagesL p m, 0 ≤ q ∧ q < 64 ∧ q.natAbs.log2 < 1920 := fun q hq => by
  unfold pagesL at hq
  obtain ⟨k, hk, rfl⟩ := List.mem_map.mp hq
  rw [List.mem_range] at hk
  have h1 : ¬ m < 1 := fun z => h (.inl z)
  have h2 : ¬ p < 0 := fun z => h (.inr (.inl z))
  have h3 : ¬ 64 < p + m := fun z => h (.inr (.inr z))
  refine ⟨by (first | lia | omega), by (first | lia | omega), ?_⟩
  by_cases z : (p + (k : Int)).natAbs = 0
  · rw [z]; decide
  · rw [Nat.log2_lt z]
    have h5 : (p + (k : Int)).natAbs < 64 := by (first | lia | omega)
    have h4 : (64 : Nat) < 2 ^ 1920 := by decide +kernel
    (first | lia | omega)
noncomputable def spToMap (CP CT : Addr) : Sp := fun vs H Q E => ∃ (a : Addr) (ms : List Int) (p m : Int), vs = [.ref a, .int p, .int m] ∧ H a = some (.lst (ms.map V.int)) ∧ p.natAbs.log2 < 1920 ∧ m.natAbs.log2 < 1920 ∧
  (noPages p m → ∀ H', Same H H' → E (.ref CP) none H') ∧ (¬ noPages p m → (∃ q ∈ pagesL p m, q ∈ ms) → ∀ H', Same H H' → E (.ref CT) none H') ∧
  (¬ noPages p m → (∀ q ∈ pagesL p m, ¬ q ∈ ms) → ∀ (H' : Hp) (l : Addr), Same H H' → H l = none → H' l = some (.lst ((pagesL p m).map V.int)) → Q (.ref l) H')
noncomputable def spToDrop (CP : Addr) : Sp := fun vs H Q E => ∃ (a : Addr) (ms : List Int) (p m : Int), vs = [.ref a, .int p, .int m] ∧ H a = some (.lst (ms.map V.int)) ∧ p.natAbs.log2 < 1920 ∧ m.natAbs.log2 < 1920 ∧
  (noPages p m ∨ (¬ ∀ q ∈ pagesL p m, q ∈ ms) → ∀ H', Same H H' → E (.ref CP) none H') ∧
  (¬ noPages p m → (∀ q ∈ pagesL p m, q ∈ ms) → ∀ (H' : Hp) (l : Addr), Same H H' → H l = none → H' l = some (.lst ((pagesL p m).map V.int)) → Q (.ref l) H')
/-- the first page and the count of pages of so many cells -/
noncomputable def cFst (ad : Int) : Int := ad / 8
noncomputable def cCnt (ad n : Int) : Int := (ad + n - 1) / 8 - ad / 8 + 1
noncomputable def badCells (ad n : Int) (ms : List Int) : Prop := n < 0 ∨ (0 < n ∧ (noPages (cFst ad) (cCnt ad n) ∨ ¬ ∀ q ∈ pagesL (cFst ad) (cCnt ad n), q ∈ ms))
noncomputable def cellPages (ad n : Int) : List Int := if n = 0 then [] else pagesL (cFst ad) (cCnt ad n)
noncomputable def spOfCells (CP : Addr) : Sp := fun vs H Q E => ∃ (a : Addr) (ms : List Int) (ad n : Int), vs = [.ref a, .int ad, .int n] ∧ H a = some (.lst (ms.map V.int)) ∧ n.natAbs.log2 < 1920 ∧ (cFst ad).natAbs.log2 < 1920 ∧ (cCnt ad n).natAbs.log2 < 1920 ∧
  (badCells ad n ms → ∀ H', Same H H' → E (.ref CP) none H') ∧
  (¬ badCells ad n ms → ∀ (H' : Hp) (l : Addr), Same H H' → H l = none → H' l = some (.lst ((cellPages ad n).map V.int)) → Q (.ref l) H')
section
variable {P : Program} {w : World} {K : PySem.W.Frag} {mg : Str → Option Value} {base : Heap}
theorem scTm : FnScope ["mapped", "page", "many", "pages", "wanted"] ["mapped", "page", "many"] (defScope sToMap) := ⟨rfl, rfl, rfl, by decide +kernel, rfl, by decide +kernel, by decide +kernel⟩
theorem ok_toMap {f CP CT fP : Addr} {fd dP : FuncData} (F : Fun K "pages_to_map" "pages_to_map" sToMap f fd) (XK : XTxt K mg "Taken" CT)
    (GP : FnOk P w K mg base (CXO P w) 1 fP dP ["page", "many"] (spPagesFrom CP)) (DP : Def K mg "pages_from" fP dP ["page", "many"]) : FnOk P w K mg base (CXO P w) 2 f fd ["mapped", "page", "many"] (spToMap CP CT) := by
  refine F.okx scTm (fun vs H Q E h => ?_) (fun cdv A outer s H vs Q E hr h => ?_)
  · obtain ⟨a, ms, p, m, rfl, _⟩ := h
    rfl
  · obtain ⟨a, ms, p, m, rfl, ha, hp, hm, kP, kT, kQ⟩ := h
    have hs : sizeLine = 16777216 := sizeLine_eq
    refine ⟨_, (pssx_cons (psx_set (i := 3) scTm.nd rfl (Or.inl rfl) (pex_call GP (hr.mono (by decide)) rfl (by rfl) DP.mg DP.kp DP.b .nil (pa_cons (pv 1) (pa_cons (pv 2) pa_nil))))
      (pssx_cons (psx_for rfl rfl rfl (pi_list (pv 3)) (pg_name (i := 4) scTm.nd rfl (Or.inl rfl)) (pssx_one (psx_if (pt_cmpR op_in_seq (pv 4) (pv 0) (by with_unfolding_all rfl)) (pssx_one (psx_raise rfl XK.mgN XK.exN rfl rfl (pa_cons (pe_join (pj_cons pe_str (pj_cons (pe_fv (pv 4)) (pj_cons pe_str pj_nil)))) pa_nil))) pssx_nil)))
      (pssx_of (pss_one (ps_ret (pv 3)))))), ?_⟩
    refine hidXN fun _ jt => ?_
    refine ⟨_, rfl, _, rfl, p, m, rfl, hp, hm, fun h => kP h H (Same.refl H), fun h H1 l s1 nl hl1 => ?_⟩
    have hlog := pages_log h
    refine jt _ _ (hidX fun _ jt => ?_)
    refine ⟨_, rfl, l, rfl, ⟨_, SqL.of hl1⟩, ?_⟩
    refine for_listX (K := K) (a := l) (xs := (pagesL p m).map V.int) (fun i σ H2 => ∃ v4 : Option V, σ = [some (.ref a), some (.int p), some (.int m), some (.ref l), v4] ∧ H2 = H1 ∧ ∀ q ∈ (pagesL p m).take i, ¬ q ∈ ms) ⟨_, rfl, rfl, (fun _ h => nomatch h)⟩ (fun i σ H2 _ z0 => by obtain ⟨_, _, e, _⟩ := z0; rw [e]; exact SqL.of hl1) ?_ ?_
    · rintro i x σ H2 hx ⟨v4, rfl, rfl, hq⟩
      rw [List.getElem?_map] at hx
      obtain ⟨q, hq1, rfl⟩ := Option.map_eq_some_iff.mp hx
      have hmq := List.mem_of_getElem? hq1
      have hl := (hlog q hmq).2.2
      have l1 := len_int hl
      have c0 : (Str.empty : Str).length = 0 := rfl
      have c1 : (Str.ofString "page ").length = 5 := by decide +kernel
      have c2 : (Str.ofString " is mapped").length = 10 := by decide +kernel
      have g1 : (Str.empty ++ Str.ofString "page " : Str).length ≤ sizeLine := by rw [len_app, c0, c1]; (first | lia | omega)
      have g2 : (Str.empty ++ Str.ofString "page " ++ toString q : Str).length ≤ sizeLine := by rw [len_app, len_app, c0, c1]; (first | lia | omega)
      have g3 : (Str.empty ++ Str.ofString "page " ++ toString q ++ Str.ofString " is mapped" : Str).length ≤ sizeLine := by rw [len_app, len_app, len_app, c0, c1, c2]; (first | lia | omega)
      refine ⟨_, rfl, _, rfl, a, _, rfl, .inl (SqL.of (s1 _ _ ha)), rfl, flat_ints _, _, rfl, ?_⟩
      rw [inV_ints]
      by_cases h' : q ∈ ms
      · rw [decide_eq_true h']
        exact iteT ⟨_, rfl, g1, _, rfl, q, rfl, hl, _, rfl, g2, _, rfl, g3, g3, (by show 1 ≤ sizeLine; decide), kT h ⟨q, hmq, h'⟩ _ s1⟩
      · rw [decide_eq_false h']
        refine iteF ⟨_, rfl, rfl, fun r hr => ?_⟩
        rw [List.take_add_one, hq1] at hr
        rcases List.mem_append.mp hr with hr | hr
        · exact hq r hr
        · have : r = q := by simpa using hr
          rw [this]; exact h'
    · rintro σ H2 ⟨v4, rfl, rfl, hq⟩
      rw [List.length_map, List.take_length] at hq
      exact jt _ _ _ _ ⟨_, rfl, kQ h hq _ l s1 nl hl1⟩
theorem scTd : FnScope ["mapped", "page", "many", "pages"] ["mapped", "page", "many"] (defScope sToDrop) := ⟨rfl, rfl, rfl, by decide +kernel, rfl, by decide +kernel, by decide +kernel⟩
theorem ok_toDrop {f CP fP fU : Addr} {fd dP dU : FuncData} (F : Fun K "pages_to_drop" "pages_to_drop" sToDrop f fd)
    (GP : FnOk P w K mg base (CXO P w) 1 fP dP ["page", "many"] (spPagesFrom CP)) (DP : Def K mg "pages_from" fP dP ["page", "many"])
    (GU : FnOk P w K mg base (CXO P w) 1 fU dU ["mapped", "pages"] (spUnmapped CP)) (DU : Def K mg "refuse_unmapped" fU dU ["mapped", "pages"]) : FnOk P w K mg base (CXO P w) 2 f fd ["mapped", "page", "many"] (spToDrop CP) := by
  refine F.okx scTd (fun vs H Q E h => ?_) (fun cdv A outer s H vs Q E hr h => ?_)
  · obtain ⟨a, ms, p, m, rfl, _⟩ := h
    rfl
  · obtain ⟨a, ms, p, m, rfl, ha, hp, hm, kP, kQ⟩ := h
    refine ⟨_, (pssx_cons (psx_set (i := 3) scTd.nd rfl (Or.inl rfl) (pex_call GP (hr.mono (by decide)) rfl (by rfl) DP.mg DP.kp DP.b .nil (pa_cons (pv 1) (pa_cons (pv 2) pa_nil))))
      (pssx_cons (psx_expr (pex_call GU (hr.mono (by decide)) rfl (by rfl) DU.mg DU.kp DU.b .nil (pa_cons (pv 0) (pa_cons (pv 3) pa_nil))))
      (pssx_of (pss_one (ps_ret (pv 3)))))), ?_⟩
    refine ⟨_, rfl, _, rfl, p, m, rfl, hp, hm, fun h => kP (.inl h) H (Same.refl H), fun h H1 l s1 nl hl1 => ?_⟩
    exact ⟨_, rfl, _, rfl, a, l, ms, pagesL p m, rfl, s1 _ _ ha, hl1, fun q hq => (pages_log h q hq).2.2, fun z => kP (.inr z) _ s1, fun z => ⟨_, rfl, kQ h z _ l s1 nl hl1⟩⟩
theorem scOc : FnScope ["mapped", "address", "many", "first", "last", "pages"] ["mapped", "address", "many"] (defScope sOfCells) := ⟨rfl, rfl, rfl, by decide +kernel, rfl, by decide +kernel, by decide +kernel⟩
theorem ok_ofCells {f CP fP fU : Addr} {fd dP dU : FuncData} (F : Fun K "pages_of_cells" "pages_of_cells" sOfCells f fd) (T : STxt mg) (XP : XTxt K mg "NoPage" CP)
    (GP : FnOk P w K mg base (CXO P w) 1 fP dP ["page", "many"] (spPagesFrom CP)) (DP : Def K mg "pages_from" fP dP ["page", "many"])
    (GU : FnOk P w K mg base (CXO P w) 1 fU dU ["mapped", "pages"] (spUnmapped CP)) (DU : Def K mg "refuse_unmapped" fU dU ["mapped", "pages"]) : FnOk P w K mg base (CXO P w) 2 f fd ["mapped", "address", "many"] (spOfCells CP) := by
  obtain ⟨u8, m8, r8⟩ := T.cells
  refine F.okx scOc (fun vs H Q E h => ?_) (fun cdv A outer s H vs Q E hr h => ?_)
  · obtain ⟨a, ms, ad, n, rfl, _⟩ := h
    rfl
  · obtain ⟨a, ms, ad, n, rfl, ha, hn, hf, hc, kP, kQ⟩ := h
    have hs : sizeLine = 16777216 := sizeLine_eq
    refine ⟨_, (pssx_cons (psx_of (ps_if (pt_cmpR op_eq (pv 2) pe_int (nomark _)) (pss_one (ps_ret (pe_lst pa_nil))) pss_nil))
      (pssx_cons (psx_if (pt_cmpR op_lt (pv 2) pe_int (nomark _)) (pssx_one (psx_raise rfl XP.mgN XP.exN rfl rfl (pa_cons (pe_join (pj_cons (pe_fv (pv 2)) (pj_cons pe_str pj_nil))) pa_nil))) pssx_nil)
      (pssx_cons (psx_of (ps_set (i := 3) scOc.nd rfl (Or.inl rfl) (pe_op op_fdiv (pv 1) (pe_glob (by rfl) m8 r8))))
      (pssx_cons (psx_of (ps_set (i := 4) scOc.nd rfl (Or.inl rfl) (pe_op op_fdiv (pe_op op_sub (pe_op op_add (pv 1) (pv 2)) pe_int) (pe_glob (by rfl) m8 r8))))
      (pssx_cons (psx_set (i := 5) scOc.nd rfl (Or.inl rfl) (pex_call GP (hr.mono (by decide)) rfl (by rfl) DP.mg DP.kp DP.b .nil (pa_cons (pv 3) (pa_cons (pe_op op_add (pe_op op_sub (pv 4) (pv 3)) pe_int) pa_nil))))
      (pssx_cons (psx_expr (pex_call GU (hr.mono (by decide)) rfl (by rfl) DU.mg DU.kp DU.b .nil (pa_cons (pv 0) (pa_cons (pv 5) pa_nil))))
      (pssx_of (pss_one (ps_ret (pv 5)))))))))), ?_⟩
    have l1 := len_int hn
    have c0 : (Str.empty : Str).length = 0 := rfl
    have c1 : (Str.ofString " is no count of cells").length = 21 := by decide +kernel
    have g1 : (Str.empty ++ toString n : Str).length ≤ sizeLine := by rw [len_app, c0]; (first | lia | omega)
    have g2 : (Str.empty ++ toString n ++ Str.ofString " is no count of cells" : Str).length ≤ sizeLine := by rw [len_app, len_app, c0, c1]; (first | lia | omega)
    refine hidX fun _ jt => ?_
    refine ⟨_, rfl, rfl, _, rfl, ?_⟩
    refine ite2 (fun c => ?_) (fun c => ?_)
    · have e : n = 0 := V.int.inj (of_decide_eq_true c)
      refine ⟨by decide, fun l hl => ?_⟩
      refine kQ (fun z => by rcases z with z | ⟨z, _⟩ <;> (first | lia | omega)) _ l (same_new hl) hl ?_
      rw [upd_same]
      unfold cellPages
      rw [if_pos e]
      rfl
    have ne : ¬ n = 0 := fun z => c (decide_eq_true (by rw [z]))
    refine jt _ _ _ _ (hidX fun _ jt => ?_)
    refine ⟨_, rfl, _, _, rfl, rfl, _, rfl, ?_⟩
    refine ite2 (fun c' => ?_) (fun c' => ?_)
    · exact ⟨_, rfl, n, rfl, hn, _, rfl, g1, _, rfl, g2, g2, (by show 1 ≤ sizeLine; decide), kP (.inl (of_decide_eq_true c')) H (Same.refl H)⟩
    have nn : ¬ n < 0 := fun z => c' (decide_eq_true z)
    have n0 : 0 < n := by (first | lia | omega)
    refine jt _ _ _ _ ?_
    refine ⟨_, rfl, _, _, rfl, rfl, ⟨by decide, by decide⟩, _, rfl, _, rfl, _, _, rfl, rfl, _, _, rfl, rfl, _, _, rfl, rfl, ⟨by decide, by decide⟩, ?_⟩
    refine ⟨_, rfl, _, rfl, _, rfl, _, _, rfl, rfl, _, _, rfl, rfl, cFst ad, cCnt ad n, rfl, hf, hc, fun h => kP (.inr ⟨n0, .inl h⟩) H (Same.refl H), fun h H1 l s1 nl hl1 => ?_⟩
    refine ⟨_, rfl, _, rfl, a, l, ms, pagesL (cFst ad) (cCnt ad n), rfl, s1 _ _ ha, hl1, fun q hq => (pages_log h q hq).2.2, fun z => kP (.inr ⟨n0, .inr z⟩) _ s1, fun z => ⟨_, rfl, kQ (fun y => ?_) _ l s1 nl ?_⟩⟩
    · rcases y with y | ⟨_, y | y⟩
      · exact nn y
      · exact h y
      · exact y z
    · unfold cellPages
      rw [if_neg ne]
      exact hl1
end
end Rm

namespace Rm
open PySem L2
theorem cut_nat {ws : List Int} {s n : Nat} : cutV (ws.map V.int) (some (s : Int)) (some ((s : Int) + (n : Int))) = ((ws.drop s).take n).map V.int := by
  unfold cutV
  rw [List.length_map, HT.sIx_nat, show ((s : Int) + (n : Int)) = ((s + n : Nat) : Int) by push_cast; rfl, HT.sIx_nat, ← List.map_drop, ← List.map_take]
  congr 1
  by_cases h : s ≤ ws.length
  · rw [Nat.min_eq_left h]
    by_cases h2 : s + n ≤ ws.length
    · rw [Nat.min_eq_left h2, show s + n - s = n by (first | lia | omega)]
    · rw [Nat.min_eq_right (by (first | lia | omega)), List.take_of_length_le (by rw [List.length_drop]; (first | lia | omega)), List.take_of_length_le (by rw [List.length_drop]; (first | lia | omega))]
  · rw [Nat.min_eq_right (by (first | lia | omega)), Nat.min_eq_right (by (first | lia | omega)), List.drop_eq_nil_of_le (Nat.le_refl _), List.drop_eq_nil_of_le (by (first | lia | omega))]
    simp
theorem cut_to {ws : List Int} {s : Nat} : cutV (ws.map V.int) none (some (s : Int)) = (ws.take s).map V.int := by
  unfold cutV
  rw [List.length_map, HT.sIx_nat, show HT.sIx ws.length 0 none = 0 from rfl, List.drop_zero, Nat.sub_zero, ← List.map_take]
  congr 1
  by_cases h : s ≤ ws.length
  · rw [Nat.min_eq_left h]
  · rw [Nat.min_eq_right (by (first | lia | omega)), List.take_of_length_le (Nat.le_refl _), List.take_of_length_le (by (first | lia | omega))]
theorem cut_fromN {ws : List Int} {s : Nat} : cutV (ws.map V.int) (some (s : Int)) none = (ws.drop s).map V.int := by
  unfold cutV
  rw [List.length_map, HT.sIx_nat, show HT.sIx ws.length ws.length none = ws.length from rfl, ← List.map_drop, ← List.map_take]
  congr 1
  by_cases h : s ≤ ws.length
  · rw [Nat.min_eq_left h, List.take_of_length_le (by rw [List.length_drop]; (first | lia | omega))]
  · rw [Nat.min_eq_right (by (first | lia | omega)), List.drop_eq_nil_of_le (Nat.le_refl _), List.drop_eq_nil_of_le (by (first | lia | omega))]
    simp
theorem seq_keep {K : PySem.W.Frag} {H H' : Hp} {a : Addr} {xs : List V} (h : SqL K H a xs) (s : ∀ o, H a = some o → H' a = some o) : SqL K H' a xs := by
  rcases h with (h | ⟨o, h⟩) | h
  · exact .inl (.inl (s _ h))
  · exact .inl (.inr ⟨o, s _ h⟩)
  · exact .inr h
theorem pr_imp {α β : Type} {F G : α → β → Prop} (h : ∀ x y, F x y → G x y) : ∀ {xs : List α} {ys : List β}, Paired F xs ys → Paired G xs ys
  | _, _, .nil => .nil
  | _, _, .cons q t => .cons (h _ _ q) (pr_imp h t)
theorem paired_app {α β : Type} {F : α → β → Prop} {xs xs' : List α} {ys ys' : List β} (p : Paired F xs ys) (h : Paired F xs' ys') : Paired F (xs ++ xs') (ys ++ ys') := by
  induction p with
  | nil => exact h
  | cons q _ ih => exact .cons q ih
theorem paired_mem {α β : Type} {F : α → β → Prop} {x : α} {xs : List α} {ys : List β} (p : Paired F xs ys) (h : x ∈ xs) : ∃ y, F x y := by
  induction p with
  | nil => cases h
  | cons q _ ih =>
    rcases List.mem_cons.mp h with e | h
    · exact ⟨_, e ▸ q⟩
    · exact ih h
noncomputable def spWithin : Sp := fun vs H Q _ => ∃ (a : Addr) (ws : List Int) (ad : Int) (n : Nat), vs = [.ref a, .int ad, .int n] ∧ H a = some (.lst (ws.map V.int)) ∧
  ∀ (H' : Hp) (l : Addr), Same H H' → H l = none → H' l = some (.lst (((ws.drop (ad % 8).toNat).take n).map V.int)) → Q (.ref l) H'
noncomputable def splice (ws : List Int) (s : Nat) (cs : List Int) : List Int := ws.take s ++ cs ++ ws.drop (s + cs.length)
noncomputable def chunks (k : Nat) (ws : List Int) : List (List Int) := (List.range k).map fun i => (ws.drop (8 * i)).take 8
noncomputable def spWith (K : PySem.W.Frag) : Sp := fun vs H Q _ => ∃ (a c : Addr) (ws cs : List Int) (ad : Int) (k : Nat), vs = [.ref a, .int ad, .ref c] ∧ H a = some (.lst (ws.map V.int)) ∧ SqL K H c (cs.map V.int) ∧ ws.length ≤ 600 ∧ cs.length ≤ 600 ∧ k ≤ 64 ∧ (splice ws (ad % 8).toNat cs).length = 8 * k ∧
  ∀ (H' : Hp) (l : Addr) (rs : List Addr), Same H H' → H l = none → H' l = some (.lst (rs.map V.ref)) → Paired (fun r (row : List Int) => H' r = some (.lst (row.map V.int))) rs (chunks k (splice ws (ad % 8).toNat cs)) → (∀ r ∈ rs, H r = none) → rs.Nodup → Q (.ref l) H'
theorem rng8 : ∀ k : Nat, k < 65 → Builtin.Range.small 0 (8 * (k : Int)) 8 = true ∧ Builtin.Range.rangeSize 0 (8 * (k : Int)) 8 = (k : Int) ∧ Builtin.divisionGoesByPylong (8 * (k : Int) - 0) 8 = false := by decide +kernel
section
variable {P : Program} {w : World} {K : PySem.W.Frag} {mg : Str → Option Value} {base : Heap}
theorem scWi : FnScope ["whole", "address", "many", "start"] ["whole", "address", "many"] (defScope sWithin) := ⟨rfl, rfl, rfl, by decide +kernel, rfl, by decide +kernel, by decide +kernel⟩
theorem ok_within {f : Addr} {fd : FuncData} (F : Fun K "run_within" "run_within" sWithin f fd) (T : STxt mg) : FnOk P w K mg base CX0 1 f fd ["whole", "address", "many"] spWithin := by
  obtain ⟨u8, m8, r8⟩ := T.cells
  refine F.ok scWi (fun vs H Q E h => ?_) (fun cdv A outer s H vs Q E hr h => ?_)
  · obtain ⟨a, ws, ad, n, rfl, _⟩ := h
    rfl
  · obtain ⟨a, ws, ad, n, rfl, ha, k⟩ := h
    refine ⟨_, (pss_cons (ps_set (i := 3) scWi.nd rfl (Or.inl rfl) (pe_op op_mod (pv 1) (pe_glob (by rfl) m8 r8)))
      (pss_one (ps_ret (pe_slice sl_list (pv 0) (po_some (pv 3)) (po_some (pe_op op_add (pv 3) (pv 2))))))), ?_⟩
    refine ⟨_, rfl, _, _, rfl, rfl, (by show (0 : Int) < 8; decide), ?_⟩
    have m0 := Int.emod_nonneg ad (show (8 : Int) ≠ 0 by decide)
    refine ⟨_, rfl, _, rfl, ad % 8, rfl, _, rfl, _, rfl, _, _, rfl, rfl, ad % 8 + n, rfl, a, _, rfl, SqL.of ha, fun l hl => ?_⟩
    have e : ad % 8 = ((ad % 8).toNat : Int) := (Int.toNat_of_nonneg m0).symm
    have ec : cutV (ws.map V.int) (some (ad % 8)) (some (ad % 8 + n)) = ((ws.drop (ad % 8).toNat).take n).map V.int := by
      rw [e]; exact cut_nat
    exact k _ l (same_new hl) hl (by rw [upd_same, ec])
theorem scWw : FnScope ["whole", "address", "cells", "start", "changed"] ["whole", "address", "cells"] (defScope sWith) := ⟨rfl, rfl, rfl, by decide +kernel, rfl, by decide +kernel, by decide +kernel⟩
set_option maxHeartbeats 4000000 in
theorem ok_with {f : Addr} {fd : FuncData} (F : Fun K "pages_with" "pages_with" sWith f fd) (T : STxt mg) : FnOk P w K mg base CX0 1 f fd ["whole", "address", "cells"] (spWith K) := by
  obtain ⟨u8, m8, r8⟩ := T.cells
  refine F.ok scWw (fun vs H Q E h => ?_) (fun cdv A outer s H vs Q E hr h => ?_)
  · obtain ⟨a, c, ws, cs, ad, j, rfl, _⟩ := h
    rfl
  · obtain ⟨a, c, ws, cs, ad, j, rfl, ha, hc, hw, hcl, hj, lsp, k⟩ := h
    have hs : sizeLine = 16777216 := sizeLine_eq
    refine ⟨_, (pss_cons (ps_set (i := 3) scWw.nd rfl (Or.inl rfl) (pe_op op_mod (pv 1) (pe_glob (by rfl) m8 r8)))
      (pss_cons (ps_set (i := 4) scWw.nd rfl (Or.inr rfl) (pe_op op_cat (pe_op op_cat (pe_slice sl_list (pv 0) po_none (po_some (pv 3))) (pe_callTy call_list_of (by rfl) T.list bt_list (pa_cons (pv 2) pa_nil))) (pe_slice sl_list (pv 0) (po_some (pe_op op_add (pv 3) (pe_callB call_len_seq (by rfl) T.len PySem.boot_len (pa_cons (pv 2) pa_nil)))) po_none)))
      (pss_one (ps_ret (pe_comp (cl := [("changed", s.heap.objs.size + 1)]) (caps := [("changed", 4)]) ⟨rfl, by decide +kernel, by decide +kernel, rfl, by kernel_rfl, by intro p hp; simp only [List.mem_cons, List.not_mem_nil, or_false] at hp; rcases hp with rfl <;> first | rfl | exact ⟨rfl, .inl rfl, .inl rfl⟩ | exact ⟨rfl, .inl rfl, .inr rfl⟩, by kernel_rfl, by intro p hp; simp only [List.mem_cons, List.not_mem_nil, or_false] at hp; rcases hp with rfl <;> first | rfl | exact ⟨rfl, .inl rfl, .inl rfl⟩ | exact ⟨rfl, .inl rfl, .inr rfl⟩, by decide +kernel⟩ rfl (pi_range3 (by rfl) T.range (pa_cons pe_int (pa_cons (pe_callB call_len_seq (by rfl) T.len PySem.boot_len (pa_cons (pv 4) pa_nil)) (pa_cons (pe_glob (by rfl) m8 r8) pa_nil)))) (fun _ _ _ _ => pts_nil) (fun _ _ _ _ => (pe_slice (show SlR _ (rSlL K) from sl_list) (pv 1) (po_some (pv 0)) (po_some (pe_op op_add (pv 0) (pe_glob (by rfl) m8 r8)))))))))), ?_⟩
    refine hidN fun _ jt => ?_
    refine ⟨_, rfl, _, _, rfl, rfl, (by show (0 : Int) < 8; decide), ?_⟩
    have m0 := Int.emod_nonneg ad (show (8 : Int) ≠ 0 by decide)
    have e : ad % 8 = ((ad % 8).toNat : Int) := (Int.toNat_of_nonneg m0).symm
    refine jt _ _ ?_
    show tSeq _ _ _ [some (V.ref a), some (.int ad), some (.ref c), some (.int (ad % 8)), none] H
    rw [e]
    generalize (ad % 8).toNat = st at *
    clear e m0
    refine hidN fun _ jt => ?_
    refine ⟨_, rfl, _, rfl, (st : Int), rfl, a, _, rfl, SqL.of ha, fun l1 hl1 => ?_⟩
    rw [cut_to]
    have s1 := same_new (X := .lst ((ws.take st).map V.int)) hl1
    have e1 : (upd H l1 (.lst ((ws.take st).map V.int))) l1 = some (.lst ((ws.take st).map V.int)) := upd_same
    refine ⟨_, rfl, c, _, rfl, .inl (seq_keep hc (s1 _)), fun l2 hl2 => ?_⟩
    have s2 := same_new (X := .lst (cs.map V.int)) hl2
    refine ⟨l1, l2, _, _, rfl, rfl, s2 _ _ e1, upd_same, by rw [List.length_map, List.length_map, List.length_take]; (first | lia | omega), fun l3 hl3 => ?_⟩
    rw [← List.map_append]
    have s3 := same_new (X := .lst ((ws.take st ++ cs).map V.int)) hl3
    have S3 := (s1.trans s2).trans s3
    have e3 : (upd (upd (upd H l1 (.lst ((ws.take st).map V.int))) l2 (.lst (cs.map V.int))) l3 (.lst ((ws.take st ++ cs).map V.int))) l3 = some (.lst ((ws.take st ++ cs).map V.int)) := upd_same
    generalize upd (upd (upd H l1 (.lst ((ws.take st).map V.int))) l2 (.lst (cs.map V.int))) l3 (.lst ((ws.take st ++ cs).map V.int)) = H3 at *
    refine ⟨_, rfl, _, rfl, _, rfl, c, _, rfl, .inl (seq_keep hc (S3 _)), _, _, rfl, rfl, _, rfl, a, _, rfl, SqL.of (S3 _ _ ha), fun l4 hl4 => ?_⟩
    rw [show ((st : Int) + ((cs.map V.int).length : Nat)) = ((st + cs.length : Nat) : Int) by rw [List.length_map]; push_cast; rfl, cut_fromN]
    have s4 := same_new (X := .lst ((ws.drop (st + cs.length)).map V.int)) hl4
    refine ⟨l3, l4, _, _, rfl, rfl, s4 _ _ e3, upd_same, by rw [List.length_map, List.length_map, List.length_append, List.length_take, List.length_drop]; (first | lia | omega), fun l5 hl5 => ?_⟩
    rw [← List.map_append, show ws.take st ++ cs ++ ws.drop (st + cs.length) = splice ws st cs from rfl]
    have S5 : Same H (upd (upd H3 l4 (.lst ((ws.drop (st + cs.length)).map V.int))) l5 (.lst ((splice ws st cs).map V.int))) := (S3.trans s4).trans (same_new hl5)
    have e5 : (upd (upd H3 l4 (.lst ((ws.drop (st + cs.length)).map V.int))) l5 (.lst ((splice ws st cs).map V.int))) l5 = some (.lst ((splice ws st cs).map V.int)) := upd_same
    generalize upd (upd H3 l4 (.lst ((ws.drop (st + cs.length)).map V.int))) l5 (.lst ((splice ws st cs).map V.int)) = H5 at *
    generalize splice ws st cs = sp at *
    obtain ⟨r1, r2, r3⟩ := rng8 j (by (first | lia | omega))
    refine jt _ _ (hidR fun _ jr => ?_)
    refine ⟨_, rfl, l5, _, rfl, .inl (SqL.of e5), 0, 8 * (j : Int), 8, j, by rw [List.length_map, lsp]; push_cast; rfl, r1, r2, by decide, r3, ?_⟩
    refine comp_rangeS0 (lo := 0) (st := 8) (n := j) (fun i ys H6 => ∃ rs : List Addr, ys = rs.map V.ref ∧ rs.length = i ∧ Paired (fun r (row : List Int) => H6 r = some (.lst (row.map V.int))) rs (chunks i sp) ∧ Same H5 H6 ∧ (∀ r ∈ rs, H5 r = none) ∧ rs.Nodup) ⟨[], rfl, rfl, .nil, Same.refl _, (fun _ h => nomatch h), List.nodup_nil⟩ ?_ ?_
    · rintro i ys H6 hi ⟨rs, rfl, hr1, hp, s6, hn, nd⟩
      refine ⟨_, rfl, _, rfl, _, rfl, _, rfl, _, _, rfl, rfl, _, rfl, l5, _, rfl, SqL.of (s6 _ _ e5), fun r hr0 => ?_⟩
      rw [show (0 + (i : Int) * 8) = ((8 * i : Nat) : Int) by push_cast; (first | lia | omega), show (((8 * i : Nat) : Int) + 8) = ((8 * i : Nat) : Int) + ((8 : Nat) : Int) from rfl, cut_nat]
      have sr := same_new (X := .lst (((sp.drop (8 * i)).take 8).map V.int)) hr0
      refine ⟨by rw [List.length_map]; (first | lia | omega), rs ++ [r], by rw [List.map_append]; rfl, by rw [List.length_append, hr1]; rfl, ?_, s6.trans sr, fun x hx => ?_, ?_⟩
      · unfold chunks at hp ⊢
        rw [List.range_succ, List.map_append]
        exact paired_app (pr_imp (fun x y h => sr _ _ h) hp) (.cons upd_same .nil)
      · rcases List.mem_append.mp hx with hx | hx
        · exact hn x hx
        · rw [List.mem_singleton.mp hx]; exact s6.free hr0
      · refine List.nodup_append.mpr ⟨nd, List.nodup_cons.mpr ⟨by simp, List.nodup_nil⟩, fun x hx y hy => ?_⟩
        rw [List.mem_singleton.mp hy]
        intro z
        obtain ⟨row, hrow⟩ := paired_mem hp hx
        rw [z, hr0] at hrow
        cases hrow
    · rintro ys H6 ⟨rs, rfl, hr1, hp, s6, hn, nd⟩ l6 hl6
      have s7 := same_new (X := .lst (rs.map V.ref)) hl6
      exact jr _ _ (k _ l6 rs ((S5.trans s6).trans s7) ((S5.trans s6).free hl6) upd_same (pr_imp (fun x y h => s7 _ _ h) hp) (fun r h => S5.free (hn r h)) nd)
end
end Rm

namespace Rm
open PySem L2
section
variable {α : Type}
noncomputable def look (l : List (Int × α)) (k : Int) : Option α := (l.find? fun x => decide (x.1 = k)).map (·.2)
noncomputable def dk (f : α → V) (l : List (Int × α)) : List (Key × V) := l.map fun x => (Sum.inl x.1, f x.2)
noncomputable def setA (l : List (Int × α)) (k : Int) (a : α) : List (Int × α) := l.map fun x => if x.1 = k then (k, a) else x
noncomputable def delA (l : List (Int × α)) (k : Int) : List (Int × α) := l.filter fun x => decide (x.1 ≠ k)
theorem look_nil (k : Int) : look ([] : List (Int × α)) k = none := rfl
theorem look_cons (x : Int × α) (l : List (Int × α)) (k : Int) : look (x :: l) k = if x.1 = k then some x.2 else look l k := by
  unfold look
  rw [List.find?_cons]
  by_cases h : x.1 = k
  · rw [decide_eq_true h, if_pos h]; rfl
  · rw [decide_eq_false h, if_neg h]
theorem valV_dk (f : α → V) (k : Int) : ∀ l : List (Int × α), valV (dk f l) (Sum.inl k) = (look l k).map f
  | [] => rfl
  | x :: l => by
    have ih := valV_dk f k l
    show valV ((Sum.inl x.1, f x.2) :: dk f l) (Sum.inl k) = _
    rw [look_cons]
    by_cases h : x.1 = k
    · rw [if_pos h, valV_pos (by rw [h])]; rfl
    · rw [if_neg h, valV_neg (fun e => h (Sum.inl.inj e)), ih]
theorem look_mem {l : List (Int × α)} {k : Int} {a : α} (h : look l k = some a) : (k, a) ∈ l := by
  unfold look at h
  obtain ⟨x, hx, e⟩ := Option.map_eq_some_iff.mp h
  have h1 := List.mem_of_find?_eq_some hx
  have h2 : x.1 = k := by simpa using List.find?_some hx
  rw [← h2, ← e]
  exact h1
theorem look_none {l : List (Int × α)} {k : Int} (h : look l k = none) : ¬ k ∈ l.map (·.1) := by
  unfold look at h
  rw [Option.map_eq_none_iff, List.find?_eq_none] at h
  rintro m
  obtain ⟨x, hx, e⟩ := List.mem_map.mp m
  exact h x hx (decide_eq_true e)
theorem look_some {l : List (Int × α)} {k : Int} {a : α} (nd : (l.map (·.1)).Nodup) (h : (k, a) ∈ l) : look l k = some a := by
  induction l with
  | nil => cases h
  | cons x l ih =>
    rw [look_cons]
    obtain ⟨n1, n2⟩ := List.nodup_cons.mp (show (x.1 :: l.map (·.1)).Nodup from nd)
    rcases List.mem_cons.mp h with e | m
    · rw [← e, if_pos rfl]
    · have : ¬ x.1 = k := fun e => n1 (e ▸ List.mem_map.mpr ⟨_, m, rfl⟩)
      rw [if_neg this]
      exact ih n2 m
theorem any_dk (f : α → V) (l : List (Int × α)) (k : Int) : ((dk f l).any fun kv => decide (kv.1 = Sum.inl k)) = (look l k).isSome := by
  rw [valV_any, valV_dk]
  cases look l k <;> rfl
theorem putK_new' {f : α → V} {l : List (Int × α)} {k : Int} {a : α} (h : look l k = none) : putK (dk f l) (Sum.inl k) (f a) = dk f (l ++ [(k, a)]) := by
  rw [putK_new _ (by rw [valV_dk, h]; rfl)]
  unfold dk
  rw [List.map_append]
  rfl
theorem putK_old {f : α → V} {l : List (Int × α)} {k : Int} {a b : α} (h : look l k = some b) : putK (dk f l) (Sum.inl k) (f a) = dk f (setA l k a) := by
  unfold putK
  rw [if_pos (by rw [any_dk, h]; rfl)]
  unfold dk setA
  rw [List.map_map, List.map_map]
  congr 1
  funext x
  show (if (Sum.inl x.1 : Key) = Sum.inl k then ((Sum.inl x.1 : Key), f a) else (Sum.inl x.1, f x.2)) = ((Sum.inl (if x.1 = k then (k, a) else x).1 : Key), f (if x.1 = k then (k, a) else x).2)
  by_cases e : x.1 = k
  · rw [if_pos (by rw [e]), if_pos e, e]
  · rw [if_neg (fun z => e (Sum.inl.inj z)), if_neg e]
theorem dropK_dk (f : α → V) (l : List (Int × α)) (k : Int) : dropK (dk f l) (Sum.inl k) = dk f (delA l k) := by
  unfold dropK dk delA
  rw [List.filter_map]
  congr 1
  congr 1
  funext x
  show decide (¬ (Sum.inl x.1 : Key) = Sum.inl k) = decide (¬ x.1 = k)
  by_cases e : x.1 = k
  · rw [e]; simp
  · simp [e]
theorem look_snoc {l : List (Int × α)} {k : Int} {a : α} (j : Int) (h : look l k = none) : look (l ++ [(k, a)]) j = if j = k then some a else look l j := by
  induction l with
  | nil =>
    show look [(k, a)] j = _
    rw [look_cons, look_nil]
    by_cases e : j = k
    · rw [if_pos e, if_pos e.symm]
    · rw [if_neg e, if_neg (Ne.symm e)]
  | cons x l ih =>
    rw [look_cons] at h
    by_cases e : x.1 = k
    · rw [if_pos e] at h; cases h
    · rw [if_neg e] at h
      show look (x :: (l ++ [(k, a)])) j = _
      rw [look_cons, look_cons, ih h]
      by_cases e2 : x.1 = j
      · rw [if_pos e2, if_pos e2, if_neg (fun z => e (e2.trans z))]
      · rw [if_neg e2, if_neg e2]
end

noncomputable abbrev Room := List (Int × Addr × List Int)
noncomputable def fP (x : Addr × List Int) : V := .ref x.1
noncomputable abbrev kvP (R : Room) : List (Key × V) := dk fP R
noncomputable abbrev Rms := List (Int × Addr × Room)
noncomputable def fR (x : Addr × Room) : V := .ref x.1
noncomputable abbrev kvR (W : Rms) : List (Key × V) := dk fR W
/-- all is kept but what B names -/
noncomputable def Off (B : Addr → Prop) (H H' : Hp) : Prop := ∀ b o, H b = some o → ¬ B b → H' b = some o
structure RoomAt (H : Hp) (a : Addr) (R : Room) : Prop where
  hd : H a = some (.dK (kvP R))
  hr : ∀ x ∈ R, H x.2.1 = some (.lst (x.2.2.map V.int)) ∧ x.2.2.length = 8
  nd : (R.map (·.1)).Nodup
  rg : ∀ x ∈ R, 0 ≤ x.1 ∧ x.1 < 64
structure RmsAt (H : Hp) (a : Addr) (W : Rms) : Prop where
  hd : H a = some (.dK (kvR W))
  rm : ∀ x ∈ W, RoomAt H x.2.1 x.2.2
  nd : (W.map (·.1)).Nodup
  sp : (W.map (·.2.1)).Nodup
  ne : ∀ x ∈ W, x.2.1 ≠ a
theorem RoomAt.same {H H' : Hp} {a : Addr} {R : Room} (r : RoomAt H a R) (s : Same H H') : RoomAt H' a R := ⟨s _ _ r.hd, fun x hx => ⟨s _ _ (r.hr x hx).1, (r.hr x hx).2⟩, r.nd, r.rg⟩
theorem RmsAt.same {H H' : Hp} {a : Addr} {W : Rms} (r : RmsAt H a W) (s : Same H H') : RmsAt H' a W := ⟨s _ _ r.hd, fun x hx => (r.rm x hx).same s, r.nd, r.sp, r.ne⟩
theorem RoomAt.off {B : Addr → Prop} {H H' : Hp} {a : Addr} {R : Room} (r : RoomAt H a R) (o : Off B H H') (n : ¬ B a) (nl : ∀ b xs, H b = some (.lst xs) → ¬ B b) : RoomAt H' a R :=
  ⟨o _ _ r.hd n, fun x hx => ⟨o _ _ (r.hr x hx).1 (nl _ _ (r.hr x hx).1), (r.hr x hx).2⟩, r.nd, r.rg⟩
theorem kt1 : ¬ (("total" : Str) = "rooms") := by decide +kernel
noncomputable def flds (t : Int) (a : Addr) : List (Str × V) := putF "rooms" (.ref a) (putF "total" (.int t) [])
theorem flds_r (t : Int) (a : Addr) : (flds t a).lookup ("rooms" : Str) = some (.ref a) := by
  unfold flds
  rw [lookup_putF, if_pos rfl]
theorem flds_t (t : Int) (a : Addr) : (flds t a).lookup ("total" : Str) = some (.int t) := by
  unfold flds
  rw [lookup_putF, if_neg kt1, lookup_putF, if_pos rfl]
theorem flds_no (t : Int) (a : Addr) {m : Str} (h1 : ¬ m = "rooms") (h2 : ¬ m = "total") : (flds t a).lookup m = none := by
  unfold flds
  rw [lookup_putF, if_neg h1, lookup_putF, if_neg h2]
  rfl
structure PRAt (C : Addr) (H : Hp) (p a : Addr) (t : Int) (W : Rms) : Prop where
  ob : ∃ dx, H p = some (.ins C dx (flds t a))
  R : RmsAt H a W
theorem PRAt.same {C : Addr} {H H' : Hp} {p a : Addr} {t : Int} {W : Rms} (r : PRAt C H p a t W) (s : Same H H') : PRAt C H' p a t W := let ⟨dx, h⟩ := r.ob; ⟨⟨dx, s _ _ h⟩, r.R.same s⟩
structure Txt (K : PySem.W.Frag) (mg : Str → Option Value) (C : Addr) : Prop where
  cl : Cls K C
  nT : NoAttr K C "total"
  nR : NoAttr K C "rooms"
  len : mg "len" = none
  list : mg "list" = none
  sum : mg "sum" = none
  zip : mg "zip" = none
noncomputable abbrev sInit : Stmt := inClass (top 20) 0
noncomputable abbrev sBegin : Stmt := inClass (top 20) 1
noncomputable abbrev sClose : Stmt := inClass (top 20) 2
noncomputable abbrev sMap : Stmt := inClass (top 20) 3
noncomputable abbrev sDrop : Stmt := inClass (top 20) 4
noncomputable abbrev sPeek : Stmt := inClass (top 20) 5
noncomputable abbrev sPoke : Stmt := inClass (top 20) 6
noncomputable abbrev sCopy : Stmt := inClass (top 20) 7
noncomputable abbrev sHeld : Stmt := inClass (top 20) 8
noncomputable def spRoomOf (CN : Addr) : Sp := fun vs H Q E => ∃ (a : Addr) (W : Rms) (t : Int), vs = [.ref a, .int t] ∧ H a = some (.dK (kvR W)) ∧ t.natAbs.log2 < 1920 ∧ (look W t = none → E (.ref CN) none H) ∧ (∀ x, look W t = some x → Q (.ref x.1) H)
noncomputable def spSecond (CT : Addr) : Sp := fun vs H Q E => ∃ (a : Addr) (W : Rms) (t : Int), vs = [.ref a, .int t] ∧ H a = some (.dK (kvR W)) ∧ t.natAbs.log2 < 1920 ∧ ((∃ x, look W t = some x) → E (.ref CT) none H) ∧ (look W t = none → Q .non H)
noncomputable def spAbove (CR : Addr) : Sp := fun vs H Q E => ∃ h t : Int, vs = [.int h, .int t] ∧ h.natAbs.log2 < 1920 ∧ t.natAbs.log2 < 1920 ∧ (t < h → E (.ref CR) none H) ∧ (¬ t < h → Q .non H)
theorem get_dk {α : Type} {f : α → V} {H : Hp} {a : Addr} {l : List (Int × α)} {t : Int} (h : H a = some (.dK (dk f l))) : DGet H a (.int t) ((look l t).map f) := by
  have q := DGet.k (k := Sum.inl t) h
  rw [valV_dk] at q
  exact q
theorem dk_len {α : Type} (f : α → V) (l : List (Int × α)) : (dk f l).length = l.length := by unfold dk; rw [List.length_map]
noncomputable def spInit (C : Addr) : Sp := fun vs H Q _ => ∃ (p dx : Addr) (t : Int), vs = [.ref p, .int t] ∧ H p = some (.ins C dx []) ∧ ∀ (H' : Hp) (a : Addr), H a = none → PRAt C H' p a t [] → Off (· = p) H H' → Q .non H'
noncomputable def spBegin (C CT : Addr) : Sp := fun vs H Q E => ∃ (p a : Addr) (tot t : Int) (W : Rms), vs = [.ref p, .int t] ∧ PRAt C H p a tot W ∧ t.natAbs.log2 < 1920 ∧ W.length ≤ 1000 ∧ ((∃ x, look W t = some x) → E (.ref CT) none H) ∧
  (look W t = none → ∀ (H' : Hp) (r : Addr), H r = none → PRAt C H' p a tot (W ++ [(t, r, [])]) → Off (· = a) H H' → Q .non H')
theorem spBegin_in {C CT : Addr} {H : Hp} {Q : V → Hp → Prop} {E} (p a : Addr) (tot t : Int) (W : Rms) (h1 : PRAt C H p a tot W) (h2 : t.natAbs.log2 < 1920) (h3 : W.length ≤ 1000) (h4 : ((∃ x, look W t = some x) → E (.ref CT) none H)) (h5 : (look W t = none → ∀ (H' : Hp) (r : Addr), H r = none → PRAt C H' p a tot (W ++ [(t, r, [])]) → Off (· = a) H H' → Q .non H')) : spBegin C CT [.ref p, .int t] H Q E := ⟨p, a, tot, t, W, rfl, h1, h2, h3, h4, h5⟩
noncomputable def spClose (C CN : Addr) : Sp := fun vs H Q E => ∃ (p a : Addr) (tot t : Int) (W : Rms), vs = [.ref p, .int t] ∧ PRAt C H p a tot W ∧ t.natAbs.log2 < 1920 ∧ (look W t = none → E (.ref CN) none H) ∧
  ((∃ x, look W t = some x) → ∀ H', PRAt C H' p a tot (delA W t) → Off (· = a) H H' → Q .non H')
theorem dk_ne_ins {H : Hp} {a b C dx : Addr} {kvs : List (Key × V)} {fs : List (Str × V)} (h : H a = some (.dK kvs)) (h' : H b = some (.ins C dx fs)) : a ≠ b := ne_of h h' (by intro z; cases z)
theorem dk_ne_lst {H : Hp} {a b : Addr} {kvs : List (Key × V)} {xs : List V} (h : H a = some (.dK kvs)) (h' : H b = some (.lst xs)) : a ≠ b := ne_of h h' (by intro z; cases z)
/-- the rooms' own dict is written: the rooms stay -/
theorem RoomAt.upd {H : Hp} {a b : Addr} {R : Room} {o : HO} (r : RoomAt H b R) (n : b ≠ a) (h : ∃ kvs, H a = some (.dK kvs)) : RoomAt (upd H a o) b R := by
  obtain ⟨kvs, h⟩ := h
  exact ⟨by rw [upd_ne n]; exact r.hd, fun x hx => ⟨by rw [upd_ne (Ne.symm (dk_ne_lst h (r.hr x hx).1))]; exact (r.hr x hx).1, (r.hr x hx).2⟩, r.nd, r.rg⟩
section
variable {P : Program} {w : World} {K : PySem.W.Frag} {mg : Str → Option Value} {base : Heap}
theorem scRo : FnScope ["rooms", "task"] ["rooms", "task"] (defScope sRoomOf) := ⟨rfl, rfl, rfl, by decide +kernel, rfl, by decide +kernel, by decide +kernel⟩
theorem ok_roomOf {f CN : Addr} {fd : FuncData} (F : Fun K "room_of" "room_of" sRoomOf f fd) (XT : XTxt K mg "NoTask" CN) : FnOk P w K mg base (CXO P w) 1 f fd ["rooms", "task"] (spRoomOf CN) := by
  refine F.okx scRo (fun vs H Q E h => ?_) (fun cdv A outer s H vs Q E hr h => ?_)
  · obtain ⟨a, W, t, rfl, _⟩ := h
    rfl
  · obtain ⟨a, W, t, rfl, ha, ht, kE, kQ⟩ := h
    have hs : sizeLine = 16777216 := sizeLine_eq
    refine ⟨_, (pssx_cons (psx_if (pt_cmp (pc_dnotin (hu_of hr) (pv 1) (pv 0))) (pssx_one (psx_raise rfl XT.mgN XT.exN rfl rfl (pa_cons (pe_join (pj_cons (pe_fv (pv 1)) (pj_cons pe_str pj_nil))) pa_nil))) pssx_nil)
      (pssx_of (pss_one (ps_ret (pe_dget (hu_of hr) (pv 0) (pv 1) (fun _ _ => rfl)))))), ?_⟩
    have l1 := len_int ht
    have c0 : (Str.empty : Str).length = 0 := rfl
    have c1 : (Str.ofString " has no room").length = 12 := by decide +kernel
    have g1 : (Str.empty ++ toString t : Str).length ≤ sizeLine := by rw [len_app, c0]; (first | lia | omega)
    have g2 : (Str.empty ++ toString t ++ Str.ofString " has no room" : Str).length ≤ sizeLine := by rw [len_app, len_app, c0, c1]; (first | lia | omega)
    have hg := get_dk (t := t) ha
    refine ⟨_, rfl, _, rfl, a, _, rfl, hg, _, rfl, ?_⟩
    cases e : look W t with
    | none => exact iteT ⟨_, rfl, t, rfl, ht, _, rfl, g1, _, rfl, g2, g2, (by show 1 ≤ sizeLine; decide), kE e⟩
    | some x =>
      rw [e] at hg
      exact iteF ⟨_, rfl, _, rfl, a, fR x, rfl, hg, kQ x e⟩
theorem scSe : FnScope ["rooms", "task"] ["rooms", "task"] (defScope sSecond) := ⟨rfl, rfl, rfl, by decide +kernel, rfl, by decide +kernel, by decide +kernel⟩
theorem ok_second {f CT : Addr} {fd : FuncData} (F : Fun K "refuse_second_room" "refuse_second_room" sSecond f fd) (XK : XTxt K mg "Taken" CT) : FnOk P w K mg base (CXO P w) 1 f fd ["rooms", "task"] (spSecond CT) := by
  refine F.okx scSe (fun vs H Q E h => ?_) (fun cdv A outer s H vs Q E hr h => ?_)
  · obtain ⟨a, W, t, rfl, _⟩ := h
    rfl
  · obtain ⟨a, W, t, rfl, ha, ht, kE, kQ⟩ := h
    have hs : sizeLine = 16777216 := sizeLine_eq
    refine ⟨_, (pssx_one (psx_if (pt_cmp (pc_din (hu_of hr) (pv 1) (pv 0))) (pssx_one (psx_raise rfl XK.mgN XK.exN rfl rfl (pa_cons (pe_join (pj_cons (pe_fv (pv 1)) (pj_cons pe_str pj_nil))) pa_nil))) pssx_nil)), ?_⟩
    have l1 := len_int ht
    have c0 : (Str.empty : Str).length = 0 := rfl
    have c1 : (Str.ofString " has a room").length = 11 := by decide +kernel
    have g1 : (Str.empty ++ toString t : Str).length ≤ sizeLine := by rw [len_app, c0]; (first | lia | omega)
    have g2 : (Str.empty ++ toString t ++ Str.ofString " has a room" : Str).length ≤ sizeLine := by rw [len_app, len_app, c0, c1]; (first | lia | omega)
    refine ⟨_, rfl, _, rfl, a, _, rfl, get_dk (t := t) ha, _, rfl, ?_⟩
    cases e : look W t with
    | none => exact iteF (kQ e)
    | some x => exact iteT ⟨_, rfl, t, rfl, ht, _, rfl, g1, _, rfl, g2, g2, (by show 1 ≤ sizeLine; decide), kE ⟨x, e⟩⟩
theorem scAb : FnScope ["held", "total"] ["held", "total"] (defScope sAbove) := ⟨rfl, rfl, rfl, by decide +kernel, rfl, by decide +kernel, by decide +kernel⟩
theorem ok_above {f CR : Addr} {fd : FuncData} (F : Fun K "refuse_above" "refuse_above" sAbove f fd) (XR : XTxt K mg "NoRoom" CR) : FnOk P w K mg base (CXO P w) 1 f fd ["held", "total"] (spAbove CR) := by
  refine F.okx scAb (fun vs H Q E h => ?_) (fun cdv A outer s H vs Q E hr h => ?_)
  · obtain ⟨h, t, rfl, _⟩ := h
    rfl
  · obtain ⟨h, t, rfl, hh, ht, kE, kQ⟩ := h
    have hs : sizeLine = 16777216 := sizeLine_eq
    refine ⟨_, (pssx_one (psx_if (pt_cmpR op_gt (pv 0) (pv 1) (nomark _)) (pssx_one (psx_raise rfl XR.mgN XR.exN rfl rfl (pa_cons (pe_join (pj_cons (pe_fv (pv 0)) (pj_cons pe_str (pj_cons (pe_fv (pv 1)) pj_nil)))) pa_nil))) pssx_nil)), ?_⟩
    have l1 := len_int hh
    have l2 := len_int ht
    have c0 : (Str.empty : Str).length = 0 := rfl
    have c1 : (Str.ofString " pages are more than ").length = 21 := by decide +kernel
    have g1 : (Str.empty ++ toString h : Str).length ≤ sizeLine := by rw [len_app, c0]; (first | lia | omega)
    have g2 : (Str.empty ++ toString h ++ Str.ofString " pages are more than " : Str).length ≤ sizeLine := by rw [len_app, len_app, c0, c1]; (first | lia | omega)
    have g3 : (Str.empty ++ toString h ++ Str.ofString " pages are more than " ++ toString t : Str).length ≤ sizeLine := by rw [len_app, len_app, len_app, c0, c1]; (first | lia | omega)
    refine ⟨_, rfl, _, rfl, _, _, rfl, rfl, _, rfl, ?_⟩
    refine ite2 (fun c => ?_) (fun c => ?_)
    · exact ⟨_, rfl, h, rfl, hh, _, rfl, g1, _, rfl, g2, _, rfl, t, rfl, ht, _, rfl, g3, g3, (by show 1 ≤ sizeLine; decide), kE (of_decide_eq_true c)⟩
    · exact kQ fun z => c (decide_eq_true z)
theorem scBe : FnScope ["self", "task"] ["self", "task"] (defScope sBegin) := ⟨rfl, rfl, rfl, by decide +kernel, rfl, by decide +kernel, by decide +kernel⟩
theorem ok_begin {f C CT fS : Addr} {fd dS : FuncData} (F : Fun K "begin" "PlainRooms.begin" sBegin f fd) (T : Txt K mg C)
    (GS : FnOk P w K mg base (CXO P w) 1 fS dS ["rooms", "task"] (spSecond CT)) (DS : Def K mg "refuse_second_room" fS dS ["rooms", "task"]) : FnOk P w K mg base (CXO P w) 2 f fd ["self", "task"] (spBegin C CT) := by
  refine F.okx scBe (fun vs H Q E h => ?_) (fun cdv A outer s H vs Q E hr h => ?_)
  · obtain ⟨p, a, tot, t, W, rfl, _⟩ := h
    rfl
  · obtain ⟨p, a, tot, t, W, rfl, D, ht, lw, kE, kQ⟩ := h
    have hs : sizeLine = 16777216 := sizeLine_eq
    obtain ⟨dx, h1⟩ := id D.ob
    refine ⟨_, (pssx_cons (psx_expr (pex_call GS (hr.mono (by decide)) rfl (by rfl) DS.mg DS.kp DS.b .nil (pa_cons (pe_fld (pv 0) rfl) (pa_cons (pv 1) pa_nil))))
      (pssx_of (pss_one (ps_dput (hu_of hr) (pe_fld (pv 0) rfl) (pv 1) pe_dnewK rfl)))), ?_⟩
    refine ⟨_, rfl, p, C, dx, _, _, rfl, h1, T.cl, T.nR, flds_r _ _, _, rfl, a, W, t, rfl, D.R.hd, ht, kE, fun hn => ?_⟩
    intro r hr0
    have sr := same_new (X := .dK []) hr0
    have D1 := D.same sr
    have er : (upd H r (.dK [])) r = some (.dK []) := upd_same
    have nra : r ≠ a := Ne.symm (ne_of_none D.R.hd hr0)
    refine ⟨_, rfl, p, C, dx, _, _, rfl, sr _ _ h1, T.cl, T.nR, flds_r _ _, _, rfl, a, _, rfl, DPut.k (k := Sum.inl t) D1.R.hd (by rw [dk_len]; (first | lia | omega)), ?_⟩
    rw [show (V.ref r) = fR (r, ([] : Room)) from rfl, putK_new' hn]
    generalize upd H r (.dK []) = H1 at *
    have h1' : H1 p = some (.ins C dx (flds tot a)) := sr _ _ h1
    refine kQ hn _ r hr0 ⟨⟨dx, by rw [upd_ne (Ne.symm (dk_ne_ins D1.R.hd h1'))]; exact h1'⟩, upd_same, fun x hx => ?_, ?_, ?_, fun x hx => ?_⟩ (fun b o e nb => by rw [upd_ne nb]; exact sr _ _ e)
    · rcases List.mem_append.mp hx with hx | hx
      · exact (D1.R.rm x hx).upd (D.R.ne x hx) ⟨_, D1.R.hd⟩
      · rw [List.mem_singleton.mp hx]
        exact ⟨by rw [upd_ne nra]; exact er, (fun _ h => nomatch h), List.nodup_nil, (fun _ h => nomatch h)⟩
    · rw [List.map_append]
      exact List.nodup_append.mpr ⟨D.R.nd, List.nodup_cons.mpr ⟨by simp, List.nodup_nil⟩, fun x hx y hy => by
        have : y = t := by simpa using hy
        rw [this]
        rintro rfl
        exact look_none hn hx⟩
    · rw [List.map_append]
      exact List.nodup_append.mpr ⟨D.R.sp, List.nodup_cons.mpr ⟨by simp, List.nodup_nil⟩, fun x hx y hy => by
        have : y = r := by simpa using hy
        rw [this]
        rintro rfl
        obtain ⟨z, hz, e⟩ := List.mem_map.mp hx
        have := (D.R.rm z hz).hd
        rw [e, hr0] at this
        cases this⟩
    · rcases List.mem_append.mp hx with hx | hx
      · exact D.R.ne x hx
      · rw [List.mem_singleton.mp hx]; exact nra
theorem scCl : FnScope ["self", "task"] ["self", "task"] (defScope sClose) := ⟨rfl, rfl, rfl, by decide +kernel, rfl, by decide +kernel, by decide +kernel⟩
theorem ok_close {f C CN fR' : Addr} {fd dR : FuncData} (F : Fun K "close" "PlainRooms.close" sClose f fd) (T : Txt K mg C)
    (GR : FnOk P w K mg base (CXO P w) 1 fR' dR ["rooms", "task"] (spRoomOf CN)) (DR : Def K mg "room_of" fR' dR ["rooms", "task"]) : FnOk P w K mg base (CXO P w) 2 f fd ["self", "task"] (spClose C CN) := by
  refine F.okx scCl (fun vs H Q E h => ?_) (fun cdv A outer s H vs Q E hr h => ?_)
  · obtain ⟨p, a, tot, t, W, rfl, _⟩ := h
    rfl
  · obtain ⟨p, a, tot, t, W, rfl, D, ht, kE, kQ⟩ := h
    obtain ⟨dx, h1⟩ := id D.ob
    refine ⟨_, (pssx_cons (psx_expr (pex_call GR (hr.mono (by decide)) rfl (by rfl) DR.mg DR.kp DR.b .nil (pa_cons (pe_fld (pv 0) rfl) (pa_cons (pv 1) pa_nil))))
      (pssx_of (pss_one (ps_expr (pe_dpop1 (pe_fld (pv 0) rfl) (pv 1) ⟨rfl, rfl, rfl, rfl⟩))))), ?_⟩
    refine ⟨_, rfl, p, C, dx, _, _, rfl, h1, T.cl, T.nR, flds_r _ _, _, rfl, a, W, t, rfl, D.R.hd, ht, kE, fun x hx => ?_⟩
    refine ⟨_, rfl, p, C, dx, _, _, rfl, h1, T.cl, T.nR, flds_r _ _, a, rfl, .inl ⟨_, .inl D.R.hd⟩, _, rfl, _, Sum.inl t, fR x, D.R.hd, rfl, by rw [valV_dk, hx]; rfl, ?_⟩
    rw [dropK_dk]
    have sub : ∀ y ∈ delA W t, y ∈ W := fun y hy => (List.mem_filter.mp hy).1
    refine kQ ⟨x, hx⟩ _ ⟨⟨dx, by rw [upd_ne (Ne.symm (dk_ne_ins D.R.hd h1))]; exact h1⟩, upd_same, fun y hy => (D.R.rm y (sub y hy)).upd (D.R.ne y (sub y hy)) ⟨_, D.R.hd⟩, ?_, ?_, fun y hy => D.R.ne y (sub y hy)⟩ (fun b o e nb => by rw [upd_ne nb]; exact e)
    · exact D.R.nd.sublist (List.Sublist.map _ List.filter_sublist)
    · exact D.R.sp.sublist (List.Sublist.map _ List.filter_sublist)
end
end Rm

namespace Rm
open PySem L2
theorem bt_sum : bootBuiltins "sum" = some (.builtin "sum") := by decide +kernel
noncomputable abbrev sCells : Stmt := top 21
noncomputable def heldW (W : Rms) : Int := ((W.map fun x => (x.2.2.length : Int))).sum
noncomputable def spHeld (C : Addr) : Sp := fun vs H Q _ => ∃ (p a : Addr) (tot : Int) (W : Rms), vs = [.ref p] ∧ PRAt C H p a tot W ∧ W.length ≤ 1000 ∧ ∀ H', Same H H' → Q (.int (heldW W)) H'
theorem spHeld_in {C : Addr} {H : Hp} {Q : V → Hp → Prop} {E0} (p a : Addr) (tot : Int) (W : Rms) (h1 : PRAt C H p a tot W) (h2 : W.length ≤ 1000) (h3 : ∀ H', Same H H' → Q (.int (heldW W)) H') : spHeld C [.ref p] H Q E0 := ⟨p, a, tot, W, rfl, h1, h2, h3⟩
/-- the cells of so many pages -/
noncomputable def cellsOf (R : Room) (ps : List Int) : List Int := (ps.map fun q => ((look R q).map (·.2)).getD []).flatten
noncomputable def spCells : Sp := fun vs H Q _ => ∃ (a b : Addr) (R : Room) (ps : List Int), vs = [.ref a, .ref b] ∧ RoomAt H a R ∧ H b = some (.lst (ps.map V.int)) ∧ ps.length ≤ 64 ∧ (∀ q ∈ ps, ∃ x, look R q = some x) ∧
  ∀ (H' : Hp) (l : Addr), Same H H' → H l = none → H' l = some (.lst ((cellsOf R ps).map V.int)) → Q (.ref l) H'
section
variable {P : Program} {w : World} {K : PySem.W.Frag} {mg : Str → Option Value} {base : Heap}
theorem scHe : FnScope ["self"] ["self"] (defScope sHeld) := ⟨rfl, rfl, rfl, by decide +kernel, rfl, by decide +kernel, by decide +kernel⟩
set_option maxHeartbeats 4000000 in
theorem ok_held {f C : Addr} {fd : FuncData} (F : Fun K "held" "PlainRooms.held" sHeld f fd) (T : Txt K mg C) : FnOk P w K mg base CX0 1 f fd ["self"] (spHeld C) := by
  refine F.ok scHe (fun vs H Q E h => ?_) (fun cdv A outer s H vs Q E hr h => ?_)
  · obtain ⟨p, a, tot, W, rfl, _⟩ := h
    rfl
  · obtain ⟨p, a, tot, W, rfl, D, lw, k⟩ := h
    have hs : sizeLine = 16777216 := sizeLine_eq
    obtain ⟨dx, h1⟩ := id D.ob
    refine ⟨_, (pss_one (ps_ret (pe_callB (call_sum rfl) (by rfl) T.sum bt_sum (pa_cons (pe_thaw (pe_comp (cl := [("self", s.heap.objs.size + 1)]) (caps := [("self", 0)]) ⟨rfl, by decide +kernel, by decide +kernel, rfl, by kernel_rfl, by intro p hp; simp only [List.mem_cons, List.not_mem_nil, or_false] at hp; rcases hp with rfl <;> first | rfl | exact ⟨rfl, .inl rfl, .inl rfl⟩ | exact ⟨rfl, .inl rfl, .inr rfl⟩, by kernel_rfl, by intro p hp; simp only [List.mem_cons, List.not_mem_nil, or_false] at hp; rcases hp with rfl <;> first | rfl | exact ⟨rfl, .inl rfl, .inl rfl⟩ | exact ⟨rfl, .inl rfl, .inr rfl⟩, by decide +kernel⟩ rfl (pi_dict (pe_fld (pv 0) rfl)) (fun _ _ _ _ => pts_nil) (fun _ _ _ _ => (pe_callB call_lenD (by rfl) T.len PySem.boot_len (pa_cons (pe_dget (hu_of hr) (show PE _ _ (tFld K _ "rooms") from pe_fld (pv 1) rfl) (pv 0) (fun _ _ => rfl)) pa_nil))))) pa_nil)))), ?_⟩
    have hn : ∀ (o : Obj) u', H a ≠ some (.frz o u') := fun o u' z => by rw [D.R.hd] at z; cases z
    refine ⟨_, rfl, p, C, dx, _, _, rfl, h1, T.cl, T.nR, flds_r _ _, a, _, rfl, D.R.hd, hn, fun o => ?_⟩
    have npa : p ≠ a := Ne.symm (dk_ne_ins D.R.hd h1)
    have hf : (upd H a (.frz o (.dK (kvR W)))) a = some (.frz o (.dK (kvR W))) := upd_same
    have h1f : (upd H a (.frz o (.dK (kvR W)))) p = some (.ins C dx (flds tot a)) := by rw [upd_ne npa]; exact h1
    refine comp_dict0 (a := a) (o := o) (kvs := kvR W) (fun i ys H2 => ys = ((W.take i).map fun x => (x.2.2.length : Int)).map V.int ∧ H2 = upd H a (.frz o (.dK (kvR W)))) ⟨rfl, rfl⟩ (fun i zs H2 _ zq1_4 => by obtain ⟨_, e⟩ := zq1_4; rw [e]; exact hf) ?_ ?_
    · rintro i kk v zs H2 hk ⟨rfl, rfl⟩
      have hk' : (W.map fun x : Int × Addr × Room => ((Sum.inl x.1 : Key), fR x.2))[i]? = some (kk, v) := hk
      rw [List.getElem?_map] at hk'
      obtain ⟨x, hx, e⟩ := Option.map_eq_some_iff.mp hk'
      cases e
      have hm := List.mem_of_getElem? hx
      have hi : i < W.length := (List.getElem?_eq_some_iff.mp hx).1
      have hlk : look W x.1 = some x.2 := look_some D.R.nd hm
      have hg : DGet (upd H a (.frz o (.dK (kvR W)))) a (.int x.1) (some (fR x.2)) := .inl ⟨kvR W, Sum.inl x.1, .inr ⟨o, hf⟩, rfl, by rw [valV_dk, hlk]; rfl⟩
      have hrm : (upd H a (.frz o (.dK (kvR W)))) x.2.1 = some (.dK (kvP x.2.2)) := by rw [upd_ne (D.R.ne x hm)]; exact (D.R.rm x hm).hd
      refine ⟨_, rfl, p, C, dx, _, _, rfl, h1f, T.cl, T.nR, flds_r _ _, _, rfl, a, fR x.2, rfl, hg, x.2.1, _, rfl, hrm, ?_, ?_, rfl⟩
      · rw [List.length_map, List.length_map, List.length_take]; (first | lia | omega)
      · rw [List.take_add_one, hx, List.map_append, List.map_append, dk_len]
        rfl
    · rintro zs H2 ⟨rfl, rfl⟩ l hl
      have nla : l ≠ a := fun z => by rw [z, hf] at hl; cases hl
      refine ⟨a, o, kvR W, by rw [upd_ne (Ne.symm nla)]; exact hf, hn, l, (W.map fun x => (x.2.2.length : Int)), rfl, SqL.of ?_, ?_⟩
      · rw [upd_ne nla, upd_same, dk_len, List.take_length]
      · refine k _ fun b u e => ?_
        by_cases z : b = a
        · rw [z, upd_same, ← e, z, D.R.hd]
        · rw [upd_ne z, upd_ne (fun y => by
            rw [y] at e
            rw [upd_ne nla] at hl
            rw [hl] at e
            cases e), upd_ne z]
          exact e
theorem scCp : FnScope ["room", "pages", "cells", "page"] ["room", "pages"] (defScope sCells) := ⟨rfl, rfl, rfl, by decide +kernel, rfl, by decide +kernel, by decide +kernel⟩
theorem ok_cellsOf {f : Addr} {fd : FuncData} (F : Fun K "cells_of_pages" "cells_of_pages" sCells f fd) : FnOk P w K mg base CX0 1 f fd ["room", "pages"] spCells := by
  refine F.ok scCp (fun vs H Q E h => ?_) (fun cdv A outer s H vs Q E hr h => ?_)
  · obtain ⟨a, b, R, ps, rfl, _⟩ := h
    rfl
  · obtain ⟨a, b, R, ps, rfl, ha, hb, lp, hin, k⟩ := h
    have hs : sizeLine = 16777216 := sizeLine_eq
    refine ⟨_, (pss_cons (ps_set (i := 2) scCp.nd rfl (Or.inl rfl) (pe_lst pa_nil))
      (pss_cons (ps_for PassesOwn.never rfl (pi_list (pv 1)) (pg_name (i := 3) scCp.nd rfl (Or.inl rfl)) (pss_one (ps_expr (pe_bm PySem.F.plainAttrs_list PySem.F.slot_list_extend PySem.F.type_list_extend mt_extend (pv 2) (pa_cons (pe_dget (hu_of hr) (pv 0) (pv 3) (fun _ _ => rfl)) pa_nil)))))
      (pss_one (ps_ret (pv 2))))), ?_⟩
    refine ⟨by decide, fun l hl => ?_⟩
    have s0 := same_new (X := .lst []) hl
    refine ⟨_, rfl, b, rfl, ⟨_, SqL.of (s0 _ _ hb)⟩, ?_⟩
    refine for_list (K := K) (a := b) (xs := ps.map V.int) (fun i σ H2 => ∃ v3 : Option V, σ = [some (.ref a), some (.ref b), some (.ref l), v3] ∧ H2 l = some (.lst ((cellsOf R (ps.take i)).map V.int)) ∧ (cellsOf R (ps.take i)).length ≤ 8 * i ∧ Same H H2) ⟨_, rfl, upd_same, Nat.le_refl _, s0⟩ (fun i σ H2 _ z0 => by obtain ⟨_, _, _, _, s2⟩ := z0; exact SqL.of (s2 _ _ hb)) ?_ ?_
    · rintro i x σ H2 hx ⟨v3, rfl, h2, lc, s2⟩
      have hi : i < ps.length := by simpa using (List.getElem?_eq_some_iff.mp hx).1
      rw [List.getElem?_map] at hx
      obtain ⟨q, hq, rfl⟩ := Option.map_eq_some_iff.mp hx
      obtain ⟨y, hy⟩ := hin q (List.mem_of_getElem? hq)
      have r2 := ha.same s2
      have hg := get_dk (t := q) r2.hd
      rw [hy] at hg
      obtain ⟨rr, r8⟩ := r2.hr (q, y) (look_mem hy)
      have ec : cellsOf R (ps.take (i + 1)) = cellsOf R (ps.take i) ++ y.2 := by
        unfold cellsOf
        rw [List.take_add_one, hq, List.map_append, List.flatten_append]
        simp [hy]
      refine ⟨_, rfl, .inl ⟨rfl, _, SqL.of h2⟩, _, rfl, _, rfl, a, fP y, rfl, hg, l, y.1, _, _, rfl, rfl, h2, rr, by rw [List.length_map, List.length_map]; have : y.2.length = 8 := r8; (first | lia | omega), ?_⟩
      refine ⟨_, rfl, ?_, ?_, same_wr s2 hl⟩
      · rw [upd_same, ec, List.map_append]
      · rw [ec, List.length_append]
        have : y.2.length = 8 := r8
        (first | lia | omega)
    · rintro σ H2 ⟨v3, rfl, h2, lc, s2⟩
      rw [List.length_map, List.take_length] at h2
      exact ⟨_, rfl, k H2 l s2 hl h2⟩
end
end Rm

namespace Rm
open PySem L2
noncomputable def keysR (R : Room) : List Int := R.map (·.1)
theorem keys_is (R : Room) : ((kvP R).map fun kv => kV kv.1) = (keysR R).map V.int := by
  unfold kvP dk keysR
  rw [List.map_map, List.map_map]
  rfl
theorem keys_look {R : Room} {q : Int} (h : q ∈ keysR R) : ∃ x, look R q = some x := by
  cases e : look R q with
  | some x => exact ⟨x, rfl⟩
  | none => exact absurd h (look_none e)
noncomputable def peekC (R : Room) (ad n : Int) : List Int := ((cellsOf R (cellPages ad n)).drop (ad % 8).toNat).take n.toNat
theorem cellPages_ok {ad n : Int} {ms : List Int} (h : ¬ badCells ad n ms) : (cellPages ad n).length ≤ 64 ∧ ∀ q ∈ cellPages ad n, q ∈ ms := by
  unfold cellPages
  by_cases e : n = 0
  · rw [if_pos e]
    exact ⟨Nat.zero_le _, fun _ h => nomatch h⟩
  · rw [if_neg e]
    have hn : 0 < n := by
      have : ¬ n < 0 := fun z => h (.inl z)
      (first | lia | omega)
    have h1 : ¬ noPages (cFst ad) (cCnt ad n) := fun z => h (.inr ⟨hn, .inl z⟩)
    have h2 : ∀ q ∈ pagesL (cFst ad) (cCnt ad n), q ∈ ms := Classical.byContradiction fun z => h (.inr ⟨hn, .inr z⟩)
    refine ⟨?_, h2⟩
    unfold pagesL
    rw [List.length_map, List.length_range]
    have a1 : ¬ cFst ad < 0 := fun z => h1 (.inr (.inl z))
    have a2 : ¬ 64 < cFst ad + cCnt ad n := fun z => h1 (.inr (.inr z))
    (first | lia | omega)
noncomputable def spPeek (C CN CP : Addr) : Sp := fun vs H Q E => ∃ (p a : Addr) (tot t ad n : Int) (W : Rms), vs = [.ref p, .int t, .int ad, .int n] ∧ PRAt C H p a tot W ∧ t.natAbs.log2 < 1920 ∧ n.natAbs.log2 < 1920 ∧ (cFst ad).natAbs.log2 < 1920 ∧ (cCnt ad n).natAbs.log2 < 1920 ∧ (∀ x ∈ W, x.2.2.length ≤ 1000) ∧
  (look W t = none → E (.ref CN) none H) ∧ (∀ x, look W t = some x → badCells ad n (keysR x.2) → ∀ H', Same H H' → E (.ref CP) none H') ∧
  (∀ x, look W t = some x → ¬ badCells ad n (keysR x.2) → ∀ (H' : Hp) (l : Addr), Same H H' → H l = none → H' l = some (.lst ((peekC x.2 ad n).map V.int)) → Q (.ref l) H')
section
variable {P : Program} {w : World} {K : PySem.W.Frag} {mg : Str → Option Value} {base : Heap}
theorem scPe : FnScope ["self", "task", "address", "many", "room", "pages"] ["self", "task", "address", "many"] (defScope sPeek) := ⟨rfl, rfl, rfl, by decide +kernel, rfl, by decide +kernel, by decide +kernel⟩
theorem ok_peek {f C CN CP fR' fO fC' fWi : Addr} {fd dR dO dC dWi : FuncData} (F : Fun K "peek" "PlainRooms.peek" sPeek f fd) (T : Txt K mg C)
    (GR : FnOk P w K mg base (CXO P w) 1 fR' dR ["rooms", "task"] (spRoomOf CN)) (DR : Def K mg "room_of" fR' dR ["rooms", "task"])
    (GO : FnOk P w K mg base (CXO P w) 2 fO dO ["mapped", "address", "many"] (spOfCells CP)) (DO : Def K mg "pages_of_cells" fO dO ["mapped", "address", "many"])
    (GC : FnOk P w K mg base CX0 1 fC' dC ["room", "pages"] spCells) (DC : Def K mg "cells_of_pages" fC' dC ["room", "pages"])
    (GWi : FnOk P w K mg base CX0 1 fWi dWi ["whole", "address", "many"] spWithin) (DWi : Def K mg "run_within" fWi dWi ["whole", "address", "many"]) : FnOk P w K mg base (CXO P w) 3 f fd ["self", "task", "address", "many"] (spPeek C CN CP) := by
  refine F.okx scPe (fun vs H Q E h => ?_) (fun cdv A outer s H vs Q E hr h => ?_)
  · obtain ⟨p, a, tot, t, ad, n, W, rfl, _⟩ := h
    rfl
  · obtain ⟨p, a, tot, t, ad, n, W, rfl, D, ht, hn, hf, hc, hlr, kN, kP, kQ⟩ := h
    obtain ⟨dx, h1⟩ := id D.ob
    refine ⟨_, (pssx_cons (psx_set (i := 4) scPe.nd rfl (Or.inl rfl) (pex_call GR (hr.mono (by decide)) rfl (by rfl) DR.mg DR.kp DR.b .nil (pa_cons (pe_fld (pv 0) rfl) (pa_cons (pv 1) pa_nil))))
      (pssx_cons (psx_set (i := 5) scPe.nd rfl (Or.inl rfl) (pex_call GO (hr.mono (by decide)) rfl (by rfl) DO.mg DO.kp DO.b .nil (pa_cons (pe_callTy (call_listD rfl) (by rfl) T.list bt_list (pa_cons (pv 4) pa_nil)) (pa_cons (pv 2) (pa_cons (pv 3) pa_nil)))))
      (pssx_of (pss_one (ps_ret (pe_call GWi (hr.mono (by decide)) (by rfl) DWi.mg DWi.kp DWi.b .nil pass0 (pa_cons (pe_call GC (hr.mono (by decide)) (by rfl) DC.mg DC.kp DC.b .nil pass0 (pa_cons (pv 4) (pa_cons (pv 5) pa_nil))) (pa_cons (pv 2) (pa_cons (pv 3) pa_nil))))))))), ?_⟩
    refine hidXN fun _ jt => ?_
    refine ⟨_, rfl, p, C, dx, _, _, rfl, h1, T.cl, T.nR, flds_r _ _, _, rfl, a, W, t, rfl, D.R.hd, ht, kN, fun x hx => ?_⟩
    have hm := look_mem hx
    have rm := D.R.rm _ hm
    refine jt _ _ (hidXN fun _ jt => ?_)
    refine ⟨_, rfl, x.1, _, rfl, rm.hd, by rw [dk_len]; exact hlr _ hm, fun l1 hl1 => ?_⟩
    rw [keys_is]
    have s1 := same_new (X := .lst ((keysR x.2).map V.int)) hl1
    refine ⟨_, rfl, _, rfl, l1, keysR x.2, ad, n, rfl, upd_same, hn, hf, hc, fun h H2 s2 => kP x hx h H2 (s1.trans s2), fun h H2 l2 s2 nl2 hl2 => ?_⟩
    obtain ⟨c1, c2⟩ := cellPages_ok h
    have S2 := s1.trans s2
    have n0 : 0 ≤ n := Int.not_lt.mp fun z => h (.inl z)
    refine jt _ _ ?_
    refine ⟨_, rfl, _, rfl, x.1, l2, x.2, cellPages ad n, rfl, rm.same S2, hl2, c1, fun q hq => keys_look (c2 q hq), fun H3 l3 s3 nl3 hl3 => ?_⟩
    refine ⟨_, rfl, _, rfl, l3, _, ad, n.toNat, by rw [Int.toNat_of_nonneg n0]; rfl, hl3, fun H4 l4 s4 nl4 hl4 => ?_⟩
    exact kQ x hx h H4 l4 ((S2.trans s3).trans s4) ((S2.trans s3).free nl4) hl4
end
end Rm

namespace Rm
open PySem L2
theorem setA_keys {α : Type} (l : List (Int × α)) (k : Int) (a : α) : (setA l k a).map (·.1) = l.map (·.1) := by
  unfold setA
  rw [List.map_map]
  apply List.map_congr_left
  intro x _
  show (if x.1 = k then (k, a) else x).1 = x.1
  by_cases e : x.1 = k
  · rw [if_pos e, e]
  · rw [if_neg e]
theorem setA_mem {α : Type} {l : List (Int × α)} {k : Int} {a : α} {y : Int × α} (h : y ∈ setA l k a) : y = (k, a) ∨ (y ∈ l ∧ y.1 ≠ k) := by
  unfold setA at h
  obtain ⟨x, hx, e⟩ := List.mem_map.mp h
  by_cases z : x.1 = k
  · rw [if_pos z] at e; exact .inl e.symm
  · rw [if_neg z] at e; rw [← e]; exact .inr ⟨hx, z⟩
theorem setA_addr {W : Rms} {t : Int} {r : Addr} {R R' : Room} (nd : (W.map (·.1)).Nodup) (h : look W t = some (r, R)) : (setA W t (r, R')).map (·.2.1) = W.map (·.2.1) := by
  unfold setA
  rw [List.map_map]
  apply List.map_congr_left
  intro x hx
  show (if x.1 = t then (t, (r, R')) else x).2.1 = x.2.1
  by_cases e : x.1 = t
  · rw [if_pos e]
    have : look W x.1 = some x.2 := look_some nd (by exact hx)
    rw [e, h] at this
    rw [← Option.some.inj this]
  · rw [if_neg e]
/-- one room is changed: the others stay -/
theorem RmsAt.setRoom {H H' : Hp} {a r : Addr} {W : Rms} {t : Int} {R R' : Room} (D : RmsAt H a W) (h : look W t = some (r, R)) (o : Off (· = r) H H') (rm : RoomAt H' r R') : RmsAt H' a (setA W t (r, R')) := by
  have hm := look_mem h
  have hr : H r = some (.dK (kvP R)) := (D.rm _ hm).hd
  refine ⟨?_, fun y hy => ?_, by rw [setA_keys]; exact D.nd, by rw [setA_addr D.nd h]; exact D.sp, fun y hy => ?_⟩
  · have e1 := o _ _ D.hd (Ne.symm (D.ne _ hm))
    rw [e1]
    congr 2
    unfold kvR dk setA
    rw [List.map_map]
    apply List.map_congr_left
    intro x hx
    show ((Sum.inl x.1 : Key), fR x.2) = ((Sum.inl (if x.1 = t then (t, (r, R')) else x).1 : Key), fR (if x.1 = t then (t, (r, R')) else x).2)
    by_cases e : x.1 = t
    · have : look W x.1 = some x.2 := look_some D.nd hx
      rw [e, h] at this
      have e2 : x.2 = (r, R) := (Option.some.inj this).symm
      rw [if_pos e, e, e2]
      rfl
    · rw [if_neg e]
  · rcases setA_mem hy with e | ⟨hy', ny⟩
    · rw [e]; exact rm
    · refine (D.rm y hy').off o (fun z => ?_) (fun b xs hb z => ?_)
      · apply ny
        have hp : y = (t, r, R) := by
          have n1 := D.sp
          obtain ⟨i, hi, ei⟩ := List.mem_iff_getElem.mp hy'
          obtain ⟨j, hj, ej⟩ := List.mem_iff_getElem.mp hm
          have : i = j := by
            have q1 : (W.map (·.2.1))[i]'(by rw [List.length_map]; exact hi) = (W.map (·.2.1))[j]'(by rw [List.length_map]; exact hj) := by
              rw [List.getElem_map, List.getElem_map, ei, ej]; exact z
            exact (List.getElem_inj n1).mp q1
          subst this
          rw [← ei, ej]
        rw [hp]
      · rw [z, hr] at hb; cases hb
  · rcases setA_mem hy with e | ⟨hy', _⟩
    · rw [e]
      show r ≠ a
      exact D.ne _ hm
    · exact D.ne y hy'
theorem PRAt.setRoom {C : Addr} {H H' : Hp} {p a r : Addr} {tot t : Int} {W : Rms} {R R' : Room} (D : PRAt C H p a tot W) (h : look W t = some (r, R)) (o : Off (· = r) H H') (rm : RoomAt H' r R') : PRAt C H' p a tot (setA W t (r, R')) := by
  obtain ⟨dx, h1⟩ := D.ob
  have hr : H r = some (.dK (kvP R)) := (D.R.rm _ (look_mem h)).hd
  exact ⟨⟨dx, o _ _ h1 (Ne.symm (dk_ne_ins hr h1))⟩, D.R.setRoom h o rm⟩
noncomputable def dropAll (R : Room) (ps : List Int) : Room := ps.foldl delA R
noncomputable def spDrop (C CN CP : Addr) : Sp := fun vs H Q E => ∃ (p a : Addr) (tot t pg m : Int) (W : Rms), vs = [.ref p, .int t, .int pg, .int m] ∧ PRAt C H p a tot W ∧ t.natAbs.log2 < 1920 ∧ pg.natAbs.log2 < 1920 ∧ m.natAbs.log2 < 1920 ∧ (∀ x ∈ W, x.2.2.length ≤ 1000) ∧
  (look W t = none → E (.ref CN) none H) ∧ (∀ x, look W t = some x → (noPages pg m ∨ ¬ ∀ q ∈ pagesL pg m, q ∈ keysR x.2) → ∀ H', Same H H' → E (.ref CP) none H') ∧
  (∀ x, look W t = some x → ¬ noPages pg m → (∀ q ∈ pagesL pg m, q ∈ keysR x.2) → ∀ H', PRAt C H' p a tot (setA W t (x.1, dropAll x.2 (pagesL pg m))) → Off (· = x.1) H H' → Q .non H')
theorem pages_nodup (p m : Int) : (pagesL p m).Nodup := by
  unfold pagesL
  refine List.Pairwise.map _ (fun a b (h : a ≠ b) => ?_) List.nodup_range
  (first | lia | omega)
theorem look_del {R : Room} {k q : Int} (h : q ≠ k) : look (delA R k) q = look R q := by
  induction R with
  | nil => rfl
  | cons x R ih =>
    unfold delA at ih ⊢
    rw [List.filter_cons]
    by_cases e : x.1 = k
    · rw [if_neg (by simp [e]), ih, look_cons, if_neg (fun z => h (z.symm.trans e))]
    · rw [if_pos (by simp [e]), look_cons, look_cons, ih]
theorem RoomAt.del {H : Hp} {r : Addr} {R : Room} {k : Int} (rm : RoomAt H r R) : RoomAt (L2.upd H r (.dK (kvP (delA R k)))) r (delA R k) := by
  have sub : ∀ y ∈ delA R k, y ∈ R := fun y hy => (List.mem_filter.mp hy).1
  exact ⟨upd_same, fun y hy => ⟨by rw [upd_ne (Ne.symm (dk_ne_lst rm.hd (rm.hr y (sub y hy)).1))]; exact (rm.hr y (sub y hy)).1, (rm.hr y (sub y hy)).2⟩, rm.nd.sublist (List.Sublist.map _ List.filter_sublist), fun y hy => rm.rg y (sub y hy)⟩
section
variable {P : Program} {w : World} {K : PySem.W.Frag} {mg : Str → Option Value} {base : Heap}
theorem scDr : FnScope ["self", "task", "page", "many", "room", "pages", "dropped"] ["self", "task", "page", "many"] (defScope sDrop) := ⟨rfl, rfl, rfl, by decide +kernel, rfl, by decide +kernel, by decide +kernel⟩
theorem ok_drop {f C CN CP fR' fD : Addr} {fd dR dD : FuncData} (F : Fun K "drop" "PlainRooms.drop" sDrop f fd) (T : Txt K mg C)
    (GR : FnOk P w K mg base (CXO P w) 1 fR' dR ["rooms", "task"] (spRoomOf CN)) (DR : Def K mg "room_of" fR' dR ["rooms", "task"])
    (GD : FnOk P w K mg base (CXO P w) 2 fD dD ["mapped", "page", "many"] (spToDrop CP)) (DD : Def K mg "pages_to_drop" fD dD ["mapped", "page", "many"]) : FnOk P w K mg base (CXO P w) 3 f fd ["self", "task", "page", "many"] (spDrop C CN CP) := by
  refine F.okx scDr (fun vs H Q E h => ?_) (fun cdv A outer s H vs Q E hr h => ?_)
  · obtain ⟨p, a, tot, t, pg, m, W, rfl, _⟩ := h
    rfl
  · obtain ⟨p, a, tot, t, pg, m, W, rfl, D, ht, hpg, hmm, hlr, kN, kP, kQ⟩ := h
    obtain ⟨dx, h1⟩ := id D.ob
    refine ⟨_, (pssx_cons (psx_set (i := 4) scDr.nd rfl (Or.inl rfl) (pex_call GR (hr.mono (by decide)) rfl (by rfl) DR.mg DR.kp DR.b .nil (pa_cons (pe_fld (pv 0) rfl) (pa_cons (pv 1) pa_nil))))
      (pssx_cons (psx_set (i := 5) scDr.nd rfl (Or.inl rfl) (pex_call GD (hr.mono (by decide)) rfl (by rfl) DD.mg DD.kp DD.b .nil (pa_cons (pe_callTy (call_listD rfl) (by rfl) T.list bt_list (pa_cons (pv 4) pa_nil)) (pa_cons (pv 2) (pa_cons (pv 3) pa_nil)))))
      (pssx_of (pss_one (ps_for PassesOwn.never rfl (pi_list (pv 5)) (pg_name (i := 6) scDr.nd rfl (Or.inl rfl)) (pss_one (ps_expr (pe_dpop1 (pv 4) (pv 6) ⟨rfl, rfl, rfl, rfl⟩)))))))), ?_⟩
    refine hidXN fun _ jt => ?_
    refine ⟨_, rfl, p, C, dx, _, _, rfl, h1, T.cl, T.nR, flds_r _ _, _, rfl, a, W, t, rfl, D.R.hd, ht, kN, fun x hx => ?_⟩
    have hm := look_mem hx
    have rm := D.R.rm _ hm
    refine jt _ _ (hidXN fun _ jt => ?_)
    refine ⟨_, rfl, x.1, _, rfl, rm.hd, by rw [dk_len]; exact hlr _ hm, fun l1 hl1 => ?_⟩
    rw [keys_is]
    have s1 := same_new (X := .lst ((keysR x.2).map V.int)) hl1
    refine ⟨_, rfl, _, rfl, l1, keysR x.2, pg, m, rfl, upd_same, hpg, hmm, fun h H2 s2 => kP x hx h H2 (s1.trans s2), fun h hin H2 l2 s2 nl2 hl2 => ?_⟩
    have S2 := s1.trans s2
    refine jt _ _ (hidF fun _ jb => ?_)
    refine ⟨_, rfl, l2, rfl, ⟨_, SqL.of hl2⟩, ?_⟩
    refine for_list (K := K) (a := l2) (xs := (pagesL pg m).map V.int) (fun i σ H3 => ∃ v6 : Option V, σ = [some (.ref p), some (.int t), some (.int pg), some (.int m), some (.ref x.1), some (.ref l2), v6] ∧ RoomAt H3 x.1 (dropAll x.2 ((pagesL pg m).take i)) ∧ Off (· = x.1) H2 H3 ∧ (∀ q ∈ (pagesL pg m).drop i, ∃ y, look (dropAll x.2 ((pagesL pg m).take i)) q = some y))
      ⟨_, rfl, rm.same S2, (fun b o e _ => e), fun q hq => keys_look (hin q hq)⟩ (fun i σ H3 _ z0 => by obtain ⟨_, _, _, o3, _⟩ := z0; exact SqL.of (o3 _ _ hl2 (Ne.symm (dk_ne_lst (rm.same S2).hd hl2)))) ?_ ?_
    · rintro i y σ H3 hy ⟨v6, rfl, r3, o3, hl3⟩
      rw [List.getElem?_map] at hy
      obtain ⟨q, hq, rfl⟩ := Option.map_eq_some_iff.mp hy
      have hi := (List.getElem?_eq_some_iff.mp hq).1
      have edr : (pagesL pg m).drop i = q :: (pagesL pg m).drop (i + 1) := by
        rw [List.drop_eq_getElem_cons hi, (List.getElem?_eq_some_iff.mp hq).2]
      obtain ⟨z, hz⟩ := hl3 q (by rw [edr]; exact List.mem_cons_self ..)
      have eta : (pagesL pg m).take (i + 1) = (pagesL pg m).take i ++ [q] := by rw [List.take_add_one, hq]; rfl
      have edd : dropAll x.2 ((pagesL pg m).take (i + 1)) = delA (dropAll x.2 ((pagesL pg m).take i)) q := by
        unfold dropAll
        rw [eta, List.foldl_append]
        rfl
      have ndq : ((pagesL pg m).drop i).Nodup := (pages_nodup pg m).sublist (List.drop_sublist _ _)
      rw [edr] at ndq
      refine jb _ _ _ ?_
      refine ⟨_, rfl, x.1, rfl, .inl ⟨_, .inl r3.hd⟩, _, rfl, _, Sum.inl q, fP z, r3.hd, rfl, by rw [valV_dk, hz]; rfl, ?_⟩
      rw [dropK_dk]
      refine ⟨_, rfl, by rw [edd]; exact r3.del, fun b o e nb => by rw [upd_ne nb]; exact o3 _ _ e nb, fun q' hq' => ?_⟩
      rw [edd, look_del (fun z => (List.nodup_cons.mp ndq).1 (by rw [← z]; exact hq'))]
      exact hl3 q' (by rw [edr]; exact List.mem_cons_of_mem _ hq')
    · rintro σ H3 ⟨v6, rfl, r3, o3, _⟩
      rw [List.length_map, List.take_length] at r3
      have O3 : Off (· = x.1) H H3 := fun b o e nb => o3 _ _ (S2 _ _ e) nb
      exact kQ x hx h hin H3 (D.setRoom hx O3 r3) O3
end
end Rm

namespace Rm
open PySem L2
theorem rep1 {α : Type} (x : α) (n : Nat) : (List.replicate n [x]).flatten = List.replicate n x := by
  induction n with
  | zero => rfl
  | succ n ih => rw [List.replicate_succ, List.flatten_cons, ih, List.replicate_succ]; rfl
noncomputable def z8 : List Int := List.replicate 8 0
noncomputable def spMap (C CN CP CT CR : Addr) : Sp := fun vs H Q E => ∃ (p a : Addr) (tot t pg m : Int) (W : Rms), vs = [.ref p, .int t, .int pg, .int m] ∧ PRAt C H p a tot W ∧ t.natAbs.log2 < 1920 ∧ pg.natAbs.log2 < 1920 ∧ m.natAbs.log2 < 1920 ∧ W.length ≤ 1000 ∧ (∀ x ∈ W, x.2.2.length ≤ 64) ∧ tot.natAbs.log2 < 1920 ∧
  (look W t = none → E (.ref CN) none H) ∧ (∀ x, look W t = some x → noPages pg m → ∀ H', Same H H' → E (.ref CP) none H') ∧ (∀ x, look W t = some x → ¬ noPages pg m → (∃ q ∈ pagesL pg m, q ∈ keysR x.2) → ∀ H', Same H H' → E (.ref CT) none H') ∧
  (∀ x, look W t = some x → ¬ noPages pg m → (∀ q ∈ pagesL pg m, ¬ q ∈ keysR x.2) → tot < heldW W + m → ∀ H', Same H H' → E (.ref CR) none H') ∧
  (∀ x, look W t = some x → ¬ noPages pg m → (∀ q ∈ pagesL pg m, ¬ q ∈ keysR x.2) → ¬ tot < heldW W + m → ∀ (H' : Hp) (N : Room), N.map (·.1) = pagesL pg m → (∀ y ∈ N, y.2.2 = z8 ∧ H y.2.1 = none) → PRAt C H' p a tot (setA W t (x.1, x.2 ++ N)) → Off (· = x.1) H H' → Q .non H')
theorem held_le {W : Rms} (h : ∀ x ∈ W, x.2.2.length ≤ 64) : 0 ≤ heldW W ∧ heldW W ≤ 64 * W.length := by
  unfold heldW
  induction W with
  | nil => exact ⟨Int.le_refl _, Int.le_refl _⟩
  | cons x W ih =>
    have h1 := h x (List.mem_cons_self ..)
    obtain ⟨i1, i2⟩ := ih fun y hy => h y (List.mem_cons_of_mem _ hy)
    rw [List.map_cons, List.sum_cons, List.length_cons]
    push_cast
    (first | lia | omega)
theorem small_log {n : Int} (h1 : -100000 ≤ n) (h2 : n ≤ 100000) : n.natAbs.log2 < 1920 := by
  by_cases z : n.natAbs = 0
  · rw [z]; decide
  · rw [Nat.log2_lt z]
    have h3 : n.natAbs ≤ 100000 := by (first | lia | omega)
    have h4 : (100000 : Nat) < 2 ^ 1920 := by decide +kernel
    (first | lia | omega)
theorem RoomAt.add {H : Hp} {r c : Addr} {R : Room} {q : Int} {row : List Int} (rm : RoomAt H r R) (hc : H c = some (.lst (row.map V.int))) (h8 : row.length = 8) (hq : look R q = none) (q0 : 0 ≤ q) (q1 : q < 64) : RoomAt (L2.upd H r (.dK (kvP (R ++ [(q, c, row)])))) r (R ++ [(q, c, row)]) := by
  refine ⟨upd_same, fun y hy => ?_, ?_, fun y hy => ?_⟩
  · rcases List.mem_append.mp hy with hy | hy
    · exact ⟨by rw [upd_ne (Ne.symm (dk_ne_lst rm.hd (rm.hr y hy).1))]; exact (rm.hr y hy).1, (rm.hr y hy).2⟩
    · rw [List.mem_singleton.mp hy]
      exact ⟨by rw [upd_ne (Ne.symm (dk_ne_lst rm.hd hc))]; exact hc, h8⟩
  · rw [List.map_append]
    exact List.nodup_append.mpr ⟨rm.nd, List.nodup_cons.mpr ⟨by simp, List.nodup_nil⟩, fun x hx y hy => by
      have : y = q := by simpa using hy
      rw [this]
      rintro rfl
      exact look_none hq hx⟩
  · rcases List.mem_append.mp hy with hy | hy
    · exact rm.rg y hy
    · rw [List.mem_singleton.mp hy]; exact ⟨q0, q1⟩
theorem look_not {α : Type} {l : List (Int × α)} {k : Int} (h : ¬ k ∈ l.map (·.1)) : look l k = none := by
  cases e : look l k with
  | none => rfl
  | some x => exact absurd (List.mem_map.mpr ⟨_, look_mem e, rfl⟩) h
section
variable {P : Program} {w : World} {K : PySem.W.Frag} {mg : Str → Option Value} {base : Heap}
theorem scMp : FnScope ["self", "task", "page", "many", "room", "pages", "wanted"] ["self", "task", "page", "many"] (defScope sMap) := ⟨rfl, rfl, rfl, by decide +kernel, rfl, by decide +kernel, by decide +kernel⟩
set_option maxHeartbeats 4000000 in
theorem ok_map {f C CN CP CT CR fR' fM fA fH : Addr} {fd dR dM dA dH : FuncData} (F : Fun K "map" "PlainRooms.map" sMap f fd) (T : Txt K mg C) (TS : STxt mg)
    (GR : FnOk P w K mg base (CXO P w) 1 fR' dR ["rooms", "task"] (spRoomOf CN)) (DR : Def K mg "room_of" fR' dR ["rooms", "task"])
    (GM : FnOk P w K mg base (CXO P w) 2 fM dM ["mapped", "page", "many"] (spToMap CP CT)) (DM : Def K mg "pages_to_map" fM dM ["mapped", "page", "many"])
    (GA : FnOk P w K mg base (CXO P w) 1 fA dA ["held", "total"] (spAbove CR)) (DA : Def K mg "refuse_above" fA dA ["held", "total"])
    (GH : FnOk P w K mg base CX0 1 fH dH ["self"] (spHeld C)) (bH : Binds K dH ["self"] []) (mH : Meth K C "held" fH) : FnOk P w K mg base (CXO P w) 3 f fd ["self", "task", "page", "many"] (spMap C CN CP CT CR) := by
  obtain ⟨u8, m8, r8⟩ := TS.cells
  refine F.okx scMp (fun vs H Q E h => ?_) (fun cdv A outer s H vs Q E hr h => ?_)
  · obtain ⟨p, a, tot, t, pg, m, W, rfl, _⟩ := h
    rfl
  · obtain ⟨p, a, tot, t, pg, m, W, rfl, D, ht, hpg, hmm, lw, hlr, htot, kN, kP, kT, kR, kQ⟩ := h
    have hs : sizeLine = 16777216 := sizeLine_eq
    obtain ⟨dx, h1⟩ := id D.ob
    have nHeld : (flds tot a).lookup ("held" : Str) = none := flds_no _ _ (by decide +kernel) (by decide +kernel)
    refine ⟨_, (pssx_cons (psx_set (i := 4) scMp.nd rfl (Or.inl rfl) (pex_call GR (hr.mono (by decide)) rfl (by rfl) DR.mg DR.kp DR.b .nil (pa_cons (pe_fld (pv 0) rfl) (pa_cons (pv 1) pa_nil))))
      (pssx_cons (psx_set (i := 5) scMp.nd rfl (Or.inl rfl) (pex_call GM (hr.mono (by decide)) rfl (by rfl) DM.mg DM.kp DM.b .nil (pa_cons (pe_callTy (call_listD rfl) (by rfl) T.list bt_list (pa_cons (pv 4) pa_nil)) (pa_cons (pv 2) (pa_cons (pv 3) pa_nil)))))
      (pssx_cons (psx_expr (pex_call GA (hr.mono (by decide)) rfl (by rfl) DA.mg DA.kp DA.b .nil (pa_cons (pe_op op_add (pe_meth0 (pv 0) T.cl mH GH (hr.mono (by decide)) bH .nil pass0) (pe_callB call_len_seq (by rfl) T.len PySem.boot_len (pa_cons (pv 5) pa_nil))) (pa_cons (pe_fld (pv 0) rfl) pa_nil))))
      (pssx_of (pss_one (ps_for PassesOwn.never rfl (pi_list (pv 5)) (pg_name (i := 6) scMp.nd rfl (Or.inl rfl)) (pss_one (ps_dput (hu_of hr) (pv 4) (pv 6) (pe_op op_rep (pe_lst (pa_cons pe_int pa_nil)) (pe_glob (by rfl) m8 r8)) rfl)))))))), ?_⟩
    refine hidXN fun _ jt => ?_
    refine ⟨_, rfl, p, C, dx, _, _, rfl, h1, T.cl, T.nR, flds_r _ _, _, rfl, a, W, t, rfl, D.R.hd, ht, kN, fun x hx => ?_⟩
    have hm := look_mem hx
    have rm := D.R.rm _ hm
    refine jt _ _ (hidXN fun _ jt => ?_)
    refine ⟨_, rfl, x.1, _, rfl, rm.hd, by rw [dk_len]; have := hlr _ hm; have e : x.2.length ≤ 64 := this; (first | lia | omega), fun l1 hl1 => ?_⟩
    rw [keys_is]
    have s1 := same_new (X := .lst ((keysR x.2).map V.int)) hl1
    refine ⟨_, rfl, _, rfl, l1, keysR x.2, pg, m, rfl, upd_same, hpg, hmm, fun h H2 s2 => kP x hx h H2 (s1.trans s2), fun h h' H2 s2 => kT x hx h h' H2 (s1.trans s2), fun h hin H2 l2 s2 nl2 hl2 => ?_⟩
    have S2 := s1.trans s2
    have lp : (pagesL pg m).length = m.toNat := by unfold pagesL; rw [List.length_map, List.length_range]
    have m1 : ¬ m < 1 := fun z => h (.inl z)
    have m2 : ¬ pg < 0 := fun z => h (.inr (.inl z))
    have m3 : ¬ 64 < pg + m := fun z => h (.inr (.inr z))
    obtain ⟨hw0, hw1⟩ := held_le hlr
    have D2 := D.same S2
    refine jt _ _ (hidXD fun _ jt => ?_)
    refine ⟨_, rfl, p, dx, _, rfl, S2 _ _ h1, nHeld, p, a, tot, W, rfl, D2, lw, fun H3 s3 => ?_⟩
    have S3 := S2.trans s3
    refine ⟨_, rfl, l2, _, rfl, .inl (SqL.of (s3 _ _ hl2)), _, _, rfl, rfl, _, rfl, p, C, dx, _, _, rfl, S3 _ _ h1, T.cl, T.nT, flds_t _ _, heldW W + m, tot, ?_, small_log (by (first | lia | omega)) (by (first | lia | omega)), htot, fun z => kR x hx h hin z H3 S3, fun z => ?_⟩
    · show [V.int (heldW W + (((pagesL pg m).map V.int).length : Nat)), V.int tot] = _
      rw [List.length_map, lp, Int.toNat_of_nonneg (by (first | lia | omega))]
    · have rm3 := rm.same S3
      have hl3 := s3 _ _ hl2
      refine jt _ _ (hidF fun _ jb => ?_)
      refine ⟨_, rfl, l2, rfl, ⟨_, SqL.of hl3⟩, ?_⟩
      refine for_list (K := K) (a := l2) (xs := (pagesL pg m).map V.int) (fun i σ H4 => ∃ (v6 : Option V) (N : Room), σ = [some (.ref p), some (.int t), some (.int pg), some (.int m), some (.ref x.1), some (.ref l2), v6] ∧ RoomAt H4 x.1 (x.2 ++ N) ∧ N.map (·.1) = (pagesL pg m).take i ∧ (∀ y ∈ N, y.2.2 = z8 ∧ H y.2.1 = none) ∧ Off (· = x.1) H3 H4)
        ⟨_, [], rfl, by rw [List.append_nil]; exact rm3, rfl, (fun _ h => nomatch h), fun b o e _ => e⟩ (fun i σ H4 _ z0 => by obtain ⟨_, _, _, _, _, _, o4⟩ := z0; exact SqL.of (o4 _ _ hl3 (Ne.symm (dk_ne_lst rm3.hd hl3)))) ?_ ?_
      · rintro i y σ H4 hy ⟨v6, N, rfl, r4, hN, hz, o4⟩
        rw [List.getElem?_map] at hy
        obtain ⟨q, hq, rfl⟩ := Option.map_eq_some_iff.mp hy
        have hqm := List.mem_of_getElem? hq
        obtain ⟨q0, q1, _⟩ := pages_log h q hqm
        have hi := (List.getElem?_eq_some_iff.mp hq).1
        have hlN : N.length = i := by
          have := congrArg List.length hN
          rw [List.length_map, List.length_take] at this
          (first | lia | omega)
        have hqn : look (x.2 ++ N) q = none := look_not fun z => by
          rw [List.map_append] at z
          rcases List.mem_append.mp z with z | z
          · exact hin q hqm z
          · rw [hN] at z
            obtain ⟨j, hj, ej⟩ := List.mem_iff_getElem.mp z
            rw [List.length_take] at hj
            rw [List.getElem_take] at ej
            have := (List.getElem_inj (pages_nodup pg m)).mp (ej.trans (List.getElem?_eq_some_iff.mp hq).2.symm)
            (first | lia | omega)
        refine jb _ _ _ ?_
        refine ⟨by decide, fun z1 hz1 => ⟨z1, 8, _, rfl, rfl, upd_same, by (first | lia | omega), by (first | lia | omega), by rw [List.length_singleton]; (first | lia | omega), fun z2 hz2 => ?_⟩⟩
        rw [rep1 (V.int 0)]
        have sz := (same_new (X := .lst [V.int 0]) hz1).trans (same_new (X := .lst (List.replicate ((8 : Int)).toNat (V.int 0))) hz2)
        have ez : (upd (upd H4 z1 (.lst [V.int 0])) z2 (.lst (List.replicate ((8 : Int)).toNat (V.int 0)))) z2 = some (.lst (z8.map V.int)) := by rw [upd_same]; unfold z8; rw [List.map_replicate]; rfl
        have n2 : H z2 = none := by
          cases e : H z2 with
          | none => rfl
          | some u =>
            have hz2' := (same_new (X := .lst [V.int 0]) hz1).free hz2
            by_cases e2 : z2 = x.1
            · rw [e2, r4.hd] at hz2'; cases hz2'
            · rw [o4 _ _ (S3 _ _ e) e2] at hz2'; cases hz2'
        generalize upd (upd H4 z1 (.lst [V.int 0])) z2 (.lst (List.replicate ((8 : Int)).toNat (V.int 0))) = H5 at *
        have r5 := r4.same sz
        have hlx : x.2.length ≤ 64 := hlr _ hm
        refine ⟨_, rfl, _, rfl, x.1, _, rfl, DPut.k (k := Sum.inl q) r5.hd (by rw [dk_len, List.length_append]; (first | lia | omega)), ?_⟩
        rw [show (V.ref z2) = fP (z2, z8) from rfl, putK_new' hqn]
        refine ⟨_, N ++ [(q, z2, z8)], rfl, by rw [← List.append_assoc]; exact r5.add ez rfl hqn q0 q1, ?_, fun y hy => ?_, fun b o e nb => by rw [upd_ne nb]; exact sz _ _ (o4 _ _ e nb)⟩
        · rw [List.map_append, hN, List.take_add_one, hq]
          rfl
        · rcases List.mem_append.mp hy with hy | hy
          · exact hz y hy
          · rw [List.mem_singleton.mp hy]; exact ⟨rfl, n2⟩
      · rintro σ H4 ⟨v6, N, rfl, r4, hN, hz, o4⟩
        rw [List.length_map, List.take_length] at hN
        have O4 : Off (· = x.1) H H4 := fun b o e nb => o4 _ _ (S3 _ _ e) nb
        exact kQ x hx h hin z H4 N hN hz (D.setRoom hx O4 r4) O4
end
end Rm

namespace Rm
open PySem L2
/-- what a room has, whatever its places -/
noncomputable def con (R : Room) : List (Int × List Int) := R.map fun x => (x.1, x.2.2)
noncomputable def setAll (c : List (Int × List Int)) (ps : List Int) (rows : List (List Int)) : List (Int × List Int) := (ps.zip rows).foldl (fun c x => setA c x.1 x.2) c
noncomputable def pokeC (R : Room) (ad : Int) (cs : List Int) : List (Int × List Int) := setAll (con R) (cellPages ad cs.length) (chunks (cellPages ad cs.length).length (splice (cellsOf R (cellPages ad cs.length)) (ad % 8).toNat cs))
noncomputable def spPoke (K : PySem.W.Frag) (C CN CP : Addr) : Sp := fun vs H Q E => ∃ (p a c : Addr) (tot t ad : Int) (cs : List Int) (W : Rms), vs = [.ref p, .int t, .int ad, .ref c] ∧ PRAt C H p a tot W ∧ SqL K H c (cs.map V.int) ∧ cs.length ≤ 500 ∧ t.natAbs.log2 < 1920 ∧ (cFst ad).natAbs.log2 < 1920 ∧ (cCnt ad cs.length).natAbs.log2 < 1920 ∧ (∀ x ∈ W, x.2.2.length ≤ 1000) ∧
  (look W t = none → E (.ref CN) none H) ∧ (∀ x, look W t = some x → badCells ad cs.length (keysR x.2) → ∀ H', Same H H' → E (.ref CP) none H') ∧
  (∀ x, look W t = some x → ¬ badCells ad cs.length (keysR x.2) → ∀ (H' : Hp) (R' : Room), con R' = pokeC x.2 ad cs → (∀ y ∈ R', y ∈ x.2 ∨ H y.2.1 = none) → PRAt C H' p a tot (setA W t (x.1, R')) → Off (· = x.1) H H' → Q .non H')
theorem cells_len {H : Hp} {a : Addr} {R : Room} (rm : RoomAt H a R) : ∀ {ps : List Int}, (∀ q ∈ ps, ∃ x, look R q = some x) → (cellsOf R ps).length = 8 * ps.length
  | [], _ => rfl
  | q :: ps, h => by
    obtain ⟨x, hx⟩ := h q (List.mem_cons_self ..)
    have ih := cells_len rm (ps := ps) fun y hy => h y (List.mem_cons_of_mem _ hy)
    unfold cellsOf at ih ⊢
    rw [List.map_cons, List.flatten_cons, List.length_append, ih, hx, List.length_cons]
    have : x.2.length = 8 := (rm.hr (q, x) (look_mem hx)).2
    simp only [Option.map_some, Option.getD_some]
    omega
theorem splice_len {ad : Int} {cs ws : List Int} {ms : List Int} (h : ¬ badCells ad cs.length ms) (hw : ws.length = 8 * (cellPages ad cs.length).length) : (splice ws (ad % 8).toNat cs).length = 8 * (cellPages ad cs.length).length := by
  unfold splice
  rw [List.length_append, List.length_append, List.length_take, List.length_drop]
  by_cases e : ((cs.length : Nat) : Int) = 0
  · have : cellPages ad cs.length = [] := by unfold cellPages; rw [if_pos e]
    rw [this] at hw ⊢
    have h0 : ws.length = 0 := hw
    have c0 : cs.length = 0 := by omega
    rw [h0, c0]
    simp
  · have hp : (cellPages ad cs.length).length = (cCnt ad cs.length).toNat := by
      unfold cellPages
      rw [if_neg e]
      unfold pagesL
      rw [List.length_map, List.length_range]
    have hn : 0 < ((cs.length : Nat) : Int) := by omega
    have h1 : ¬ noPages (cFst ad) (cCnt ad cs.length) := fun z => h (.inr ⟨hn, .inl z⟩)
    have h2 : ¬ cCnt ad cs.length < 1 := fun z => h1 (.inl z)
    rw [hp] at hw ⊢
    unfold cCnt at *
    omega
theorem con_set {R : Room} {q : Int} {c : Addr} {row : List Int} : con (setA R q (c, row)) = setA (con R) q row := by
  unfold con setA
  rw [List.map_map, List.map_map]
  apply List.map_congr_left
  intro x _
  show ((if x.1 = q then (q, (c, row)) else x).1, (if x.1 = q then (q, (c, row)) else x).2.2) = if x.1 = q then (q, row) else (x.1, x.2.2)
  by_cases e : x.1 = q
  · rw [if_pos e, if_pos e]
  · rw [if_neg e, if_neg e]
theorem RoomAt.put {H : Hp} {r c : Addr} {R : Room} {q : Int} {row : List Int} (rm : RoomAt H r R) (hc : H c = some (.lst (row.map V.int))) (h8 : row.length = 8) (hq : ∃ x, look R q = some x) : RoomAt (L2.upd H r (.dK (kvP (setA R q (c, row))))) r (setA R q (c, row)) := by
  obtain ⟨x, hx⟩ := hq
  refine ⟨upd_same, fun y hy => ?_, by rw [setA_keys]; exact rm.nd, fun y hy => ?_⟩
  · rcases setA_mem hy with e | ⟨hy', _⟩
    · rw [e]
      exact ⟨by rw [upd_ne (Ne.symm (dk_ne_lst rm.hd hc))]; exact hc, h8⟩
    · exact ⟨by rw [upd_ne (Ne.symm (dk_ne_lst rm.hd (rm.hr y hy').1))]; exact (rm.hr y hy').1, (rm.hr y hy').2⟩
  · rcases setA_mem hy with e | ⟨hy', _⟩
    · rw [e]; exact rm.rg (q, x) (look_mem hx)
    · exact rm.rg y hy'
theorem chunk8 {k : Nat} {ws : List Int} (h : ws.length = 8 * k) : ∀ row ∈ chunks k ws, row.length = 8 := by
  intro row hr
  unfold chunks at hr
  obtain ⟨i, hi, rfl⟩ := List.mem_map.mp hr
  have := List.mem_range.mp hi
  rw [List.length_take, List.length_drop, h]
  omega
theorem setAll_keys {c : List (Int × List Int)} : ∀ {ps : List Int} {rows : List (List Int)}, (setAll c ps rows).map (·.1) = c.map (·.1) := by
  intro ps rows
  unfold setAll
  generalize ps.zip rows = l
  induction l generalizing c with
  | nil => rfl
  | cons x l ih => rw [List.foldl_cons, ih, setA_keys]
theorem paired_get {α β : Type} {F : α → β → Prop} {as : List α} {bs : List β} (h : Paired F as bs) : ∀ {i : Nat} {a : α}, as[i]? = some a → ∃ b, bs[i]? = some b ∧ F a b := by
  induction h with
  | nil => intro i a e; simp at e
  | cons h1 h2 ih =>
    intro i a e
    cases i with
    | zero => simp at e; subst e; exact ⟨_, rfl, h1⟩
    | succ i => simp at e; obtain ⟨b, q1, q2⟩ := ih e; exact ⟨b, by simpa using q1, q2⟩
theorem look_keys {R : Room} {q : Int} : (∃ x, look R q = some x) ↔ q ∈ keysR R := ⟨fun zq1_0 => by obtain ⟨x, h⟩ := zq1_0; exact List.mem_map.mpr ⟨_, look_mem h, rfl⟩, keys_look⟩
section
variable {P : Program} {w : World} {K : PySem.W.Frag} {mg : Str → Option Value} {base : Heap}
theorem scPk : FnScope ["self", "task", "address", "cells", "room", "pages", "whole", "page", "changed"] ["self", "task", "address", "cells"] (defScope sPoke) := ⟨rfl, rfl, rfl, by decide +kernel, rfl, by decide +kernel, by decide +kernel⟩
set_option maxHeartbeats 4000000 in
theorem ok_poke {f C CN CP fR' fO fC' fWw : Addr} {fd dR dO dC dWw : FuncData} (F : Fun K "poke" "PlainRooms.poke" sPoke f fd) (T : Txt K mg C)
    (GR : FnOk P w K mg base (CXO P w) 1 fR' dR ["rooms", "task"] (spRoomOf CN)) (DR : Def K mg "room_of" fR' dR ["rooms", "task"])
    (GO : FnOk P w K mg base (CXO P w) 2 fO dO ["mapped", "address", "many"] (spOfCells CP)) (DO : Def K mg "pages_of_cells" fO dO ["mapped", "address", "many"])
    (GC : FnOk P w K mg base CX0 1 fC' dC ["room", "pages"] spCells) (DC : Def K mg "cells_of_pages" fC' dC ["room", "pages"])
    (GWw : FnOk P w K mg base CX0 1 fWw dWw ["whole", "address", "cells"] (spWith K)) (DWw : Def K mg "pages_with" fWw dWw ["whole", "address", "cells"]) : FnOk P w K mg base (CXO P w) 3 f fd ["self", "task", "address", "cells"] (spPoke K C CN CP) := by
  refine F.okx scPk (fun vs H Q E h => ?_) (fun cdv A outer s H vs Q E hr h => ?_)
  · obtain ⟨p, a, c, tot, t, ad, cs, W, rfl, _⟩ := h
    rfl
  · obtain ⟨p, a, c, tot, t, ad, cs, W, rfl, D, hc, lc, ht, hf, hcc, hlr, kN, kP, kQ⟩ := h
    have hs : sizeLine = 16777216 := sizeLine_eq
    obtain ⟨dx, h1⟩ := id D.ob
    refine ⟨_, (pssx_cons (psx_set (i := 4) scPk.nd rfl (Or.inl rfl) (pex_call GR (hr.mono (by decide)) rfl (by rfl) DR.mg DR.kp DR.b .nil (pa_cons (pe_fld (pv 0) rfl) (pa_cons (pv 1) pa_nil))))
      (pssx_cons (psx_set (i := 5) scPk.nd rfl (Or.inl rfl) (pex_call GO (hr.mono (by decide)) rfl (by rfl) DO.mg DO.kp DO.b .nil (pa_cons (pe_callTy (call_listD rfl) (by rfl) T.list bt_list (pa_cons (pv 4) pa_nil)) (pa_cons (pv 2) (pa_cons (pe_callB call_len_seq (by rfl) T.len PySem.boot_len (pa_cons (pv 3) pa_nil)) pa_nil)))))
      (pssx_of (pss_cons (ps_set (i := 6) scPk.nd rfl (Or.inl rfl) (pe_call GC (hr.mono (by decide)) (by rfl) DC.mg DC.kp DC.b .nil pass0 (pa_cons (pv 4) (pa_cons (pv 5) pa_nil))))
      (pss_one (ps_for PassesOwn.never rfl (pi_zip (by rfl) T.zip (pa_cons (pv 5) (pa_cons (pe_call GWw (hr.mono (by decide)) (by rfl) DWw.mg DWw.kp DWw.b .nil pass0 (pa_cons (pv 6) (pa_cons (pv 2) (pa_cons (pv 3) pa_nil)))) pa_nil))) (pg_tup rfl (pgs_cons (pg_name (i := 7) scPk.nd rfl (Or.inl rfl)) (pgs_cons (pg_name (i := 8) scPk.nd rfl (Or.inl rfl)) pgs_nil))) (pss_one (ps_dput (hu_of hr) (pv 4) (pv 7) (pv 8) rfl)))))))), ?_⟩
    refine hidXN fun _ jt => ?_
    refine ⟨_, rfl, p, C, dx, _, _, rfl, h1, T.cl, T.nR, flds_r _ _, _, rfl, a, W, t, rfl, D.R.hd, ht, kN, fun x hx => ?_⟩
    have hm := look_mem hx
    have rm := D.R.rm _ hm
    refine jt _ _ (hidXN fun _ jt => ?_)
    refine ⟨_, rfl, x.1, _, rfl, rm.hd, by rw [dk_len]; exact hlr _ hm, fun l1 hl1 => ?_⟩
    rw [keys_is]
    have s1 := same_new (X := .lst ((keysR x.2).map V.int)) hl1
    refine ⟨_, rfl, _, rfl, c, _, rfl, .inl (seq_keep hc (s1 _)), l1, keysR x.2, ad, cs.length, by rw [List.length_map]; rfl, upd_same, small_log (by omega) (by omega), hf, hcc, fun h H2 s2 => kP x hx h H2 (s1.trans s2), fun h H2 l2 s2 nl2 hl2 => ?_⟩
    obtain ⟨c1, c2⟩ := cellPages_ok h
    have S2 := s1.trans s2
    have fnd : ∀ q ∈ cellPages ad cs.length, ∃ y, look x.2 q = some y := fun q hq => keys_look (c2 q hq)
    refine jt _ _ (hidN fun _ jt => ?_)
    refine ⟨_, rfl, _, rfl, x.1, l2, x.2, cellPages ad cs.length, rfl, rm.same S2, hl2, c1, fnd, fun H3 l3 s3 nl3 hl3 => ?_⟩
    have S3 := S2.trans s3
    have lw := cells_len rm fnd
    refine jt _ _ (hidF fun _ jb => ?_)
    refine ⟨_, rfl, _, rfl, _, rfl, _, rfl, l3, c, cellsOf x.2 (cellPages ad cs.length), cs, ad, (cellPages ad cs.length).length, rfl, hl3, seq_keep hc (S3 _), by rw [lw]; omega, by omega, c1, splice_len h lw, fun H4 l4 rs s4 nl4 hl4 hp4 hr4 nd4 => ?_⟩
    have S4 := S3.trans s4
    have rm4 := rm.same S4
    have hl2' := (s3.trans s4) _ _ hl2
    have lrs : rs.length = (cellPages ad cs.length).length := by
      rw [hp4.length]
      unfold chunks
      rw [List.length_map, List.length_range]
    generalize eC : chunks (cellPages ad cs.length).length (splice (cellsOf x.2 (cellPages ad cs.length)) (ad % 8).toNat cs) = ch at hp4
    have h8 : ∀ row ∈ ch, row.length = 8 := by
      rw [← eC]
      exact chunk8 (splice_len h lw)
    refine ⟨l2, l4, rfl, ⟨_, SqL.of hl2'⟩, ⟨_, SqL.of hl4⟩, ?_⟩
    refine for_zip (K := K) (a := l2) (b := l4) (xs := (cellPages ad cs.length).map V.int) (ys := rs.map V.ref) (fun i σ H5 => ∃ (v7 v8 : Option V) (R' : Room), σ = [some (.ref p), some (.int t), some (.int ad), some (.ref c), some (.ref x.1), some (.ref l2), some (.ref l3), v7, v8] ∧ RoomAt H5 x.1 R' ∧ con R' = setAll (con x.2) ((cellPages ad cs.length).take i) (ch.take i) ∧ (∀ y ∈ R', y ∈ x.2 ∨ H y.2.1 = none) ∧ Off (· = x.1) H4 H5)
      ⟨_, _, x.2, rfl, rm4, rfl, fun y hy => .inl hy, fun b o e _ => e⟩ (by rw [List.length_map, List.length_map, lrs]) (fun i σ H5 _ z0 => by obtain ⟨_, _, _, _, _, _, _, o5⟩ := z0; exact ⟨SqL.of (o5 _ _ hl2' (Ne.symm (dk_ne_lst rm4.hd hl2'))), SqL.of (o5 _ _ hl4 (Ne.symm (dk_ne_lst rm4.hd hl4)))⟩) ?_ ?_
    · rintro i u v σ H5 z hu hv hz ⟨v7, v8, R', rfl, r5, hc5, hf5, o5⟩
      rw [List.getElem?_map] at hu hv
      obtain ⟨q, hq, rfl⟩ := Option.map_eq_some_iff.mp hu
      obtain ⟨r, hr', rfl⟩ := Option.map_eq_some_iff.mp hv
      have hrl : r ∈ rs := List.mem_of_getElem? hr'
      have hqm := List.mem_of_getElem? hq
      obtain ⟨row, hrow, hra⟩ := paired_get hp4 hr'
      have hr8 := h8 row (List.mem_of_getElem? hrow)
      have sT := same_new (X := .tup [.int q, .ref r]) hz
      have r6 := r5.same sT
      have hra5 : H5 r = some (.lst (row.map V.int)) := o5 _ _ hra (Ne.symm (dk_ne_lst rm4.hd hra))
      have hra6 := sT _ _ hra5
      have hke : (keysR R') = keysR x.2 := by
        have e1 : (con R').map (·.1) = (con x.2).map (·.1) := by rw [hc5, setAll_keys]
        unfold con at e1
        rw [List.map_map, List.map_map] at e1
        exact e1
      have hq6 : ∃ y, look R' q = some y := look_keys.mpr (by rw [hke]; exact c2 q hqm)
      obtain ⟨y, hy⟩ := hq6
      refine ⟨z, [.int q, .ref r], rfl, SqT.of upd_same, rfl, .int q, [.ref r], rfl, .ref r, [], rfl, rfl, ?_⟩
      generalize upd H5 z (.tup [.int q, .ref r]) = H6 at *
      refine jb _ _ _ ?_
      refine ⟨_, rfl, _, rfl, _, rfl, x.1, _, rfl, DPut.k (k := Sum.inl q) r6.hd (by rw [dk_len]; have := congrArg List.length hke; unfold keysR at this; rw [List.length_map, List.length_map] at this; rw [this]; have := hlr _ hm; have e : x.2.length ≤ 1000 := this; omega), ?_⟩
      rw [show (V.ref r) = fP (r, row) from rfl, putK_old hy]
      refine ⟨_, _, _, rfl, r6.put hra6 hr8 ⟨y, hy⟩, ?_, fun y hy => ?_, fun b o e nb => by rw [upd_ne nb]; exact sT _ _ (o5 _ _ e nb)⟩
      · rw [con_set, hc5]
        unfold setAll
        rw [List.take_add_one, List.take_add_one, hq, hrow, List.zip_append (by rw [List.length_take, List.length_take, ← hp4.length, lrs]), List.foldl_append]
        rfl
      · rcases setA_mem hy with e | ⟨hy', _⟩
        · rw [e]; exact .inr (S3.free (hr4 r hrl))
        · exact hf5 y hy'
    · rintro σ H5 ⟨v7, v8, R', rfl, r5, hc5, hf5, o5⟩
      rw [List.length_map, List.take_length] at hc5
      have lch : ch.length = (cellPages ad cs.length).length := by rw [← hp4.length, lrs]
      rw [← lch, List.take_length, ← eC] at hc5
      have O5 : Off (· = x.1) H H5 := fun b o e nb => o5 _ _ (S4 _ _ e) nb
      exact kQ x hx h H5 R' hc5 hf5 (D.setRoom hx O5 r5) O5
end
end Rm

namespace Rm
open PySem L2
noncomputable def spCopy (C CN CT CR : Addr) : Sp := fun vs H Q E => ∃ (p a : Addr) (tot t o : Int) (W : Rms), vs = [.ref p, .int t, .int o] ∧ PRAt C H p a tot W ∧ t.natAbs.log2 < 1920 ∧ o.natAbs.log2 < 1920 ∧ W.length ≤ 1000 ∧ (∀ x ∈ W, x.2.2.length ≤ 64) ∧ tot.natAbs.log2 < 1920 ∧
  (look W t = none → E (.ref CN) none H) ∧ (∀ x, look W t = some x → (∃ y, look W o = some y) → E (.ref CT) none H) ∧
  (∀ x, look W t = some x → look W o = none → tot < heldW W + x.2.length → ∀ H', Same H H' → E (.ref CR) none H') ∧
  (∀ x, look W t = some x → look W o = none → ¬ tot < heldW W + x.2.length → ∀ (H' : Hp) (r : Addr) (N : Room), H r = none → con N = con x.2 → (∀ y ∈ N, H y.2.1 = none) → PRAt C H' p a tot (W ++ [(o, r, N)]) → Off (· = a) H H' → Q .non H')
theorem PRAt.addRoom {C : Addr} {H H1 : Hp} {p a r : Addr} {tot o : Int} {W : Rms} {N : Room} (D : PRAt C H p a tot W) (hn : look W o = none) (s : Same H H1) (hr0 : H r = none) (rm : RoomAt H1 r N) : PRAt C (L2.upd H1 a (.dK (kvR (W ++ [(o, r, N)])))) p a tot (W ++ [(o, r, N)]) := by
  obtain ⟨dx, h1⟩ := id D.ob
  have D1 := D.same s
  have h1' := s _ _ h1
  have nra : r ≠ a := Ne.symm (ne_of_none D.R.hd hr0)
  refine ⟨⟨dx, by rw [upd_ne (Ne.symm (dk_ne_ins D1.R.hd h1'))]; exact h1'⟩, upd_same, fun x hx => ?_, ?_, ?_, fun x hx => ?_⟩
  · rcases List.mem_append.mp hx with hx | hx
    · exact (D1.R.rm x hx).upd (D.R.ne x hx) ⟨_, D1.R.hd⟩
    · rw [List.mem_singleton.mp hx]
      exact rm.upd nra ⟨_, D1.R.hd⟩
  · rw [List.map_append]
    exact List.nodup_append.mpr ⟨D.R.nd, List.nodup_cons.mpr ⟨by simp, List.nodup_nil⟩, fun x hx y hy => by
      have : y = o := by simpa using hy
      rw [this]
      rintro rfl
      exact look_none hn hx⟩
  · rw [List.map_append]
    exact List.nodup_append.mpr ⟨D.R.sp, List.nodup_cons.mpr ⟨by simp, List.nodup_nil⟩, fun x hx y hy => by
      have : y = r := by simpa using hy
      rw [this]
      rintro rfl
      obtain ⟨z, hz, e⟩ := List.mem_map.mp hx
      have := (D.R.rm z hz).hd
      rw [e, hr0] at this
      cases this⟩
  · rcases List.mem_append.mp hx with hx | hx
    · exact D.R.ne x hx
    · rw [List.mem_singleton.mp hx]; exact nra
section
variable {P : Program} {w : World} {K : PySem.W.Frag} {mg : Str → Option Value} {base : Heap}
theorem scIn : FnScope ["self", "total"] ["self", "total"] (defScope sInit) := ⟨rfl, rfl, rfl, by decide +kernel, rfl, by decide +kernel, by decide +kernel⟩
theorem ok_init {f C : Addr} {fd : FuncData} (F : Fun K "__init__" "PlainRooms.__init__" sInit f fd) (T : Txt K mg C) : FnOk P w K mg base CX0 1 f fd ["self", "total"] (spInit C) := by
  refine F.ok scIn (fun vs H Q E h => ?_) (fun cdv A outer s H vs Q E hr h => ?_)
  · obtain ⟨p, dx, t, rfl, _⟩ := h
    rfl
  · obtain ⟨p, dx, t, rfl, hp, k⟩ := h
    refine ⟨_, (pss_cons (ps_fld (pv 0) (pv 1) rfl)
      (pss_one (ps_fld (pv 0) pe_dnewK rfl))), ?_⟩
    refine ⟨_, rfl, _, rfl, p, C, dx, [], rfl, hp, T.cl, T.nT, by decide, ?_⟩
    intro a ha
    have npa : p ≠ a := fun z => by rw [← z, upd_same] at ha; cases ha
    have ha0 : H a = none := by rw [upd_ne (Ne.symm npa)] at ha; exact ha
    refine ⟨_, rfl, p, C, dx, _, rfl, by rw [upd_ne npa, upd_same], T.cl, T.nR, by show 1 < 1000; decide, ?_⟩
    refine k _ a ha0 ⟨⟨dx, upd_same⟩, ⟨?_, (fun _ h => nomatch h), List.nodup_nil, List.nodup_nil, (fun _ h => nomatch h)⟩⟩ fun b o e nb => ?_
    · rw [upd_ne (Ne.symm npa), upd_same]; rfl
    · rw [upd_ne nb, upd_ne (ne_of_none e ha0), upd_ne nb]; exact e
theorem scCo : FnScope ["self", "task", "other", "room", "copied", "page"] ["self", "task", "other"] (defScope sCopy) := ⟨rfl, rfl, rfl, by decide +kernel, rfl, by decide +kernel, by decide +kernel⟩
set_option maxHeartbeats 4000000 in
theorem ok_copy {f C CN CT CR fR' fS fA fH : Addr} {fd dR dS dA dH : FuncData} (F : Fun K "copy" "PlainRooms.copy" sCopy f fd) (T : Txt K mg C)
    (GR : FnOk P w K mg base (CXO P w) 1 fR' dR ["rooms", "task"] (spRoomOf CN)) (DR : Def K mg "room_of" fR' dR ["rooms", "task"])
    (GS : FnOk P w K mg base (CXO P w) 1 fS dS ["rooms", "task"] (spSecond CT)) (DS : Def K mg "refuse_second_room" fS dS ["rooms", "task"])
    (GA : FnOk P w K mg base (CXO P w) 1 fA dA ["held", "total"] (spAbove CR)) (DA : Def K mg "refuse_above" fA dA ["held", "total"])
    (GH : FnOk P w K mg base CX0 1 fH dH ["self"] (spHeld C)) (bH : Binds K dH ["self"] []) (mH : Meth K C "held" fH) : FnOk P w K mg base (CXO P w) 2 f fd ["self", "task", "other"] (spCopy C CN CT CR) := by
  refine F.okx scCo (fun vs H Q E h => ?_) (fun cdv A outer s H vs Q E hr h => ?_)
  · obtain ⟨p, a, tot, t, o, W, rfl, _⟩ := h
    rfl
  · obtain ⟨p, a, tot, t, o, W, rfl, D, ht, ho, lw, hlr, htot, kN, kT, kR, kQ⟩ := h
    have hs : sizeLine = 16777216 := sizeLine_eq
    obtain ⟨dx, h1⟩ := id D.ob
    have nHeld : (flds tot a).lookup ("held" : Str) = none := flds_no _ _ (by decide +kernel) (by decide +kernel)
    refine ⟨_, (pssx_cons (psx_set (i := 3) scCo.nd rfl (Or.inl rfl) (pex_call GR (hr.mono (by decide)) rfl (by rfl) DR.mg DR.kp DR.b .nil (pa_cons (pe_fld (pv 0) rfl) (pa_cons (pv 1) pa_nil))))
      (pssx_cons (psx_expr (pex_call GS (hr.mono (by decide)) rfl (by rfl) DS.mg DS.kp DS.b .nil (pa_cons (pe_fld (pv 0) rfl) (pa_cons (pv 2) pa_nil))))
      (pssx_cons (psx_expr (pex_call GA (hr.mono (by decide)) rfl (by rfl) DA.mg DA.kp DA.b .nil (pa_cons (pe_op op_add (pe_meth0 (pv 0) T.cl mH GH (hr.mono (by decide)) bH .nil pass0) (pe_callB call_lenD (by rfl) T.len PySem.boot_len (pa_cons (pv 3) pa_nil))) (pa_cons (pe_fld (pv 0) rfl) pa_nil))))
      (pssx_of (pss_cons (ps_set (i := 4) scCo.nd rfl (Or.inl rfl) pe_dnewK)
      (pss_cons (ps_thaw (ps_for PassesOwn.never rfl (pi_dict (pv 3)) (pg_name (i := 5) scCo.nd rfl (Or.inl rfl)) (pss_one (ps_dput (hu_of hr) (pv 4) (pv 5) (pe_callTy call_list_of (by rfl) T.list bt_list (pa_cons (pe_dget (hu_of hr) (pv 3) (pv 5) (fun _ _ => rfl)) pa_nil)) rfl))))
      (pss_one (ps_dput (hu_of hr) (pe_fld (pv 0) rfl) (pv 2) (pv 4) rfl)))))))), ?_⟩
    refine hidXN fun _ jt => ?_
    refine ⟨_, rfl, p, C, dx, _, _, rfl, h1, T.cl, T.nR, flds_r _ _, _, rfl, a, W, t, rfl, D.R.hd, ht, kN, fun x hx => ?_⟩
    have hm := look_mem hx
    have rm := D.R.rm _ hm
    have hlx : x.2.length ≤ 64 := hlr _ hm
    obtain ⟨hw0, hw1⟩ := held_le hlr
    refine jt _ _ (hidXD fun _ jt => ?_)
    refine ⟨_, rfl, p, C, dx, _, _, rfl, h1, T.cl, T.nR, flds_r _ _, _, rfl, a, W, o, rfl, D.R.hd, ho, kT x hx, fun hn => ?_⟩
    refine jt _ _ (hidXD fun _ jt => ?_)
    refine ⟨_, rfl, p, dx, _, rfl, h1, nHeld, p, a, tot, W, rfl, D, lw, fun H3 s3 => ?_⟩
    have S3 := s3
    have e3 := s3 _ _ rm.hd
    refine ⟨_, rfl, x.1, _, rfl, e3, _, _, rfl, rfl, _, rfl, p, C, dx, _, _, rfl, S3 _ _ h1, T.cl, T.nT, flds_t _ _, heldW W + x.2.length, tot, ?_, small_log (by (first | lia | omega)) (by (first | lia | omega)), htot, fun z => kR x hx hn z H3 S3, fun z => ?_⟩
    · show [V.int (heldW W + ((kvP x.2).length : Nat)), V.int tot] = _
      rw [dk_len]
    refine jt _ _ (hidN fun _ jt => ?_)
    intro r hr0
    have sr := same_new (X := .dK []) hr0
    have S4 := S3.trans sr
    have rm4 := rm.same S4
    have er : (upd H3 r (.dK [])) r = some (.dK []) := upd_same
    generalize upd H3 r (.dK []) = H4 at *
    have nfz : ∀ (o : Obj) u', H x.1 ≠ some (.frz o u') := fun o u' z => by rw [rm.hd] at z; cases z
    have nrx : r ≠ x.1 := Ne.symm (ne_of_none e3 hr0)
    refine jt _ _ (hid fun _ jt => ?_)
    refine ⟨_, rfl, x.1, _, rfl, rm4.hd, nfz, fun ob => ?_⟩
    refine for_dict (kvs := kvP x.2) (fun i σ H5 => ∃ (v5 : Option V) (N : Room), σ = [some (.ref p), some (.int t), some (.int o), some (.ref x.1), some (.ref r), v5] ∧ RoomAt H5 r N ∧ con N = (con x.2).take i ∧ (∀ y ∈ N, H y.2.1 = none) ∧ H5 x.1 = some (.frz ob (.dK (kvP x.2))) ∧ Off (fun b => b = r ∨ b = x.1) H4 H5)
      ⟨_, [], rfl, ⟨by rw [upd_ne nrx]; exact er, (fun _ h => nomatch h), List.nodup_nil, (fun _ h => nomatch h)⟩, rfl, (fun _ h => nomatch h), upd_same, fun b o e nb => by rw [upd_ne (fun z => nb (.inr z))]; exact e⟩ (fun i σ H5 _ z0 => by obtain ⟨_, _, _, _, _, _, h5, _⟩ := z0; exact h5) ?_ ?_
    · rintro i kk v σ H5 hk ⟨v5, N, rfl, r5, c5, f5, h5, o5⟩
      have hk' : (x.2.map fun y : Int × Addr × List Int => ((Sum.inl y.1 : Key), fP y.2))[i]? = some (kk, v) := hk
      rw [List.getElem?_map] at hk'
      obtain ⟨y, hy, e⟩ := Option.map_eq_some_iff.mp hk'
      cases e
      have hym := List.mem_of_getElem? hy
      have hi : i < x.2.length := (List.getElem?_eq_some_iff.mp hy).1
      have hlk : look x.2 y.1 = some y.2 := look_some rm.nd hym
      have hg : DGet H5 x.1 (.int y.1) (some (fP y.2)) := .inl ⟨kvP x.2, Sum.inl y.1, .inr ⟨ob, h5⟩, rfl, by rw [valV_dk, hlk]; rfl⟩
      obtain ⟨hyr, hy8⟩ := rm4.hr y hym
      have hyr5 : H5 y.2.1 = some (.lst (y.2.2.map V.int)) := o5 _ _ hyr (fun q => q.elim (fun q => by rw [q, er] at hyr; cases hyr) (fun q => by rw [q, rm4.hd] at hyr; cases hyr))
      have hN : look N y.1 = none := look_not fun q => by
        have e1 : N.map (·.1) = (x.2.map (·.1)).take i := by
          have := congrArg (List.map (·.1)) c5
          unfold con at this
          rw [List.map_map, List.map_take, List.map_map] at this
          exact this
        rw [e1] at q
        obtain ⟨j, hj, ej⟩ := List.mem_iff_getElem.mp q
        rw [List.length_take, List.length_map] at hj
        rw [List.getElem_take] at ej
        have ei : (x.2.map (·.1))[i]'(by rw [List.length_map]; exact hi) = y.1 := by
          rw [List.getElem_map, (List.getElem?_eq_some_iff.mp hy).2]
        have := (List.getElem_inj rm.nd).mp (ej.trans ei.symm)
        (first | lia | omega)
      have lN : N.length = i := by
        have := congrArg List.length c5
        unfold con at this
        rw [List.length_map, List.length_take, List.length_map] at this
        (first | lia | omega)
      refine ⟨_, rfl, _, rfl, x.1, _, rfl, hg, y.2.1, _, rfl, .inl (SqL.of hyr5), fun l hl => ?_⟩
      have sl := same_new (X := .lst (y.2.2.map V.int)) hl
      have el : (upd H5 l (.lst (y.2.2.map V.int))) l = some (.lst (y.2.2.map V.int)) := upd_same
      have nlx : l ≠ x.1 := Ne.symm (ne_of_none h5 hl)
      have r6 := r5.same sl
      have h6 := sl _ _ h5
      have nl : H l = none := by
        cases e : H l with
        | none => rfl
        | some u =>
          have e4 := S4 _ _ e
          by_cases q : l = r
          · rw [q] at e; rw [S3.free hr0] at e; cases e
          · rw [o5 _ _ e4 (fun z => z.elim q nlx)] at hl; cases hl
      generalize upd H5 l (.lst (y.2.2.map V.int)) = H6 at *
      refine ⟨_, rfl, _, rfl, r, _, rfl, DPut.k (k := Sum.inl y.1) r6.hd (by rw [dk_len]; (first | lia | omega)), ?_⟩
      rw [show (V.ref l) = fP (l, y.2.2) from rfl, putK_new' hN]
      refine ⟨_, N ++ [(y.1, l, y.2.2)], rfl, r6.add el hy8 hN (rm.rg y hym).1 (rm.rg y hym).2, ?_, fun z hz => ?_, by rw [upd_ne (Ne.symm nrx)]; exact h6, fun b o e nb => by rw [upd_ne (fun z => nb (.inl z))]; exact sl _ _ (o5 _ _ e nb)⟩
      · rw [List.take_add_one, ← c5]
        unfold con
        rw [List.getElem?_map, hy, List.map_append]
        rfl
      · rcases List.mem_append.mp hz with hz | hz
        · exact f5 z hz
        · rw [List.mem_singleton.mp hz]; exact nl
    · rintro σ H5 ⟨v5, N, rfl, r5, c5, f5, h5, o5⟩
      refine ⟨x.1, ob, _, h5, nfz, ?_⟩
      rw [dk_len, List.take_of_length_le (show (con x.2).length ≤ x.2.length by unfold con; rw [List.length_map]; exact Nat.le_refl _)] at c5
      have sZ : Same H (upd H5 x.1 (.dK (kvP x.2))) := fun b u e => by
        by_cases q : b = x.1
        · rw [q, upd_same, ← e, q, rm.hd]
        · rw [upd_ne q]
          exact o5 _ _ (S4 _ _ e) (fun z => z.elim (fun z => by rw [z, S3.free hr0] at e; cases e) q)
      have r6 : RoomAt (upd H5 x.1 (.dK (kvP x.2))) r N := ⟨by rw [upd_ne nrx]; exact r5.hd, fun y hy => ⟨by rw [upd_ne (fun z => by have q := (r5.hr y hy).1; rw [z, h5] at q; cases q)]; exact (r5.hr y hy).1, (r5.hr y hy).2⟩, r5.nd, r5.rg⟩
      generalize upd H5 x.1 (.dK (kvP x.2)) = H6 at *
      refine jt _ _ _ ?_
      refine ⟨_, rfl, _, rfl, p, C, dx, _, _, rfl, sZ _ _ h1, T.cl, T.nR, flds_r _ _, _, rfl, a, _, rfl, DPut.k (k := Sum.inl o) (sZ _ _ D.R.hd) (by rw [dk_len]; (first | lia | omega)), ?_⟩
      rw [show (V.ref r) = fR (r, N) from rfl, putK_new' hn]
      exact kQ x hx hn z _ r N (S3.free hr0) c5 f5 (D.addRoom hn sZ (S3.free hr0) r6) fun b o e nb => by rw [upd_ne nb]; exact sZ _ _ e
end
end Rm

namespace Rm
open PySem L2
noncomputable def conW (W : Rms) : List (Int × List (Int × List Int)) := W.map fun x => (x.1, con x.2.2)
theorem look_map {α β : Type} (g : α → β) (k : Int) : ∀ l : List (Int × α), look (l.map fun x => (x.1, g x.2)) k = (look l k).map g
  | [] => rfl
  | x :: l => by
    rw [List.map_cons, look_cons, look_cons, look_map g k l]
    by_cases e : x.1 = k
    · rw [if_pos e, if_pos e]; rfl
    · rw [if_neg e, if_neg e]
theorem look_con {R : Room} {q : Int} : look (con R) q = (look R q).map (·.2) := look_map _ _ _
theorem look_conW {W : Rms} {t : Int} : look (conW W) t = (look W t).map fun x => con x.2 := look_map (fun x : Addr × Room => con x.2) _ _
theorem setA_map {α β : Type} (g : α → β) (k : Int) (a : α) (l : List (Int × α)) : (setA l k a).map (fun x => (x.1, g x.2)) = setA (l.map fun x => (x.1, g x.2)) k (g a) := by
  unfold setA
  rw [List.map_map, List.map_map]
  apply List.map_congr_left
  intro x _
  show ((if x.1 = k then (k, a) else x).1, g (if x.1 = k then (k, a) else x).2) = if x.1 = k then (k, g a) else (x.1, g x.2)
  by_cases e : x.1 = k
  · rw [if_pos e, if_pos e]
  · rw [if_neg e, if_neg e]
theorem conW_set {W : Rms} {t : Int} {r : Addr} {R : Room} : conW (setA W t (r, R)) = setA (conW W) t (con R) := setA_map (fun x : Addr × Room => con x.2) _ _ _
theorem delA_map {α β : Type} (g : α → β) (k : Int) (l : List (Int × α)) : (delA l k).map (fun x => (x.1, g x.2)) = delA (l.map fun x => (x.1, g x.2)) k := by
  unfold delA
  rw [List.filter_map]
  rfl
theorem conW_del {W : Rms} {t : Int} : conW (delA W t) = delA (conW W) t := delA_map (fun x : Addr × Room => con x.2) _ _
theorem conW_len {W : Rms} : (conW W).length = W.length := List.length_map ..
theorem con_len {R : Room} : (con R).length = R.length := List.length_map ..
theorem con_keys {R : Room} : (con R).map (·.1) = keysR R := by unfold con; rw [List.map_map]; rfl
theorem held_con {W : Rms} : heldW W = ((conW W).map fun x => (x.2.length : Int)).sum := by
  unfold heldW conW
  rw [List.map_map]
  congr 1
  apply List.map_congr_left
  intro x _
  show ((x.2.2.length : Nat) : Int) = (((con x.2.2).length : Nat) : Int)
  rw [con_len]
variable {C : Addr} {H H' : Hp} {p a b : Addr} {tot : Int} {W Z : Rms} {t : Int}
end Rm

namespace Rm
open PySem L2
noncomputable abbrev sNumber : Stmt := top 23
noncomputable abbrev sTasks : Stmt := top 24
noncomputable abbrev sDo : Stmt := top 25
noncomputable abbrev sWord : Stmt := top 26
noncomputable abbrev sTold : Stmt := top 27
noncomputable abbrev sState : Stmt := top 28
noncomputable abbrev sFar : Stmt := top 29
noncomputable abbrev sBad : Stmt := top 30
noncomputable abbrev sNoCells : Stmt := top 31
noncomputable abbrev sSmall : Stmt := top 32
noncomputable abbrev sFull : Stmt := top 33
noncomputable abbrev sLaw : Stmt := top 34
structure MTxt (mg : Str → Option Value) : Prop where
  range : mg "range" = none
  enumerate : mg "enumerate" = none
  sum : mg "sum" = none
  int : mg "int" = none
  isi : mg "isinstance" = none
  min : mg "min" = none
inductive Ref4 where
  | noTask | noPage | noRoom | taken
  deriving DecidableEq
noncomputable def wordOf : Ref4 → Str
  | .noTask => "NoTask" | .noPage => "NoPage" | .noRoom => "NoRoom" | .taken => "Taken"
noncomputable def cl4of (a b c d : Addr) : Ref4 → Addr
  | .noTask => a | .noPage => b | .noRoom => c | .taken => d
noncomputable abbrev Wc := List (Int × List (Int × List Int))
inductive Deed where
  | map (t pg m : Int)
  | drop (t pg m : Int)
  | peek (t ad n : Int)
  | poke (t ad : Int) (cs : List Int)
  | close (t : Int)
  | copy (t o : Int)
noncomputable def DeedAt (H : Hp) (d : Addr) : Deed → Prop
  | .map t pg m => H d = some (.tup [.str "map", .int t, .int pg, .int m])
  | .drop t pg m => H d = some (.tup [.str "drop", .int t, .int pg, .int m])
  | .peek t ad n => H d = some (.tup [.str "peek", .int t, .int ad, .int n])
  | .poke t ad cs => ∃ c, H d = some (.tup [.str "poke", .int t, .int ad, .ref c]) ∧ H c = some (.lst (cs.map V.int))
  | .close t => H d = some (.tup [.str "close", .int t])
  | .copy t o => H d = some (.tup [.str "copy", .int t, .int o])
theorem DeedAt.same {H H' : Hp} {d : Addr} {D : Deed} (h : DeedAt H d D) (s : Same H H') : DeedAt H' d D := by
  cases D with
  | poke t ad cs => obtain ⟨c, h1, h2⟩ := h; exact ⟨c, s _ _ h1, s _ _ h2⟩
  | _ => exact s _ _ h
theorem DeedAt.kind {H : Hp} {d : Addr} {D : Deed} (h : DeedAt H d D) : ∃ (k : Str) (r : List V), H d = some (.tup (.str k :: r)) := by
  cases D with
  | poke t ad cs => obtain ⟨c, h1, h2⟩ := h; exact ⟨_, _, h1⟩
  | _ => exact ⟨_, _, h⟩
noncomputable def keysC (r : List (Int × List Int)) : List Int := r.map (·.1)
noncomputable def heldC (c : Wc) : Int := (c.map fun x => (x.2.length : Int)).sum
noncomputable abbrev Lo (n : Int) : Prop := n.natAbs.log2 < 1920
/-- the first refusal that is due -/
noncomputable def Due (tot : Int) (c : Wc) : Deed → Ref4 → Prop
  | .map t pg m, X => (look c t = none ∧ X = .noTask) ∨ ∃ r, look c t = some r ∧ ((noPages pg m ∧ X = .noPage) ∨ (¬ noPages pg m ∧ (∃ q ∈ pagesL pg m, q ∈ keysC r) ∧ X = .taken) ∨ (¬ noPages pg m ∧ (∀ q ∈ pagesL pg m, ¬ q ∈ keysC r) ∧ tot < heldC c + m ∧ X = .noRoom))
  | .drop t pg m, X => (look c t = none ∧ X = .noTask) ∨ ∃ r, look c t = some r ∧ (noPages pg m ∨ ¬ ∀ q ∈ pagesL pg m, q ∈ keysC r) ∧ X = .noPage
  | .peek t ad n, X => (look c t = none ∧ X = .noTask) ∨ ∃ r, look c t = some r ∧ badCells ad n (keysC r) ∧ X = .noPage
  | .poke t ad cs, X => (look c t = none ∧ X = .noTask) ∨ ∃ r, look c t = some r ∧ badCells ad cs.length (keysC r) ∧ X = .noPage
  | .close t, X => look c t = none ∧ X = .noTask
  | .copy t o, X => (look c t = none ∧ X = .noTask) ∨ ∃ r, look c t = some r ∧ (((∃ y, look c o = some y) ∧ X = .taken) ∨ (look c o = none ∧ tot < heldC c + r.length ∧ X = .noRoom))
/-- none is due, and what is held then -/
noncomputable def Good (tot : Int) (c : Wc) : Deed → Wc → Prop
  | .map t pg m, c' => ∃ r, look c t = some r ∧ ¬ noPages pg m ∧ (∀ q ∈ pagesL pg m, ¬ q ∈ keysC r) ∧ ¬ tot < heldC c + m ∧ c' = setA c t (r ++ (pagesL pg m).map fun q => (q, z8))
  | .poke t _ cs, c' => cs = [] ∧ (∃ r, look c t = some r) ∧ c' = c
  | _, _ => False
noncomputable def Lg : Deed → Prop
  | .map t pg m => Lo t ∧ Lo pg ∧ Lo m
  | .drop t pg m => Lo t ∧ Lo pg ∧ Lo m
  | .peek t ad n => Lo t ∧ Lo n ∧ Lo (cFst ad) ∧ Lo (cCnt ad n)
  | .poke t ad cs => Lo t ∧ cs.length ≤ 500 ∧ Lo (cFst ad) ∧ Lo (cCnt ad cs.length)
  | .close t => Lo t
  | .copy t o => Lo t ∧ Lo o
structure Sz (c : Wc) (tot : Int) : Prop where
  ln : c.length ≤ 1000
  lm : ∀ x ∈ c, x.2.length ≤ 64
  lt : Lo tot
theorem Sz.w {W : Rms} {tot : Int} (s : Sz (conW W) tot) : W.length ≤ 1000 ∧ ∀ x ∈ W, x.2.2.length ≤ 64 := by
  refine ⟨by rw [← conW_len]; exact s.ln, fun x hx => ?_⟩
  have := s.lm (x.1, con x.2.2) (List.mem_map.mpr ⟨x, hx, rfl⟩)
  rw [← con_len]
  exact this
theorem held_c (W : Rms) : heldW W = heldC (conW W) := held_con
/-- what is no dict stays -/
noncomputable def Kt (H H' : Hp) : Prop := ∀ b o, H b = some o → (∀ kvs, o ≠ .dK kvs) → H' b = some o
theorem Kt.same {H H' : Hp} (s : Same H H') : Kt H H' := fun _ _ e _ => s _ _ e
theorem Kt.trans {H H' H'' : Hp} (h : Kt H H') (h' : Kt H' H'') : Kt H H'' := fun b o e n => h' b o (h b o e n) n
theorem Kt.off {H H' : Hp} {c : Addr} {kvs : List (Key × V)} (hc : H c = some (.dK kvs)) (o : Off (· = c) H H') : Kt H H' := fun b u e n => o _ _ e fun q => by
  rw [q, hc] at e
  exact n _ (Option.some.inj e).symm
theorem Kt.lst {H H' : Hp} (k : Kt H H') {l : Addr} {xs : List V} (h : H l = some (.lst xs)) : H' l = some (.lst xs) := k _ _ h (by intro _ z; cases z)
theorem Kt.tup {H H' : Hp} (k : Kt H H') {l : Addr} {xs : List V} (h : H l = some (.tup xs)) : H' l = some (.tup xs) := k _ _ h (by intro _ z; cases z)
theorem lookW {W : Rms} {t : Int} {r : List (Int × List Int)} (h : look (conW W) t = some r) : ∃ x, look W t = some x ∧ con x.2 = r := by
  rw [look_conW] at h
  exact Option.map_eq_some_iff.mp h
theorem lookW0 {W : Rms} {t : Int} (h : look (conW W) t = none) : look W t = none := by
  rw [look_conW] at h
  exact Option.map_eq_none_iff.mp h
theorem lookWn {W : Rms} {t : Int} (h : look W t = none) : look (conW W) t = none := by rw [look_conW, h]; rfl
theorem keysC_con {R : Room} : keysC (con R) = keysR R := con_keys
theorem mul_small (x : Int) : CMul (x % 2147483647) (x % 2147483647) := by
  have m0 := Int.emod_nonneg x (show (2147483647 : Int) ≠ 0 by decide)
  have m1 := Int.emod_lt_of_pos x (show (0 : Int) < 2147483647 by decide)
  exact .inl ⟨by (first | lia | (first | lia | omega)), by (first | lia | (first | lia | omega))⟩
theorem key_log {n : Int} (h0 : 0 ≤ n) (h1 : n < 10 ^ 60) : n.natAbs.log2 < 1920 := by
  by_cases z : n.natAbs = 0
  · rw [z]; decide
  · rw [Nat.log2_lt z]
    have h3 : n.natAbs < 10 ^ 60 := by (first | lia | (first | lia | omega))
    have h4 : (10 : Nat) ^ 60 < 2 ^ 1920 := by decide +kernel
    (first | lia | (first | lia | omega))
theorem big_log {n : Int} (h0 : -(10 ^ 60) < n) (h1 : n < 10 ^ 60) : n.natAbs.log2 < 1920 := by
  by_cases z : n.natAbs = 0
  · rw [z]; decide
  · rw [Nat.log2_lt z]
    have h3 : n.natAbs < 10 ^ 60 := by (first | lia | (first | lia | omega))
    have h4 : (10 : Nat) ^ 60 < 2 ^ 1920 := by decide +kernel
    (first | lia | (first | lia | omega))
theorem pagesL_one (q : Int) : pagesL q 1 = [q] := by
  show [q + ((0 : Nat) : Int)] = [q]
  simp
theorem atI_of {xs : List Int} {i : Int} (h0 : 0 ≤ i) (h1 : i < xs.length) : ∃ q ∈ xs, atI (xs.map V.int) i = some (.int q) := by
  have hn : i.toNat < xs.length := by (first | lia | (first | lia | omega))
  refine ⟨xs[i.toNat], List.getElem_mem hn, ?_⟩
  unfold atI ixN
  rw [List.length_map, if_pos h0, if_pos h1]
  show (xs.map V.int)[i.toNat]? = _
  rw [List.getElem?_map, List.getElem?_eq_getElem hn]
  rfl
theorem one_pageI {q at' n : Int} (h0 : 0 ≤ at') (h1 : 1 ≤ n) (h2 : at' + n ≤ 8) : cFst (8 * q + at') = q ∧ cCnt (8 * q + at') n = 1 := by
  unfold cFst cCnt
  (first | lia | (first | lia | omega))
theorem one_goodI {q ad n : Int} {ms : List Int} (h1 : cFst ad = q) (h2 : cCnt ad n = 1) (q0 : 0 ≤ q) (q1 : q < 64) (hn : 1 ≤ n) (hq : q ∈ ms) : ¬ badCells ad n ms := by
  rintro (h | ⟨_, h | h⟩)
  · (first | lia | (first | lia | omega))
  · rw [h1, h2] at h
    rcases h with h | h | h <;> (first | lia | (first | lia | omega))
  · rw [h1, h2, pagesL_one] at h
    exact h fun x hx => by rw [List.mem_singleton.mp hx]; exact hq
theorem one_badI {q ad n : Int} {ms : List Int} (h1 : cFst ad = q) (h2 : cCnt ad n = 1) (hn : 1 ≤ n) (hq : ¬ q ∈ ms) : badCells ad n ms := by
  refine .inr ⟨by (first | lia | (first | lia | omega)), .inr fun h => ?_⟩
  rw [h1, h2, pagesL_one] at h
  exact hq (h q (List.mem_singleton.mpr rfl))
theorem peek_one {R : Room} {q : Int} {y : Addr × List Int} (h1 : cFst (8 * q) = q) (h2 : cCnt (8 * q) 8 = 1) (hy : look R q = some y) (h8 : y.2.length = 8) : peekC R (8 * q) 8 = y.2 := by
  unfold peekC cellPages
  rw [if_neg (by decide), h1, h2, pagesL_one]
  have e1 : cellsOf R [q] = y.2 := by
    unfold cellsOf
    rw [List.map_singleton, hy]
    show [y.2].flatten = y.2
    simp
  rw [e1, show ((8 * q) % 8).toNat = 0 by (first | lia | (first | lia | omega)), List.drop_zero]
  exact List.take_of_length_le (by rw [h8]; decide)
noncomputable def spNumber : Sp := fun vs H Q _ => ∃ (c j : Int) (d : Bool), vs = [.int c, .int j, .bl d] ∧ ∀ n : Int, Q (.int n) H
noncomputable def spTasks : Sp := fun vs H Q _ => ∃ c : Int, vs = [.int c] ∧ ∀ (k3 k4 : Int) (H' : Hp) (l : Addr), 3 ≤ k3 → k3 ≤ 11 → 12 ≤ k4 → k4 < 10 ^ 60 → Same H H' → H l = none → H' l = some (.lst ([1, 2, k3, k4].map V.int)) → Q (.ref l) H'
noncomputable def spFar : Sp := fun vs H Q _ => ∃ r : Int, vs = [.int r] ∧ ∀ (n : Int) (H' : Hp), 64 ≤ n → n < 10 ^ 59 → Same H H' → Q (.int n) H'
section
variable {P : Program} {w : World} {K : PySem.W.Frag} {mg : Str → Option Value} {base : Heap}
theorem scNu : FnScope ["_law_cell", "_law_k", "_law_digits", "_law_once"] ["_law_cell", "_law_k", "_law_digits"] (defScope sNumber) := ⟨rfl, rfl, rfl, by decide +kernel, rfl, by decide +kernel, by decide +kernel⟩
theorem ok_number {f : Addr} {fd : FuncData} (F : Fun K "_law_number" "_law_number" sNumber f fd) : FnOk P w K mg base CX0 1 f fd ["_law_cell", "_law_k", "_law_digits"] spNumber := by
  refine F.ok scNu (fun vs H Q E h => ?_) (fun cdv A outer s H vs Q E hr h => ?_)
  · obtain ⟨c, j, d, rfl, _⟩ := h
    rfl
  · obtain ⟨c, j, d, rfl, k⟩ := h
    refine ⟨_, (pss_cons (ps_if (pt_val (pv 2)) (pss_one (ps_ret (pe_op op_mod (pv 0) (pe_op op_pow pe_int pe_int)))) pss_nil)
      (pss_cons (ps_set (i := 3) scNu.nd rfl (Or.inl rfl) (pe_op op_mod (pe_op op_mul (pe_op op_add (pe_op op_add (pe_op op_mod (pv 0) (pe_op op_pow pe_int pe_int)) (pe_op op_mul pe_int (pv 1))) pe_int) pe_int) pe_int))
      (pss_one (ps_ret (pe_op op_add (pe_op op_mul (pv 3) pe_int) (pe_op op_mod (pe_op op_mul (pv 3) (pv 3)) pe_int)))))), ?_⟩
    refine ⟨_, rfl, d, rfl, ?_⟩
    refine ite2 (fun e => ?_) (fun e => ?_)
    · refine ⟨_, rfl, _, _, rfl, rfl, ⟨by decide, by decide, by decide⟩, _, _, rfl, rfl, (by show (0 : Int) < 10 ^ 60; decide), k _⟩
    · refine ⟨_, rfl, _, _, rfl, rfl, ⟨by decide, by decide, by decide⟩, _, _, rfl, rfl, (by show (0 : Int) < 10 ^ 40; decide), _, rfl, _, _, rfl, rfl, .inl ⟨by decide, by decide⟩, _, _, rfl, rfl, _, _, rfl, rfl, _, _, rfl, rfl, .inr ⟨by decide, by decide⟩, _, _, rfl, rfl, (by show (0 : Int) < 2147483647; decide), ?_⟩
      refine ⟨_, rfl, _, _, rfl, rfl, .inr ⟨by decide, by decide⟩, _, rfl, _, rfl, _, _, rfl, rfl, mul_small _, _, _, rfl, rfl, (by show (0 : Int) < 2147483629; decide), _, _, rfl, rfl, k _⟩
theorem p59 : (10 : Int) ^ Int.toNat 59 = 100000000000000000000000000000000000000000000000000000000000 := by decide
theorem p40 : (10 : Int) ^ Int.toNat 40 = 10000000000000000000000000000000000000000 := by decide
theorem p55 : (10 : Int) ^ Int.toNat 55 = 10000000000000000000000000000000000000000000000000000000 := by decide
theorem p50 : (10 : Int) ^ Int.toNat 50 = 100000000000000000000000000000000000000000000000000 := by decide
theorem p60 : (10 : Int) ^ 60 = 1000000000000000000000000000000000000000000000000000000000000 := by decide
theorem p59' : (10 : Int) ^ 59 = 100000000000000000000000000000000000000000000000000000000000 := by decide
theorem scTs : FnScope ["_law_cell"] ["_law_cell"] (defScope sTasks) := ⟨rfl, rfl, rfl, by decide +kernel, rfl, by decide +kernel, by decide +kernel⟩
theorem ok_tasks {f : Addr} {fd : FuncData} (F : Fun K "_law_tasks" "_law_tasks" sTasks f fd) : FnOk P w K mg base CX0 1 f fd ["_law_cell"] spTasks := by
  refine F.ok scTs (fun vs H Q E h => ?_) (fun cdv A outer s H vs Q E hr h => ?_)
  · obtain ⟨c, rfl, _⟩ := h
    rfl
  · obtain ⟨c, rfl, k⟩ := h
    refine ⟨_, (pss_one (ps_ret (pe_lst (pa_cons pe_int (pa_cons pe_int (pa_cons (pe_op op_add pe_int (pe_op op_mod (pv 0) pe_int)) (pa_cons (pe_op op_add (pe_op op_pow pe_int pe_int) (pe_op op_mod (pv 0) (pe_op op_pow pe_int pe_int))) pa_nil))))))), ?_⟩
    have a0 := Int.emod_nonneg c (show (9 : Int) ≠ 0 by decide)
    have a1 := Int.emod_lt_of_pos c (show (0 : Int) < 9 by decide)
    have b0 := Int.emod_nonneg c (show (10 : Int) ^ Int.toNat 40 ≠ 0 by decide)
    have b1 := Int.emod_lt_of_pos c (show (0 : Int) < (10 : Int) ^ Int.toNat 40 by decide)
    refine ⟨_, rfl, _, _, rfl, rfl, (by show (0 : Int) < 9; decide), _, _, rfl, rfl, _, _, rfl, rfl, ⟨by decide, by decide, by decide⟩, _, rfl, _, _, rfl, rfl, ⟨by decide, by decide, by decide⟩, _, _, rfl, rfl, (by show (0 : Int) < 10 ^ Int.toNat 40; decide), _, _, rfl, rfl, (by show 4 ≤ sizeLine; decide), fun l hl => k (3 + c % 9) ((10 : Int) ^ Int.toNat 59 + c % (10 : Int) ^ Int.toNat 40) _ l (by (first | lia | (first | lia | omega))) (by (first | lia | (first | lia | omega))) ?_ ?_ (same_new hl) hl upd_same⟩
    · rw [p59, p40]; rw [p40] at b0 b1; (first | lia | (first | lia | omega))
    · rw [p59, p60, p40]; rw [p40] at b0 b1; (first | lia | (first | lia | omega))
theorem scFa : FnScope ["_law_rest"] ["_law_rest"] (defScope sFar) := ⟨rfl, rfl, rfl, by decide +kernel, rfl, by decide +kernel, by decide +kernel⟩
theorem ok_far {f : Addr} {fd : FuncData} (F : Fun K "_law_far" "_law_far" sFar f fd) : FnOk P w K mg base CX0 1 f fd ["_law_rest"] spFar := by
  refine F.ok scFa (fun vs H Q E h => ?_) (fun cdv A outer s H vs Q E hr h => ?_)
  · obtain ⟨c, rfl, _⟩ := h
    rfl
  · obtain ⟨c, rfl, k⟩ := h
    refine ⟨_, (pss_one (ps_ret (pe_ix ix_list (pe_lst (pa_cons (pe_op op_add (pe_op op_pow pe_int pe_int) (pe_op op_mod (pv 0) pe_int)) (pa_cons pe_int (pa_cons (pe_op op_add pe_int (pe_op op_mod (pv 0) pe_int)) pa_nil)))) (pe_op op_mod (pe_op op_fdiv (pv 0) pe_int) pe_int) (fun _ _ => rfl)))), ?_⟩
    have a0 := Int.emod_nonneg c (show (97 : Int) ≠ 0 by decide)
    have a1 := Int.emod_lt_of_pos c (show (0 : Int) < 97 by decide)
    have b0 := Int.emod_nonneg c (show (9 : Int) ≠ 0 by decide)
    have b1 := Int.emod_lt_of_pos c (show (0 : Int) < 9 by decide)
    have d0 := Int.emod_nonneg (c / 97) (show (3 : Int) ≠ 0 by decide)
    have d1 := Int.emod_lt_of_pos (c / 97) (show (0 : Int) < 3 by decide)
    obtain ⟨q, hq, eq⟩ := atI_of (xs := [(10 : Int) ^ Int.toNat 55 + c % 97, 64, 65 + c % 9]) d0 d1
    refine ⟨_, _, rfl, rfl, ⟨by decide, by decide, by decide⟩, _, rfl, _, _, rfl, rfl, (by show (0 : Int) < 97; decide), _, _, rfl, rfl, _, rfl, _, _, rfl, rfl, (by show (0 : Int) < 9; decide), _, _, rfl, rfl, (by show 3 ≤ sizeLine; decide), fun l hl => ⟨_, rfl, _, _, rfl, rfl, ⟨by decide, by decide⟩, _, _, rfl, rfl, (by show (0 : Int) < 3; decide), l, _, _, .int q, rfl, rfl, SqL.of upd_same, eq, k q _ ?_ ?_ (same_new hl)⟩⟩
    · rw [p55] at hq
      rcases List.mem_cons.mp hq with e | hq
      · (first | lia | (first | lia | omega))
      rcases List.mem_cons.mp hq with e | hq
      · (first | lia | (first | lia | omega))
      have := List.mem_singleton.mp hq
      (first | lia | (first | lia | omega))
    · rw [p59']
      rw [p55] at hq
      rcases List.mem_cons.mp hq with e | hq
      · (first | lia | (first | lia | omega))
      rcases List.mem_cons.mp hq with e | hq
      · (first | lia | (first | lia | omega))
      have := List.mem_singleton.mp hq
      (first | lia | (first | lia | omega))
end
end Rm

namespace Rm
open PySem L2
set_option genInjectivity false in
set_option genSizeOf false in
/-- the methods of the rooms -/
structure Kit (P : Program) (w : World) (K : PySem.W.Frag) (mg : Str → Option Value) (base : Heap) (C : Addr) (cl4 : Ref4 → Addr) where
  (fBe fCl fMp fDr fPe fPk fCo fH : Addr)
  (dBe dCl dMp dDr dPe dPk dCo dH : FuncData)
  cl : Cls K C
  GBe : FnOk P w K mg base (CXO P w) 2 fBe dBe ["self", "task"] (spBegin C (cl4 .taken))
  bBe : Binds K dBe ["self", "task"] []
  mBe : Meth K C "begin" fBe
  GCl : FnOk P w K mg base (CXO P w) 2 fCl dCl ["self", "task"] (spClose C (cl4 .noTask))
  bCl : Binds K dCl ["self", "task"] []
  mCl : Meth K C "close" fCl
  GMp : FnOk P w K mg base (CXO P w) 3 fMp dMp ["self", "task", "page", "many"] (spMap C (cl4 .noTask) (cl4 .noPage) (cl4 .taken) (cl4 .noRoom))
  bMp : Binds K dMp ["self", "task", "page", "many"] []
  mMp : Meth K C "map" fMp
  GDr : FnOk P w K mg base (CXO P w) 3 fDr dDr ["self", "task", "page", "many"] (spDrop C (cl4 .noTask) (cl4 .noPage))
  bDr : Binds K dDr ["self", "task", "page", "many"] []
  mDr : Meth K C "drop" fDr
  GPe : FnOk P w K mg base (CXO P w) 3 fPe dPe ["self", "task", "address", "many"] (spPeek C (cl4 .noTask) (cl4 .noPage))
  bPe : Binds K dPe ["self", "task", "address", "many"] []
  mPe : Meth K C "peek" fPe
  GPk : FnOk P w K mg base (CXO P w) 3 fPk dPk ["self", "task", "address", "cells"] (spPoke K C (cl4 .noTask) (cl4 .noPage))
  bPk : Binds K dPk ["self", "task", "address", "cells"] []
  mPk : Meth K C "poke" fPk
  GCo : FnOk P w K mg base (CXO P w) 2 fCo dCo ["self", "task", "other"] (spCopy C (cl4 .noTask) (cl4 .taken) (cl4 .noRoom))
  bCo : Binds K dCo ["self", "task", "other"] []
  mCo : Meth K C "copy" fCo
  GH : FnOk P w K mg base CX0 1 fH dH ["self"] (spHeld C)
  bH : Binds K dH ["self"] []
  mH : Meth K C "held" fH
theorem ks_ne {a b : Str} (h : ¬ a = b) : ¬ V.str a = V.str b := fun z => h (V.str.inj z)
section
variable {tot t o pg m ad n : Int} {cs : List Int} {W : Rms} {X : Ref4}
theorem lkc {x : Addr × Room} (h : look W t = some x) : look (conW W) t = some (con x.2) := by rw [look_conW, h]; rfl
theorem due_none (h : look W t = none) {A : List (Int × List Int) → Prop} {Y : Ref4} (d : (look (conW W) t = none ∧ X = Y) ∨ ∃ r, look (conW W) t = some r ∧ A r) : X = Y := by
  rcases d with ⟨_, e⟩ | ⟨r, e, _⟩
  · exact e
  · rw [lookWn h] at e; cases e
theorem due_some {x : Addr × Room} (h : look W t = some x) {A : List (Int × List Int) → Prop} {Y : Ref4} (d : (look (conW W) t = none ∧ X = Y) ∨ ∃ r, look (conW W) t = some r ∧ A r) : A (con x.2) := by
  rcases d with ⟨e, _⟩ | ⟨r, e, a⟩
  · rw [lkc h] at e; cases e
  · rw [lkc h] at e
    rw [Option.some.inj e]
    exact a
theorem good_map {c' : Wc} {x : Addr × Room} {N : Room} (h : look W t = some x) (g : Good tot (conW W) (.map t pg m) c') (hN : N.map (·.1) = pagesL pg m) (hz : ∀ y ∈ N, y.2.2 = z8) : conW (setA W t (x.1, x.2 ++ N)) = c' := by
  obtain ⟨r, e, _, _, _, e2⟩ := g
  rw [lkc h] at e
  rw [conW_set, e2, ← Option.some.inj e]
  congr 1
  unfold con
  rw [List.map_append]
  congr 1
  rw [show N.map (fun y => (y.1, y.2.2)) = N.map (fun y => (y.1, z8)) from List.map_congr_left fun y hy => by rw [hz y hy], ← hN, List.map_map]
  rfl
theorem setA_self {α : Type} {l : List (Int × α)} {k : Int} {a : α} (nd : (l.map (·.1)).Nodup) (h : look l k = some a) : setA l k a = l := by
  unfold setA
  conv => rhs; rw [← List.map_id l]
  apply List.map_congr_left
  intro x hx
  by_cases e : x.1 = k
  · rw [if_pos e]
    have h1 : look l x.1 = some x.2 := look_some nd hx
    rw [e, h] at h1
    rw [Option.some.inj h1, ← e]
    rfl
  · rw [if_neg e]; rfl
theorem conW_nd (nd : (W.map (·.1)).Nodup) : ((conW W).map (·.1)).Nodup := by
  unfold conW
  rw [List.map_map]
  exact nd
theorem poke_nil {x : Addr × Room} {R' : Room} (nd : (W.map (·.1)).Nodup) (h : look W t = some x) (e : con R' = pokeC x.2 ad []) : conW (setA W t (x.1, R')) = conW W := by
  rw [conW_set, e]
  have : pokeC x.2 ad [] = con x.2 := rfl
  rw [this]
  exact setA_self (conW_nd nd) (lkc h)
theorem nil_good {ms : List Int} : ¬ badCells ad 0 ms := by
  rintro (h | ⟨h, _⟩) <;> (first | lia | omega)
end
/-- all is kept but the rooms' own dicts -/
noncomputable def OffW (W : Rms) (H H' : Hp) : Prop := Off (fun b => ∃ x ∈ W, x.2.1 = b) H H'
theorem OffW.of {W : Rms} {H H' : Hp} {t : Int} {x : Addr × Room} (h : look W t = some x) (o : Off (· = x.1) H H') : OffW W H H' := fun b u e n => o _ _ e fun q => n ⟨_, look_mem h, q.symm⟩
theorem OffW.kt {W : Rms} {H H' : Hp} {a : Addr} (o : OffW W H H') (R : RmsAt H a W) : Kt H H' := fun b u e n => o _ _ e fun zq1_0 => by
  obtain ⟨x, hx, q⟩ := zq1_0
  rw [← q, (R.rm x hx).hd] at e
  exact n _ (Option.some.inj e).symm
theorem OffW.same {W : Rms} {H H' H'' : Hp} (o : OffW W H H') (s : Same H' H'') : OffW W H H'' := fun b u e n => s _ _ (o _ _ e n)
noncomputable def spDo (C : Addr) (cl4 : Ref4 → Addr) : Sp := fun vs H Q E => ∃ (p a d : Addr) (tot : Int) (W : Rms) (D : Deed), vs = [.ref p, .ref d] ∧ PRAt C H p a tot W ∧ DeedAt H d D ∧ Lg D ∧ Sz (conW W) tot ∧
  ((∃ X, Due tot (conW W) D X ∧ ∀ H', Same H H' → E (.ref (cl4 X)) none H') ∨ (∃ c', Good tot (conW W) D c' ∧ ∀ (H' : Hp) (W' : Rms), PRAt C H' p a tot W' → conW W' = c' → W'.map (·.2.1) = W.map (·.2.1) → OffW W H H' → Q .non H'))
section
variable {P : Program} {w : World} {K : PySem.W.Frag} {mg : Str → Option Value} {base : Heap}
theorem scDo : FnScope ["_law_rooms", "_law_deed"] ["_law_rooms", "_law_deed"] (defScope sDo) := ⟨rfl, rfl, rfl, by decide +kernel, rfl, by decide +kernel, by decide +kernel⟩
set_option maxHeartbeats 4000000 in
theorem ok_do {f C : Addr} {cl4 : Ref4 → Addr} {fd : FuncData} (F : Fun K "_law_do" "_law_do" sDo f fd) (M : Kit P w K mg base C cl4) :
    FnOk P w K mg base (CXO P w) 4 f fd ["_law_rooms", "_law_deed"] (spDo C cl4) := by
  refine F.okx scDo (fun vs H Q E h => ?_) (fun cdv A outer s H vs Q E hr h => ?_)
  · obtain ⟨p, a, d, tot, W, D, rfl, _⟩ := h
    rfl
  · obtain ⟨p, a, d, tot, W, D, rfl, D0, hd, lg, sz, k⟩ := h
    refine ⟨_, (pssx_cons (psx_if (pt_cmpR op_eq (pe_ix ix_tup (pv 1) pe_int (fun _ _ => rfl)) pe_str (nomark _)) (pssx_one (psx_ret (pex_meth (pv 0) M.cl M.mBe M.GBe (hr.mono (by decide)) rfl M.bBe .nil (pa_cons (pe_ix ix_tup (pv 1) pe_int (fun _ _ => rfl)) pa_nil)))) pssx_nil)
      (pssx_cons (psx_if (pt_cmpR op_eq (pe_ix ix_tup (pv 1) pe_int (fun _ _ => rfl)) pe_str (nomark _)) (pssx_one (psx_ret (pex_meth (pv 0) M.cl M.mCl M.GCl (hr.mono (by decide)) rfl M.bCl .nil (pa_cons (pe_ix ix_tup (pv 1) pe_int (fun _ _ => rfl)) pa_nil)))) pssx_nil)
      (pssx_cons (psx_if (pt_cmpR op_eq (pe_ix ix_tup (pv 1) pe_int (fun _ _ => rfl)) pe_str (nomark _)) (pssx_one (psx_ret (pex_meth (pv 0) M.cl M.mMp M.GMp (hr.mono (by decide)) rfl M.bMp .nil (pa_cons (pe_ix ix_tup (pv 1) pe_int (fun _ _ => rfl)) (pa_cons (pe_ix ix_tup (pv 1) pe_int (fun _ _ => rfl)) (pa_cons (pe_ix ix_tup (pv 1) pe_int (fun _ _ => rfl)) pa_nil)))))) pssx_nil)
      (pssx_cons (psx_if (pt_cmpR op_eq (pe_ix ix_tup (pv 1) pe_int (fun _ _ => rfl)) pe_str (nomark _)) (pssx_one (psx_ret (pex_meth (pv 0) M.cl M.mDr M.GDr (hr.mono (by decide)) rfl M.bDr .nil (pa_cons (pe_ix ix_tup (pv 1) pe_int (fun _ _ => rfl)) (pa_cons (pe_ix ix_tup (pv 1) pe_int (fun _ _ => rfl)) (pa_cons (pe_ix ix_tup (pv 1) pe_int (fun _ _ => rfl)) pa_nil)))))) pssx_nil)
      (pssx_cons (psx_if (pt_cmpR op_eq (pe_ix ix_tup (pv 1) pe_int (fun _ _ => rfl)) pe_str (nomark _)) (pssx_one (psx_ret (pex_meth (pv 0) M.cl M.mPe M.GPe (hr.mono (by decide)) rfl M.bPe .nil (pa_cons (pe_ix ix_tup (pv 1) pe_int (fun _ _ => rfl)) (pa_cons (pe_ix ix_tup (pv 1) pe_int (fun _ _ => rfl)) (pa_cons (pe_ix ix_tup (pv 1) pe_int (fun _ _ => rfl)) pa_nil)))))) pssx_nil)
      (pssx_cons (psx_if (pt_cmpR op_eq (pe_ix ix_tup (pv 1) pe_int (fun _ _ => rfl)) pe_str (nomark _)) (pssx_one (psx_ret (pex_meth (pv 0) M.cl M.mPk M.GPk (hr.mono (by decide)) rfl M.bPk .nil (pa_cons (pe_ix ix_tup (pv 1) pe_int (fun _ _ => rfl)) (pa_cons (pe_ix ix_tup (pv 1) pe_int (fun _ _ => rfl)) (pa_cons (pe_ix ix_tup (pv 1) pe_int (fun _ _ => rfl)) pa_nil)))))) pssx_nil)
      (pssx_one (psx_ret (pex_meth (pv 0) M.cl M.mCo M.GCo (hr.mono (by decide)) rfl M.bCo .nil (pa_cons (pe_ix ix_tup (pv 1) pe_int (fun _ _ => rfl)) (pa_cons (pe_ix ix_tup (pv 1) pe_int (fun _ _ => rfl)) pa_nil))))))))))), ?_⟩
    refine hidsX7 fun _ j7 _ j6 _ j5 _ j4 _ j3 _ j2 => ?_
    obtain ⟨dx, h1⟩ := id D0.ob
    have no : ∀ m : Str, ¬ m = "rooms" → ¬ m = "total" → (flds tot a).lookup m = none := fun m => flds_no _ _
    have hk : ∀ x ∈ W, x.2.2.length ≤ 1000 := fun x hx => Nat.le_trans (sz.w.2 x hx) (by decide)
    cases D with
    | map t pg m =>
      have hd : H d = some (.tup [.str "map", .int t, .int pg, .int m]) := hd
      obtain ⟨g1, g2, g3⟩ := lg
      refine hidXCR fun _ ji je => eqF (ev_T (ev_v rfl) ev_c (SqT.of hd) rfl) ev_c rfl (ks_ne (by decide +kernel)) (je _ (j2 _ _ _ _ ?_))
      refine hidXCR fun _ ji je => eqF (ev_T (ev_v rfl) ev_c (SqT.of hd) rfl) ev_c rfl (ks_ne (by decide +kernel)) (je _ (j3 _ _ _ _ ?_))
      refine hidXCR fun _ ji je => eqT (ev_T (ev_v rfl) ev_c (SqT.of hd) rfl) ev_c rfl (ji _ ?_)
      refine ⟨_, rfl, p, dx, _, rfl, h1, no "map" (by decide +kernel) (by decide +kernel), (ac (ev_T (ev_v rfl) ev_c (SqT.of hd) rfl) (ac (ev_T (ev_v rfl) ev_c (SqT.of hd) rfl) (ac (ev_T (ev_v rfl) ev_c (SqT.of hd) rfl) an))) _ ⟨p, a, tot, t, pg, m, W, rfl, D0, g1, g2, g3, sz.w.1, sz.w.2, sz.lt, ?_⟩⟩
      rcases k with ⟨X, due, kE⟩ | ⟨c', g, kQ⟩
      · refine ⟨fun e => ?_, fun x hx hb H1 s1 => ?_, fun x hx hb hc H1 s1 => ?_, fun x hx hb hc ht H1 s1 => ?_, fun x hx hb hc ht => ?_⟩
        · rw [← due_none e due]; exact kE _ (Same.refl _)
        · rcases due_some hx due with ⟨_, e⟩ | ⟨n, _⟩ | ⟨n, _⟩
          · rw [← e]; exact kE _ s1
          · exact absurd hb n
          · exact absurd hb n
        · rcases due_some hx due with ⟨e, _⟩ | ⟨_, _, e⟩ | ⟨_, n, _⟩
          · exact absurd e hb
          · rw [← e]; exact kE _ s1
          · obtain ⟨q, q1, q2⟩ := hc
            exact absurd (by rw [keysC_con]; exact q2) (n q q1)
        · rcases due_some hx due with ⟨e, _⟩ | ⟨_, ⟨q, q1, q2⟩, e⟩ | ⟨_, n, _, e⟩
          · exact absurd e hb
          · exact absurd (by rw [← keysC_con]; exact q2) (hc q q1)
          · rw [← e]; exact kE _ s1
        · rcases due_some hx due with ⟨e, _⟩ | ⟨_, ⟨q, q1, q2⟩, e⟩ | ⟨_, n, n2, e⟩
          · exact absurd e hb
          · exact absurd (by rw [← keysC_con]; exact q2) (hc q q1)
          · exact absurd (by rw [held_c]; exact n2) ht
      · obtain ⟨r, er, n1, n2, n3, _⟩ := id g
        obtain ⟨x0, hx0, ex0⟩ := lookW er
        refine ⟨fun e => absurd (e.symm.trans hx0) (by simp), fun x hx hb => absurd hb n1, fun x hx hb ⟨q, q1, q2⟩ => ?_, fun x hx hb hc ht => ?_, fun x hx hb hc ht H1 N hN hz D1 o1 => ?_⟩
        · obtain rfl : x = x0 := Option.some.inj (hx.symm.trans hx0)
          exact absurd (by rw [← ex0, keysC_con]; exact q2) (n2 q q1)
        · exact absurd (by rw [← held_c]; exact ht) n3
        · exact kQ H1 _ D1 (good_map hx g hN fun y hy => (hz y hy).1) (setA_addr (R := x.2) D0.R.nd hx) (OffW.of hx o1)
    | drop t pg m =>
      have hd : H d = some (.tup [.str "drop", .int t, .int pg, .int m]) := hd
      obtain ⟨g1, g2, g3⟩ := lg
      refine hidXCR fun _ ji je => eqF (ev_T (ev_v rfl) ev_c (SqT.of hd) rfl) ev_c rfl (ks_ne (by decide +kernel)) (je _ (j2 _ _ _ _ ?_))
      refine hidXCR fun _ ji je => eqF (ev_T (ev_v rfl) ev_c (SqT.of hd) rfl) ev_c rfl (ks_ne (by decide +kernel)) (je _ (j3 _ _ _ _ ?_))
      refine hidXCR fun _ ji je => eqF (ev_T (ev_v rfl) ev_c (SqT.of hd) rfl) ev_c rfl (ks_ne (by decide +kernel)) (je _ (j4 _ _ _ _ ?_))
      refine hidXCR fun _ ji je => eqT (ev_T (ev_v rfl) ev_c (SqT.of hd) rfl) ev_c rfl (ji _ ?_)
      refine ⟨_, rfl, p, dx, _, rfl, h1, no "drop" (by decide +kernel) (by decide +kernel), (ac (ev_T (ev_v rfl) ev_c (SqT.of hd) rfl) (ac (ev_T (ev_v rfl) ev_c (SqT.of hd) rfl) (ac (ev_T (ev_v rfl) ev_c (SqT.of hd) rfl) an))) _ ⟨p, a, tot, t, pg, m, W, rfl, D0, g1, g2, g3, hk, ?_⟩⟩
      rcases k with ⟨X, due, kE⟩ | ⟨c', g, kQ⟩
      · refine ⟨fun e => ?_, fun x hx hb H1 s1 => ?_, fun x hx hb hc => ?_⟩
        · rw [← due_none e due]; exact kE _ (Same.refl _)
        · rw [← (due_some hx due).2]; exact kE _ s1
        · rcases (due_some hx due).1 with n | n
          · exact absurd n hb
          · exact absurd (fun q hq => by rw [keysC_con]; exact hc q hq) n
      · exact g.elim
    | peek t ad n =>
      have hd : H d = some (.tup [.str "peek", .int t, .int ad, .int n]) := hd
      obtain ⟨g1, g2, g3, g4⟩ := lg
      refine hidXCR fun _ ji je => eqF (ev_T (ev_v rfl) ev_c (SqT.of hd) rfl) ev_c rfl (ks_ne (by decide +kernel)) (je _ (j2 _ _ _ _ ?_))
      refine hidXCR fun _ ji je => eqF (ev_T (ev_v rfl) ev_c (SqT.of hd) rfl) ev_c rfl (ks_ne (by decide +kernel)) (je _ (j3 _ _ _ _ ?_))
      refine hidXCR fun _ ji je => eqF (ev_T (ev_v rfl) ev_c (SqT.of hd) rfl) ev_c rfl (ks_ne (by decide +kernel)) (je _ (j4 _ _ _ _ ?_))
      refine hidXCR fun _ ji je => eqF (ev_T (ev_v rfl) ev_c (SqT.of hd) rfl) ev_c rfl (ks_ne (by decide +kernel)) (je _ (j5 _ _ _ _ ?_))
      refine hidXCR fun _ ji je => eqT (ev_T (ev_v rfl) ev_c (SqT.of hd) rfl) ev_c rfl (ji _ ?_)
      refine ⟨_, rfl, p, dx, _, rfl, h1, no "peek" (by decide +kernel) (by decide +kernel), (ac (ev_T (ev_v rfl) ev_c (SqT.of hd) rfl) (ac (ev_T (ev_v rfl) ev_c (SqT.of hd) rfl) (ac (ev_T (ev_v rfl) ev_c (SqT.of hd) rfl) an))) _ ⟨p, a, tot, t, ad, n, W, rfl, D0, g1, g2, g3, g4, hk, ?_⟩⟩
      rcases k with ⟨X, due, kE⟩ | ⟨c', g, kQ⟩
      · refine ⟨fun e => ?_, fun x hx hb H1 s1 => ?_, fun x hx hb => ?_⟩
        · rw [← due_none e due]; exact kE _ (Same.refl _)
        · rw [← (due_some hx due).2]; exact kE _ s1
        · exact absurd (by rw [← keysC_con]; exact (due_some hx due).1) hb
      · exact g.elim
    | poke t ad cs =>
      obtain ⟨c, hd, hc⟩ := hd
      obtain ⟨g1, g2, g3, g4⟩ := lg
      refine hidXCR fun _ ji je => eqF (ev_T (ev_v rfl) ev_c (SqT.of hd) rfl) ev_c rfl (ks_ne (by decide +kernel)) (je _ (j2 _ _ _ _ ?_))
      refine hidXCR fun _ ji je => eqF (ev_T (ev_v rfl) ev_c (SqT.of hd) rfl) ev_c rfl (ks_ne (by decide +kernel)) (je _ (j3 _ _ _ _ ?_))
      refine hidXCR fun _ ji je => eqF (ev_T (ev_v rfl) ev_c (SqT.of hd) rfl) ev_c rfl (ks_ne (by decide +kernel)) (je _ (j4 _ _ _ _ ?_))
      refine hidXCR fun _ ji je => eqF (ev_T (ev_v rfl) ev_c (SqT.of hd) rfl) ev_c rfl (ks_ne (by decide +kernel)) (je _ (j5 _ _ _ _ ?_))
      refine hidXCR fun _ ji je => eqF (ev_T (ev_v rfl) ev_c (SqT.of hd) rfl) ev_c rfl (ks_ne (by decide +kernel)) (je _ (j6 _ _ _ _ ?_))
      refine hidXCR fun _ ji je => eqT (ev_T (ev_v rfl) ev_c (SqT.of hd) rfl) ev_c rfl (ji _ ?_)
      refine ⟨_, rfl, p, dx, _, rfl, h1, no "poke" (by decide +kernel) (by decide +kernel), (ac (ev_T (ev_v rfl) ev_c (SqT.of hd) rfl) (ac (ev_T (ev_v rfl) ev_c (SqT.of hd) rfl) (ac (ev_T (ev_v rfl) ev_c (SqT.of hd) rfl) an))) _ ⟨p, a, c, tot, t, ad, cs, W, rfl, D0, SqL.of hc, g2, g1, g3, g4, hk, ?_⟩⟩
      rcases k with ⟨X, due, kE⟩ | ⟨c', g, kQ⟩
      · refine ⟨fun e => ?_, fun x hx hb H1 s1 => ?_, fun x hx hb => ?_⟩
        · rw [← due_none e due]; exact kE _ (Same.refl _)
        · rw [← (due_some hx due).2]; exact kE _ s1
        · exact absurd (by rw [← keysC_con]; exact (due_some hx due).1) hb
      · obtain ⟨rfl, ⟨r, er⟩, rfl⟩ := g
        obtain ⟨x0, hx0, ex0⟩ := lookW er
        refine ⟨fun e => absurd (e.symm.trans hx0) (by simp), fun x hx hb => absurd hb nil_good, fun x hx hb H1 R' hR _ D1 o1 => ?_⟩
        exact kQ H1 _ D1 (poke_nil D0.R.nd hx hR) (setA_addr (R := x.2) D0.R.nd hx) (OffW.of hx o1)
    | close t =>
      have hd : H d = some (.tup [.str "close", .int t]) := hd
      refine hidXCR fun _ ji je => eqF (ev_T (ev_v rfl) ev_c (SqT.of hd) rfl) ev_c rfl (ks_ne (by decide +kernel)) (je _ (j2 _ _ _ _ ?_))
      refine hidXCR fun _ ji je => eqT (ev_T (ev_v rfl) ev_c (SqT.of hd) rfl) ev_c rfl (ji _ ?_)
      refine ⟨_, rfl, p, dx, _, rfl, h1, no "close" (by decide +kernel) (by decide +kernel), (ac (ev_T (ev_v rfl) ev_c (SqT.of hd) rfl) an) _ ⟨p, a, tot, t, W, rfl, D0, lg, ?_⟩⟩
      rcases k with ⟨X, ⟨due, rfl⟩, kE⟩ | ⟨c', g, kQ⟩
      · exact ⟨fun e => kE _ (Same.refl _), fun zq3_0 => by obtain ⟨x, hx⟩ := zq3_0; exact absurd (hx.symm.trans (lookW0 due)) (by simp)⟩
      · exact g.elim
    | copy t o =>
      have hd : H d = some (.tup [.str "copy", .int t, .int o]) := hd
      obtain ⟨g1, g2⟩ := lg
      refine hidXCR fun _ ji je => eqF (ev_T (ev_v rfl) ev_c (SqT.of hd) rfl) ev_c rfl (ks_ne (by decide +kernel)) (je _ (j2 _ _ _ _ ?_))
      refine hidXCR fun _ ji je => eqF (ev_T (ev_v rfl) ev_c (SqT.of hd) rfl) ev_c rfl (ks_ne (by decide +kernel)) (je _ (j3 _ _ _ _ ?_))
      refine hidXCR fun _ ji je => eqF (ev_T (ev_v rfl) ev_c (SqT.of hd) rfl) ev_c rfl (ks_ne (by decide +kernel)) (je _ (j4 _ _ _ _ ?_))
      refine hidXCR fun _ ji je => eqF (ev_T (ev_v rfl) ev_c (SqT.of hd) rfl) ev_c rfl (ks_ne (by decide +kernel)) (je _ (j5 _ _ _ _ ?_))
      refine hidXCR fun _ ji je => eqF (ev_T (ev_v rfl) ev_c (SqT.of hd) rfl) ev_c rfl (ks_ne (by decide +kernel)) (je _ (j6 _ _ _ _ ?_))
      refine hidXCR fun _ ji je => eqF (ev_T (ev_v rfl) ev_c (SqT.of hd) rfl) ev_c rfl (ks_ne (by decide +kernel)) (je _ (j7 _ _ _ _ ?_))
      refine ⟨_, rfl, p, dx, _, rfl, h1, no "copy" (by decide +kernel) (by decide +kernel), (ac (ev_T (ev_v rfl) ev_c (SqT.of hd) rfl) (ac (ev_T (ev_v rfl) ev_c (SqT.of hd) rfl) an)) _ ⟨p, a, tot, t, o, W, rfl, D0, g1, g2, sz.w.1, sz.w.2, sz.lt, ?_⟩⟩
      rcases k with ⟨X, due, kE⟩ | ⟨c', g, kQ⟩
      · refine ⟨fun e => ?_, fun x hx hb => ?_, fun x hx hb ht H1 s1 => ?_, fun x hx hb ht => ?_⟩
        · rw [← due_none e due]; exact kE _ (Same.refl _)
        · rcases due_some hx due with ⟨_, e⟩ | ⟨n, _⟩
          · rw [← e]; exact kE _ (Same.refl _)
          · obtain ⟨y, hy⟩ := hb
            rw [lkc hy] at n; cases n
        · rcases due_some hx due with ⟨⟨y, hy⟩, _⟩ | ⟨_, _, e⟩
          · rw [lookWn hb] at hy; cases hy
          · rw [← e]; exact kE _ s1
        · rcases due_some hx due with ⟨⟨y, hy⟩, _⟩ | ⟨_, n, _⟩
          · rw [lookWn hb] at hy; cases hy
          · exact absurd (by rw [held_c, ← con_len]; exact n) ht
      · exact g.elim
end
end Rm

namespace Rm
open PySem L2
theorem bt_VE : bootBuiltins "ValueError" = some (.type "ValueError") := by decide +kernel
structure OTx (K : PySem.W.Frag) (mg : Str → Option Value) (cl4 : Ref4 → Addr) : Prop where
  xc : ∀ X, PySem.W.XCls K (cl4 X)
  ve : mg "ValueError" = none
  vVE : ∀ X, PySem.W.kitOne K (.ref (cl4 X)) (.type "ValueError") = some true
  mgc : ∀ X, mg (wordOf X) = some (.ref (cl4 X))
  kit : ∀ X Y, PySem.W.kitOne K (.ref (cl4 X)) (.ref (cl4 Y)) = some (decide (X = Y))
noncomputable def kb (X : Ref4) : List Bool := [decide (X = .noTask), decide (X = .noPage), decide (X = .noRoom), decide (X = .taken)]
noncomputable def ix4 : Ref4 → Nat
  | .noTask => 0 | .noPage => 1 | .noRoom => 2 | .taken => 3
noncomputable def words4 : List V := [.str "NoTask", .str "NoPage", .str "NoRoom", .str "Taken"]
theorem kb_sum (X : Ref4) : ((kb X).map fun b => if b = true then (1 : Int) else 0).sum = 1 := by cases X <;> rfl
theorem kb_at (X : Ref4) : ∀ i : Nat, i < 4 → atI ((kb X).map V.bl) (0 + (i : Int)) = some (.bl (decide (i = ix4 X))) := by
  intro i hi
  match i, hi with
  | 0, _ => cases X <;> rfl
  | 1, _ => cases X <;> rfl
  | 2, _ => cases X <;> rfl
  | 3, _ => cases X <;> rfl
theorem yes_in {σ : St} {H : Hp} {Q : Bool → Hp → Prop} (h : Q true H) : tYes σ H Q := h
theorem at0 {k : Str} {r : List V} : atI (V.str k :: r) 0 = some (.str k) := by
  unfold atI ixN
  rw [if_pos (by decide), if_pos (by rw [List.length_cons]; (first | lia | omega))]
  rfl
theorem words_at (X : Ref4) : atI words4 (0 + ((ix4 X : Nat) : Int)) = some (.str (wordOf X)) := by cases X <;> rfl
noncomputable def spWord (cl4 : Ref4 → Addr) (hx : Addr) : Sp := fun vs H Q _ => ∃ X : Ref4, vs = [.ref hx] ∧ H hx = some (xq hx (.ref (cl4 X))) ∧ ∀ H', Same H H' → Q (.str (wordOf X)) H'
noncomputable def spTold (C : Addr) : Sp := fun vs H Q _ => ∃ (p a d : Addr) (tot : Int) (W : Rms) (D : Deed), vs = [.ref p, .ref d] ∧ PRAt C H p a tot W ∧ DeedAt H d D ∧ Lg D ∧ Sz (conW W) tot ∧
  ((∃ X, Due tot (conW W) D X ∧ ∀ (H' : Hp) (T : Addr), Same H H' → H' T = some (.tup [.non, .str (wordOf X)]) → Q (.ref T) H') ∨
   (∃ c', Good tot (conW W) D c' ∧ ∀ (H' : Hp) (W' : Rms) (T : Addr), PRAt C H' p a tot W' → conW W' = c' → W'.map (·.2.1) = W.map (·.2.1) → OffW W H H' → H' T = some (.tup [.non, .str ""]) → Q (.ref T) H'))
theorem spTold_in {C : Addr} {H : Hp} {Q : V → Hp → Prop} {E0} (p a d : Addr) (tot : Int) (W : Rms) (D : Deed) (h1 : PRAt C H p a tot W) (h2 : DeedAt H d D) (h3 : Lg D) (h4 : Sz (conW W) tot) (h5 : ((∃ X, Due tot (conW W) D X ∧ ∀ (H' : Hp) (T : Addr), Same H H' → H' T = some (.tup [.non, .str (wordOf X)]) → Q (.ref T) H') ∨ (∃ c', Good tot (conW W) D c' ∧ ∀ (H' : Hp) (W' : Rms) (T : Addr), PRAt C H' p a tot W' → conW W' = c' → W'.map (·.2.1) = W.map (·.2.1) → OffW W H H' → H' T = some (.tup [.non, .str ""]) → Q (.ref T) H'))) : spTold C [.ref p, .ref d] H Q E0 := ⟨p, a, d, tot, W, D, rfl, h1, h2, h3, h4, h5⟩
section
variable {P : Program} {w : World} {K : PySem.W.Frag} {mg : Str → Option Value} {base : Heap}
theorem scWo : FnScope ["_law_caught", "_law_kinds", "_law_words"] ["_law_caught"] (defScope sWord) := ⟨rfl, rfl, rfl, by decide +kernel, rfl, by decide +kernel, by decide +kernel⟩
set_option maxHeartbeats 4000000 in
theorem ok_word {f e : Addr} {cl4 : Ref4 → Addr} {fd : FuncData} (F : Fun K "_law_word" "_law_word" sWord f fd) (T : MTxt mg) (OT : OTx K mg cl4) : FnOkH e P w K mg base 1 f fd ["_law_caught"] (spWord cl4 e) := by
  refine F.okH scWo (fun vs H Q E h => ?_) (fun cdv A outer s H vs Q hr h => ?_)
  · obtain ⟨X, rfl, _⟩ := h
    rfl
  · obtain ⟨X, rfl, he, k⟩ := h
    have hs : sizeLine = 16777216 := sizeLine_eq
    have g_isinstance : (defScope sWord).names.lookup ("isinstance" : Str) = some NameKind.globalImplicit := by decide +kernel
    have g_NoPage : (defScope sWord).names.lookup ("NoPage" : Str) = some NameKind.globalImplicit := by decide +kernel
    have g_NoTask : (defScope sWord).names.lookup ("NoTask" : Str) = some NameKind.globalImplicit := by decide +kernel
    have g_Taken : (defScope sWord).names.lookup ("Taken" : Str) = some NameKind.globalImplicit := by decide +kernel
    have g_NoRoom : (defScope sWord).names.lookup ("NoRoom" : Str) = some NameKind.globalImplicit := by decide +kernel
    have g_sum : (defScope sWord).names.lookup ("sum" : Str) = some NameKind.globalImplicit := by decide +kernel
    have g_ValueError : (defScope sWord).names.lookup ("ValueError" : Str) = some NameKind.globalImplicit := by decide +kernel
    have g_range : (defScope sWord).names.lookup ("range" : Str) = some NameKind.globalImplicit := by decide +kernel
    refine ⟨_, (pss_cons (ps_set (i := 1) scWo.nd rfl (Or.inr rfl) (pe_lst (pa_cons (pe_callB call_isq g_isinstance T.isi bt_isinstance (pa_cons (pv 0) (pa_cons (pe_glob (v := .ref (cl4 .noTask)) g_NoTask (OT.mgc .noTask) rfl) pa_nil))) (pa_cons (pe_callB call_isq g_isinstance T.isi bt_isinstance (pa_cons (pv 0) (pa_cons (pe_glob (v := .ref (cl4 .noPage)) g_NoPage (OT.mgc .noPage) rfl) pa_nil))) pa_nil))))
      (pss_cons (ps_set (i := 1) scWo.nd rfl (Or.inr rfl) (pe_op op_cat (pv 1) (pe_lst (pa_cons (pe_callB call_isq g_isinstance T.isi bt_isinstance (pa_cons (pv 0) (pa_cons (pe_glob (v := .ref (cl4 .noRoom)) g_NoRoom (OT.mgc .noRoom) rfl) pa_nil))) (pa_cons (pe_callB call_isq g_isinstance T.isi bt_isinstance (pa_cons (pv 0) (pa_cons (pe_glob (v := .ref (cl4 .taken)) g_Taken (OT.mgc .taken) rfl) pa_nil))) pa_nil)))))
      (pss_cons (ps_set (i := 2) scWo.nd rfl (Or.inr rfl) (pe_lst (pa_cons pe_str (pa_cons pe_str (pa_cons pe_str (pa_cons pe_str pa_nil))))))
      (pss_cons (ps_if (PW.pt (pw_or (pt_cmpR op_ne (pe_callB (call_sumH (xc := .ref (cl4 X)) hr.hd) g_sum T.sum bt_sum (pa_cons (pe_compH (hx := e) (xc := .ref (cl4 X)) (cl := []) (caps := []) ⟨rfl, by decide +kernel, by decide +kernel, rfl, by kernel_rfl, by intro p hp; simp at hp, by kernel_rfl, by intro p hp; simp at hp, by decide +kernel⟩ hr.hd (pi_listH (pv 1)) (fun _ _ _ _ => pts_nil) (fun _ _ _ _ => (pe_callTy call_int1 (by rfl) T.int bt_int (pa_cons (pv 0) pa_nil)))) pa_nil)) pe_int (nomark _)) (pw_or1 (pt_not (pt_val (pe_callB call_isq g_isinstance T.isi bt_isinstance (pa_cons (pv 0) (pa_cons (pe_bltn (v := .ty "ValueError") g_ValueError OT.ve bt_VE rfl) pa_nil)))))))) (pss_one (ps_ret pe_str)) pss_nil)
      (pss_one (ps_ret (pe_ix ix_list (pe_compH (hx := e) (xc := .ref (cl4 X)) (cl := [("_law_words", s.heap.objs.size + 2), ("_law_kinds", s.heap.objs.size + 1)]) (caps := [("_law_kinds", 1), ("_law_words", 2)]) ⟨rfl, by decide +kernel, by decide +kernel, rfl, by kernel_rfl, by intro p hp; simp only [List.mem_cons, List.not_mem_nil, or_false] at hp; rcases hp with rfl | rfl <;> first | rfl | exact ⟨rfl, .inl rfl, .inl rfl⟩ | exact ⟨rfl, .inl rfl, .inr rfl⟩, by kernel_rfl, by intro p hp; simp only [List.mem_cons, List.not_mem_nil, or_false] at hp; rcases hp with rfl | rfl <;> first | rfl | exact ⟨rfl, .inl rfl, .inl rfl⟩ | exact ⟨rfl, .inl rfl, .inr rfl⟩, by decide +kernel⟩ hr.hd (pi_range1H g_range T.range (pa_cons pe_int pa_nil)) (fun _ _ _ _ => pts_one (pt_val (pe_ix (show IxR _ (rIxL K) from ix_list) (pv 1) (pv 0) (fun _ _ => rfl)))) (fun _ _ _ _ => (pe_ix (show IxR _ (rIxL K) from ix_list) (pv 2) (pv 0) (fun _ _ => rfl)))) pe_int (fun _ _ => rfl)))))))), ?_⟩
    refine hid fun _ jt => ?_
    refine ⟨_, rfl, e, _, _, _, _, rfl, .inl ⟨_, rfl, rfl⟩, OT.xc X, he, OT.kit X .noTask, _, rfl, e, _, _, _, _, rfl, .inl ⟨_, rfl, rfl⟩, OT.xc X, he, OT.kit X .noPage, (by show 2 ≤ sizeLine; decide), fun l0 hl0 => ?_⟩
    have s0 := same_new (X := .lst [.bl (decide (X = .noTask)), .bl (decide (X = .noPage))]) hl0
    have e0 : (upd H l0 (.lst [.bl (decide (X = .noTask)), .bl (decide (X = .noPage))])) l0 = some (.lst [.bl (decide (X = .noTask)), .bl (decide (X = .noPage))]) := upd_same
    refine jt _ _ _ ?_
    show tSeq _ _ _ [some (V.ref e), some (.ref l0), none] (upd H l0 (.lst [.bl (decide (X = .noTask)), .bl (decide (X = .noPage))]))
    generalize upd H l0 (.lst [.bl (decide (X = .noTask)), .bl (decide (X = .noPage))]) = H0 at *
    refine hid fun _ jt => ?_
    refine ⟨_, rfl, _, rfl, e, _, _, _, _, rfl, .inl ⟨_, rfl, rfl⟩, OT.xc X, s0 _ _ he, OT.kit X .noRoom, _, rfl, e, _, _, _, _, rfl, .inl ⟨_, rfl, rfl⟩, OT.xc X, s0 _ _ he, OT.kit X .taken, (by show 2 ≤ sizeLine; decide), fun a1 ha1 => ?_⟩
    have u1 := same_new (X := .lst [.bl (decide (X = .noRoom)), .bl (decide (X = .taken))]) ha1
    refine ⟨l0, a1, _, _, rfl, rfl, u1 _ _ e0, upd_same, (by show 4 ≤ sizeLine; decide), fun l1 hl1 => ?_⟩
    have v1 := same_new (X := .lst ((kb X).map V.bl)) hl1
    have e1 : (upd (upd H0 a1 (.lst [.bl (decide (X = .noRoom)), .bl (decide (X = .taken))])) l1 (.lst ((kb X).map V.bl))) l1 = some (.lst ((kb X).map V.bl)) := upd_same
    have s1 := s0.trans (u1.trans v1)
    refine jt _ _ _ ?_
    show tSeq _ _ _ [some (V.ref e), some (.ref l1), none] (upd (upd H0 a1 (.lst [.bl (decide (X = .noRoom)), .bl (decide (X = .taken))])) l1 (.lst ((kb X).map V.bl)))
    generalize upd (upd H0 a1 (.lst [.bl (decide (X = .noRoom)), .bl (decide (X = .taken))])) l1 (.lst ((kb X).map V.bl)) = H1 at *
    clear u1 v1 ha1 hl1
    refine hid fun _ jt => ?_
    refine ⟨(by show 4 ≤ sizeLine; decide), fun w0 hw0 => ?_⟩
    have t0 := same_new (X := .lst words4) hw0
    have f0 : (upd H1 w0 (.lst words4)) w0 = some (.lst words4) := upd_same
    refine jt _ _ _ ?_
    show tSeq _ _ _ [some (V.ref e), some (.ref l1), some (.ref w0)] (upd H1 w0 (.lst words4))
    have e2 := t0 _ _ e1
    have s2 := s1.trans t0
    generalize upd H1 w0 (.lst words4) = H2 at *
    refine hidSI fun _ _ _ _ je jt => ?_
    refine ⟨_, rfl, l1, rfl, ⟨_, SqL.of e2⟩, ?_⟩
    refine comp_listH (K := K) (a := l1) (xs := (kb X).map V.bl) (fun i ys H7 => ys = (((kb X).take i).map fun b => if b = true then (1 : Int) else 0).map V.int ∧ H7 = H2) ⟨rfl, rfl⟩ (fun i ys H7 zq1_3 => by obtain ⟨_, q⟩ := zq1_3; rw [q]; exact s2 _ _ he) (fun i ys H7 _ zq2_4 => by obtain ⟨_, q⟩ := zq2_4; rw [q]; exact SqL.of e2) ?_ ?_
    · rintro i x ys H7 hx ⟨rfl, rfl⟩
      rw [List.getElem?_map] at hx
      obtain ⟨b, hb, rfl⟩ := Option.map_eq_some_iff.mp hx
      refine yes_in ?_
      refine iteT ?_
      refine ⟨_, rfl, .inr ⟨b, rfl, ?_, ?_, rfl⟩⟩
      · rw [List.length_map, List.length_map, List.length_take]
        have : (kb X).length = 4 := rfl
        (first | lia | omega)
      · rw [List.take_add_one, hb, List.map_append, List.map_append]
        rfl
    · rintro ys H7 ⟨rfl, rfl⟩ l7 hl7
      have ek : (kb X).take ((kb X).map V.bl).length = kb X := rfl
      rw [ek]
      have s7 := same_new (X := .lst (((kb X).map fun b => if b = true then (1 : Int) else 0).map V.int)) hl7
      refine ⟨l7, ((kb X).map fun b => if b = true then (1 : Int) else 0), rfl, SqL.of upd_same, (s2.trans s7) _ _ he, rfl, _, rfl, ?_⟩
      rw [kb_sum, decide_eq_true rfl]
      have he7 := (s2.trans s7) _ _ he
      have e7 := s7 _ _ e2
      have f7 := s7 _ _ f0
      have S7 := s2.trans s7
      generalize upd H7 l7 (.lst (((kb X).map fun b => if b = true then (1 : Int) else 0).map V.int)) = H8 at *
      refine iteF ?_
      refine ⟨_, rfl, e, _, _, _, true, rfl, .inr ⟨_, rfl, rfl⟩, OT.xc X, he7, OT.vVE X, true, rfl, iteF (je _ _ _ (jt _ _ _ ?_))⟩
      refine ⟨_, rfl, (by decide), (by decide), ?_⟩
      refine comp_rangeH (lo := 0) (n := 4) (fun i ys H9 => ys = (if ix4 X < i then [.str (wordOf X)] else []) ∧ H9 = H8) ⟨rfl, rfl⟩ (fun i ys H9 zq3_3 => by obtain ⟨_, q⟩ := zq3_3; rw [q]; exact he7) ?_ ?_
      · rintro i ys H9 hi ⟨rfl, rfl⟩
        refine ⟨_, rfl, _, rfl, l1, _, _, _, rfl, rfl, SqL.of e7, kb_at X i hi, _, rfl, ?_⟩
        refine ite2 (fun c => ?_) (fun c => ?_)
        · have ei : i = ix4 X := of_decide_eq_true c
          refine ⟨_, rfl, _, rfl, w0, _, _, _, rfl, rfl, SqL.of f7, by rw [ei]; exact words_at X, ?_, ?_, rfl⟩
          · split <;> simp <;> (first | lia | omega)
          · rw [if_neg (by (first | lia | omega)), if_pos (by (first | lia | omega))]; rfl
        · have ei : ¬ i = ix4 X := fun z => c (decide_eq_true z)
          refine ⟨?_, rfl⟩
          by_cases q : ix4 X < i
          · rw [if_pos q, if_pos (by (first | lia | omega))]
          · rw [if_neg q, if_neg (by (first | lia | omega))]
      · rintro ys H9 ⟨rfl, rfl⟩ l9 hl9
        have e9 : (if ix4 X < 4 then [V.str (wordOf X)] else []) = [V.str (wordOf X)] := by cases X <;> rfl
        rw [e9]
        exact ⟨l9, _, _, .str (wordOf X), rfl, rfl, SqL.of upd_same, rfl, k _ (S7.trans (same_new hl9))⟩
theorem scTo : FnScope ["_law_rooms", "_law_deed", "_law_told_here", "_law_word_here", "e"] ["_law_rooms", "_law_deed"] (defScope sTold) := ⟨rfl, rfl, rfl, by decide +kernel, rfl, by decide +kernel, by decide +kernel⟩
theorem ok_told {f C CK fDo fWo : Addr} {cl4 : Ref4 → Addr} {fd dDo dWo : FuncData} (F : Fun K "_law_told" "_law_told" sTold f fd) (hKE : mg "KernelError" = some (.ref CK)) (hx : ∀ X, PySem.W.exmOne K (.ref (cl4 X)) (.ref CK) = some true)
    (GDo : FnOk P w K mg base (CXO P w) 4 fDo dDo ["_law_rooms", "_law_deed"] (spDo C cl4)) (DDo : Def K mg "_law_do" fDo dDo ["_law_rooms", "_law_deed"])
    (GWo : ∀ hx : Addr, FnOkH hx P w K mg base 1 fWo dWo ["_law_caught"] (spWord cl4 hx)) (DWo : Def K mg "_law_word" fWo dWo ["_law_caught"]) : FnOk P w K mg base CX0 5 f fd ["_law_rooms", "_law_deed"] (spTold C) := by
  refine F.ok scTo (fun vs H Q E h => ?_) (fun cdv A outer s H vs Q E hr h => ?_)
  · obtain ⟨p, a, d, tot, W, D, rfl, _⟩ := h
    rfl
  · obtain ⟨p, a, d, tot, W, D, rfl, D0, hd, lg, sz, k⟩ := h
    have hs : sizeLine = 16777216 := sizeLine_eq
    refine ⟨_, (pss_cons (ps_set (i := 2) scTo.nd rfl (Or.inl rfl) pe_non)
      (pss_cons (ps_set (i := 3) scTo.nd rfl (Or.inl rfl) pe_str)
      (pss_cons (ps_tryQ rfl rfl rfl rfl hKE scTo.nd (i := 4) rfl rfl (pssx_one (psx_set (i := 2) scTo.nd rfl (Or.inl rfl) (pex_call GDo (hr.mono (by decide)) rfl (by rfl) DDo.mg DDo.kp DDo.b .nil (pa_cons (pv 0) (pa_cons (pv 1) pa_nil))))) (fun _ => (pss_one (ps_set (i := 3) scTo.nd rfl (Or.inl rfl) (pe_callH (GWo _) ((hr.mono (by decide)).hand _) (by rfl) DWo.mg DWo.kp DWo.b (pa_cons (pv 4) pa_nil))))))
      (pss_cons (ps_if (pt_cmpR op_ne (pe_ix ix_tup (pv 1) pe_int (fun _ _ => rfl)) pe_str (nomark _)) (pss_one (ps_set (i := 2) scTo.nd rfl (Or.inl rfl) pe_non)) pss_nil)
      (pss_one (ps_ret (pe_tup (pa_cons (pv 2) (pa_cons (pv 3) pa_nil))))))))), ?_⟩
    obtain ⟨kn, kr, hk⟩ := hd.kind
    refine ⟨_, rfl, _, rfl, p, a, d, tot, W, D, rfl, D0, hd, lg, sz, ?_⟩
    rcases k with ⟨X, due, kE⟩ | ⟨c', g, kQ⟩
    · refine .inl ⟨X, due, fun H1 s1 => ⟨hx X, fun e he => ?_⟩⟩
      refine ⟨_, rfl, X, rfl, upd_same, fun H2 s2 => ?_⟩
      have S2 := (s1.trans (same_new he)).trans s2
      refine ⟨_, rfl, d, _, _, .str kn, rfl, rfl, SqT.of (S2 _ _ hk), at0, rfl, _, rfl, ?_⟩
      refine ite2 (fun _ => ?_) (fun _ => ?_)
      · exact ⟨_, rfl, _, rfl, (by show 2 ≤ sizeLine; decide), fun T hT => kE _ T (S2.trans (same_new hT)) upd_same⟩
      · exact ⟨_, rfl, _, rfl, (by show 2 ≤ sizeLine; decide), fun T hT => kE _ T (S2.trans (same_new hT)) upd_same⟩
    · refine .inr ⟨c', g, fun H1 W' D1 e1 a1 o1 => ?_⟩
      have k1 := o1.kt D0.R
      refine ⟨_, rfl, d, _, _, .str kn, rfl, rfl, SqT.of (k1.tup hk), at0, rfl, _, rfl, ?_⟩
      refine ite2 (fun _ => ?_) (fun _ => ?_)
      · exact ⟨_, rfl, _, rfl, (by show 2 ≤ sizeLine; decide), fun T hT => kQ _ W' T (D1.same (same_new hT)) e1 a1 (o1.same (same_new hT)) upd_same⟩
      · exact ⟨_, rfl, _, rfl, (by show 2 ≤ sizeLine; decide), fun T hT => kQ _ W' T (D1.same (same_new hT)) e1 a1 (o1.same (same_new hT)) upd_same⟩
end
end Rm

namespace Rm
open PySem L2
noncomputable def rowsC (c : Wc) (t p m : Int) : List (List Int) := (pagesL p m).map fun q => (look ((look c t).getD []) q).getD []
noncomputable abbrev Shp := List (Addr × Int × Int × Int)
noncomputable def rowsD (c : Wc) (ds : Shp) : List (List Int) := (ds.map fun d => rowsC c d.2.1 d.2.2.1 d.2.2.2).flatten
structure Sh (c : Wc) (t p m : Int) : Prop where
  p0 : 0 ≤ p
  m1 : 1 ≤ m
  pm : p + m ≤ 64
  t0 : 0 ≤ t
  t1 : t < 10 ^ 60
  rm : ∃ r, look c t = some r ∧ ∀ q ∈ pagesL p m, q ∈ keysC r
structure So (H : Hp) (l : Addr) (h : Int) (rows : List (List Int)) (as : List Addr) : Prop where
  el : H l = some (.lst (.int h :: as.map V.ref))
  pr : Paired (fun a (row : List Int) => H a = some (.lst (row.map V.int))) as rows
structure Ac (H0 H : Hp) (l : Addr) (h : Int) (rows : List (List Int)) (as : List Addr) : Prop where
  sm : Same H0 H
  nl : H0 l = none
  el : H l = some (.lst (.int h :: as.map V.ref))
  pr : Paired (fun a (row : List Int) => H a = some (.lst (row.map V.int)) ∧ a ≠ l ∧ H0 a = none) as rows
theorem So.kt {H H' : Hp} {l : Addr} {h : Int} {rows : List (List Int)} {as : List Addr} (s : So H l h rows as) (k : Kt H H') : So H' l h rows as := ⟨k.lst s.el, Paired.mapP s.pr fun _ _ e => k.lst e⟩
theorem Ac.so {H0 H : Hp} {l : Addr} {h : Int} {rows : List (List Int)} {as : List Addr} (a : Ac H0 H l h rows as) : So H l h rows as := ⟨a.el, Paired.mapP a.pr fun _ _ e => e.1⟩
theorem Ac.step {H0 H H' : Hp} {l b : Addr} {h : Int} {rows : List (List Int)} {as : List Addr} {row : List Int} (A : Ac H0 H l h rows as) (s : Same H H') (nb : H b = none) (hb : H' b = some (.lst (row.map V.int))) :
    Ac H0 (L2.upd H' l (.lst (.int h :: as.map V.ref ++ [V.ref b]))) l h (rows ++ [row]) (as ++ [b]) := by
  have nbl : b ≠ l := fun e => by rw [e, A.el] at nb; cases nb
  refine ⟨same_wr (A.sm.trans s) A.nl, A.nl, ?_, paired_app (Paired.mapP A.pr fun a row e => ?_) (.cons ⟨?_, nbl, A.sm.free nb⟩ .nil)⟩
  · rw [upd_same, List.map_append]; rfl
  · exact ⟨by rw [upd_ne e.2.1]; exact s _ _ e.1, e.2⟩
  · rw [upd_ne nbl]; exact hb
theorem deep_ints {K : PySem.W.Frag} {H : Hp} : ∀ xs : List Int, Paired (Deep K H 0) (xs.map V.int) (xs.map V.int)
  | [] => .nil
  | x :: xs => .cons ⟨rfl, rfl⟩ (deep_ints xs)
theorem deep_rows {K : PySem.W.Frag} {H0 H : Hp} {l : Addr} (s : Same H0 H) {rows : List (List Int)} {as' as : List Addr} (p : Paired (fun a (row : List Int) => H a = some (.lst (row.map V.int)) ∧ a ≠ l ∧ H0 a = none) as' rows) (p' : Paired (fun a (row : List Int) => H0 a = some (.lst (row.map V.int))) as rows) : Paired (Deep K H 1) (as'.map V.ref) (as.map V.ref) := by
  induction p generalizing as with
  | nil => cases p'; exact .nil
  | cons r _ ih =>
    cases p' with
    | cons r' t' => exact .cons (.inr ⟨_, _, _, _, rfl, rfl, (fun e => by have := r.2.2; rw [e, r'] at this; cases this), .inl ⟨SqL.of r.1, SqL.of (s _ _ r')⟩, deep_ints _⟩) (ih t')
theorem Ac.deep {K : PySem.W.Frag} {H0 H : Hp} {l l' : Addr} {h : Int} {rows : List (List Int)} {as' as : List Addr} (A : Ac H0 H l' h rows as') (S : So H0 l h rows as) : Paired (Deep K H 1) (V.int h :: as'.map V.ref) (V.int h :: as.map V.ref) := .cons (.inl ⟨rfl, rfl⟩) (deep_rows A.sm A.pr S.pr)
noncomputable def spState (C : Addr) : Sp := fun vs H Q _ => ∃ (p a sh : Addr) (tot : Int) (W : Rms) (ds : Shp), vs = [.ref p, .ref sh] ∧ PRAt C H p a tot W ∧ Sz (conW W) tot ∧ H sh = some (.lst (ds.map fun d => V.ref d.1)) ∧ ds.length ≤ 2 ∧
  (∀ d ∈ ds, H d.1 = some (.tup [.int d.2.1, .int d.2.2.1, .int d.2.2.2]) ∧ Sh (conW W) d.2.1 d.2.2.1 d.2.2.2) ∧ ∀ (H' : Hp) (l : Addr) (as : List Addr), Ac H H' l (heldC (conW W)) (rowsD (conW W) ds) as → Q (.ref l) H'
theorem spState_in {C : Addr} {H : Hp} {Q : V → Hp → Prop} {E0} (p a sh : Addr) (tot : Int) (W : Rms) (ds : Shp) (h1 : PRAt C H p a tot W) (h2 : Sz (conW W) tot) (h3 : H sh = some (.lst (ds.map fun d => V.ref d.1))) (h4 : ds.length ≤ 2) (h5 : (∀ d ∈ ds, H d.1 = some (.tup [.int d.2.1, .int d.2.2.1, .int d.2.2.2]) ∧ Sh (conW W) d.2.1 d.2.2.1 d.2.2.2)) (h6 : ∀ (H' : Hp) (l : Addr) (as : List Addr), Ac H H' l (heldC (conW W)) (rowsD (conW W) ds) as → Q (.ref l) H') : spState C [.ref p, .ref sh] H Q E0 := ⟨p, a, sh, tot, W, ds, rfl, h1, h2, h3, h4, h5, h6⟩
theorem rowsD_take {c : Wc} {ds : Shp} {i : Nat} {d : Addr × Int × Int × Int} (h : ds[i]? = some d) : rowsD c (ds.take (i + 1)) = rowsD c (ds.take i) ++ rowsC c d.2.1 d.2.2.1 d.2.2.2 := by
  unfold rowsD
  rw [List.take_add_one, h, List.map_append, List.flatten_append]
  congr 1
  show (rowsC c d.2.1 d.2.2.1 d.2.2.2) ++ [] = _
  rw [List.append_nil]
theorem rowsC_len {c : Wc} {t p m : Int} : (rowsC c t p m).length = m.toNat := by
  unfold rowsC pagesL
  rw [List.length_map, List.length_map, List.length_range]
theorem rowsC_take {c : Wc} {t p m : Int} {j : Nat} (h : j < m.toNat) : (rowsC c t p m).take (j + 1) = (rowsC c t p m).take j ++ [(look ((look c t).getD []) (p + j)).getD []] := by
  rw [List.take_add_one, List.getElem?_eq_getElem (by rw [rowsC_len]; exact h)]
  congr 1
  show [(rowsC c t p m)[j]'(by rw [rowsC_len]; exact h)] = _
  unfold rowsC pagesL
  rw [List.getElem_map, List.getElem_map, List.getElem_range]
theorem page_mem {p m q : Int} : q ∈ pagesL p m ↔ p ≤ q ∧ q < p + m := by
  unfold pagesL
  rw [List.mem_map]
  constructor
  · rintro ⟨k, hk, rfl⟩
    have := List.mem_range.mp hk
    (first | lia | omega)
  · rintro ⟨h1, h2⟩
    exact ⟨(q - p).toNat, List.mem_range.mpr (by (first | lia | omega)), by (first | lia | omega)⟩
section
variable {P : Program} {w : World} {K : PySem.W.Frag} {mg : Str → Option Value} {base : Heap}
theorem scSt : FnScope ["_law_rooms", "_law_shape", "_law_told_here", "_law_task", "_law_page", "_law_many", "_law_one"] ["_law_rooms", "_law_shape"] (defScope sState) := ⟨rfl, rfl, rfl, by decide +kernel, rfl, by decide +kernel, by decide +kernel⟩
set_option maxHeartbeats 4000000 in
theorem ok_state {f C : Addr} {cl4 : Ref4 → Addr} {fd : FuncData} (F : Fun K "_law_state" "_law_state" sState f fd) (T : MTxt mg) (M : Kit P w K mg base C cl4) :
    FnOk P w K mg base CX0 4 f fd ["_law_rooms", "_law_shape"] (spState C) := by
  refine F.ok scSt (fun vs H Q E h => ?_) (fun cdv A outer s H vs Q E hr h => ?_)
  · obtain ⟨p, a, sh, tot, W, ds, rfl, _⟩ := h
    rfl
  · obtain ⟨p, a, sh, tot, W, ds, rfl, D0, sz, hsh, ld, hds, k⟩ := h
    have hs : sizeLine = 16777216 := sizeLine_eq
    refine ⟨_, (pss_cons (ps_set (i := 2) scSt.nd rfl (Or.inl rfl) (pe_lst (pa_cons (pe_meth0 (pv 0) M.cl M.mH M.GH (hr.mono (by decide)) M.bH .nil pass0) pa_nil)))
      (pss_cons (ps_for PassesOwn.never rfl (pi_list (pv 1)) (pg_tup rfl (pgs_cons (pg_name (i := 3) scSt.nd rfl (Or.inl rfl)) (pgs_cons (pg_name (i := 4) scSt.nd rfl (Or.inl rfl)) (pgs_cons (pg_name (i := 5) scSt.nd rfl (Or.inl rfl)) pgs_nil)))) (pss_one (ps_for PassesOwn.never rfl (pi_range2 (by rfl) T.range (pa_cons (pv 4) (pa_cons (pe_op op_add (pv 4) (pv 5)) pa_nil))) (pg_name (i := 6) scSt.nd rfl (Or.inl rfl)) (pss_one (ps_expr (pe_bm PySem.F.plainAttrs_list PySem.F.slot_list_append PySem.F.type_list_append mt_append (pv 2) (pa_cons (pe_meth (pv 0) M.cl M.mPe M.GPe (hr.mono (by decide)) M.bPe .nil pass1 (pa_cons (pv 3) (pa_cons (pe_op op_mul pe_int (pv 6)) (pa_cons pe_int pa_nil)))) pa_nil)))))))
      (pss_one (ps_ret (pv 2))))), ?_⟩
    obtain ⟨dx, h1⟩ := id D0.ob
    have nH : (flds tot a).lookup ("held" : Str) = none := flds_no _ _ (by decide +kernel) (by decide +kernel)
    have nPe : (flds tot a).lookup ("peek" : Str) = none := flds_no _ _ (by decide +kernel) (by decide +kernel)
    have hk : ∀ x ∈ W, x.2.2.length ≤ 1000 := fun x hx => Nat.le_trans (sz.w.2 x hx) (by decide)
    refine hid fun _ jt => ?_
    refine ⟨_, rfl, p, dx, _, rfl, h1, nH, (nilQ (spHeld_in p a tot W D0 sz.w.1 (fun H1 s1 => ⟨(by show 1 ≤ sizeLine; decide), fun l hl => ?_⟩)))⟩
    rw [held_c]
    have A2 : Ac H (upd H1 l (.lst [.int (heldC (conW W))])) l (heldC (conW W)) [] [] := ⟨s1.trans (same_new hl), s1.free hl, upd_same, .nil⟩
    refine jt _ _ _ ?_
    show tSeq _ _ _ [some (V.ref p), some (.ref sh), some (.ref l), none, none, none, none] (upd H1 l (.lst [.int (heldC (conW W))]))
    generalize upd H1 l (.lst [.int (heldC (conW W))]) = H2 at *
    refine hidSF fun _ _ jb jt => ?_
    refine ⟨_, rfl, sh, rfl, ⟨_, SqL.of (A2.sm _ _ hsh)⟩, ?_⟩
    refine for_list (K := K) (a := sh) (xs := ds.map fun d => V.ref d.1) (fun i σ H3 => ∃ (v3 v4 v5 v6 : Option V) (as : List Addr), σ = [some (.ref p), some (.ref sh), some (.ref l), v3, v4, v5, v6] ∧ Ac H H3 l (heldC (conW W)) (rowsD (conW W) (ds.take i)) as ∧ as.length ≤ 64 * i) ⟨_, _, _, _, [], rfl, A2, by decide⟩ (fun i σ H3 _ z0 => by obtain ⟨_, _, _, _, _, _, ac, _⟩ := z0; exact SqL.of (ac.sm _ _ hsh)) ?_ ?_
    · rintro i x σ H3 hx ⟨v3, v4, v5, v6, as, rfl, ac, la⟩
      rw [List.getElem?_map] at hx
      obtain ⟨⟨d, t, pg, m⟩, hdi, rfl⟩ := Option.map_eq_some_iff.mp hx
      obtain ⟨hd, hS⟩ := hds _ (List.mem_of_getElem? hdi)
      have hd : H d = some (.tup [.int t, .int pg, .int m]) := hd
      have hS : Sh (conW W) t pg m := hS
      have hi : i < ds.length := (List.getElem?_eq_some_iff.mp hdi).1
      obtain ⟨p0, m1, pm, t0, t1, r, hr1, hr2⟩ := hS
      refine ⟨d, _, rfl, SqT.of (ac.sm _ _ hd), rfl, .int t, [.int pg, .int m], rfl, .int pg, [.int m], rfl, .int m, [], rfl, rfl, ?_⟩
      refine jb _ _ _ (hidF fun _ jc => ?_)
      refine ⟨_, rfl, _, rfl, _, rfl, _, _, rfl, rfl, _, _, rfl, ⟨by (first | lia | omega), by (first | lia | omega), by (first | lia | omega), by (first | lia | omega)⟩, ?_⟩
      refine for_range (lo := pg) (n := (pg + m - pg).toNat) (fun j σ H4 => ∃ (v6 : Option V) (as : List Addr), σ = [some (.ref p), some (.ref sh), some (.ref l), some (.int t), some (.int pg), some (.int m), v6] ∧ Ac H H4 l (heldC (conW W)) (rowsD (conW W) (ds.take i) ++ (rowsC (conW W) t pg m).take j) as ∧ as.length ≤ 64 * i + j) ⟨_, as, rfl, by rw [List.take_zero, List.append_nil]; exact ac, la⟩ ?_ ?_
      · rintro j σ H4 hj ⟨v6, as, rfl, ac, la⟩
        have hj' : j < m.toNat := by (first | lia | omega)
        obtain ⟨x, hx, ex⟩ := lookW hr1
        have hq : (pg + (j : Int)) ∈ keysR x.2 := by
          rw [← keysC_con, ex]
          exact hr2 _ (page_mem.mpr ⟨by (first | lia | omega), by (first | lia | omega)⟩)
        obtain ⟨y, hy⟩ := look_keys.mpr hq
        have rm := D0.R.rm _ (look_mem hx)
        have y8 : y.2.length = 8 := (rm.hr _ (look_mem hy)).2
        have ey : (look ((look (conW W) t).getD []) (pg + (j : Int))).getD [] = y.2 := by
          rw [lkc hx]
          show (look (con x.2) (pg + (j : Int))).getD [] = y.2
          rw [look_con, hy]
          rfl
        have D4 := D0.same ac.sm
        obtain ⟨dx4, h4⟩ := id D4.ob
        obtain ⟨f1, f2⟩ := one_pageI (q := pg + (j : Int)) (at' := 0) (n := 8) (by decide) (by decide) (by decide)
        rw [Int.add_zero] at f1 f2
        refine jc _ _ _ ?_
        refine ⟨_, rfl, .inl ⟨rfl, _, SqL.of ac.el⟩, _, rfl, p, dx4, _, rfl, h4, nPe, _, rfl, _, rfl, _, _, rfl, rfl, .inl ⟨by decide, by decide⟩, p, a, tot, t, 8 * (pg + (j : Int)), 8, W, rfl, D4, key_log t0 t1, by decide, by rw [f1]; exact small_log (by (first | lia | omega)) (by (first | lia | omega)), by rw [f2]; decide, hk, fun e => absurd (e.symm.trans hx) (by simp), fun x' hx2 hb => ?_, fun x' hx2 hb H5 l5 s5 nl5 hl5 => ?_⟩
        · obtain rfl : x' = x := Option.some.inj (hx2.symm.trans hx)
          exact absurd hb (one_goodI f1 f2 (by (first | lia | omega)) (by (first | lia | omega)) (by decide) hq)
        · obtain rfl : x' = x := Option.some.inj (hx2.symm.trans hx)
          rw [peek_one f1 f2 hy y8] at hl5
          refine ⟨l, _, _, rfl, rfl, s5 _ _ ac.el, by rw [List.length_cons, List.length_map]; (first | lia | omega), ?_⟩
          have := ac.step s5 nl5 hl5
          refine ⟨_, as ++ [l5], rfl, ?_, by rw [List.length_append]; show as.length + 1 ≤ _; (first | lia | omega)⟩
          rw [rowsC_take hj', ey, ← List.append_assoc]
          exact this
      · rintro σ H4 ⟨v6, as, rfl, ac, la⟩
        rw [List.take_of_length_le (l := rowsC (conW W) t pg m) (by rw [rowsC_len]; (first | lia | omega))] at ac
        exact ⟨_, _, _, _, as, rfl, by rw [rowsD_take hdi]; exact ac, by (first | lia | omega)⟩
    · rintro σ H3 ⟨v3, v4, v5, v6, as, rfl, ac, la⟩
      rw [List.length_map, List.take_length] at ac
      exact jt _ _ _ ⟨_, rfl, k H3 l as ac⟩
end
end Rm

namespace Rm
open PySem L2
theorem eq2 (w : Str) : eqLV [.non, .str w] [.non, .str w] = true := by
  rw [show eqLV [V.non, V.str w] [V.non, V.str w] = (eqV V.non V.non && (eqV (.str w) (.str w) && eqLV [] [])) from rfl, eqV_refl rfl, eqV_refl rfl]
  rfl
noncomputable def spNoCells (C : Addr) : Sp := fun vs H Q _ => ∃ (p a d : Addr) (tot : Int) (W : Rms) (t pg m rest : Int), vs = [.ref p, .ref d, .int rest] ∧ PRAt C H p a tot W ∧ Sz (conW W) tot ∧ H d = some (.tup [.int t, .int pg, .int m]) ∧ 0 ≤ t ∧ t < 10 ^ 60 ∧ 0 ≤ pg ∧ pg ≤ 64 ∧ 0 ≤ m ∧ m ≤ 64 ∧ (∃ r, look (conW W) t = some r) ∧
  ∀ (H' : Hp) (W' : Rms), PRAt C H' p a tot W' → conW W' = conW W → Kt H H' → Q (.bl true) H'
noncomputable def spFull (C : Addr) : Sp := fun vs H Q _ => ∃ (p a d : Addr) (tot : Int) (W : Rms) (t pg m free ex : Int) (r : List (Int × List Int)), vs = [.ref p, .ref d, .int free, .int ex] ∧ PRAt C H p a tot W ∧ Sz (conW W) tot ∧ H d = some (.tup [.int t, .int pg, .int m]) ∧ 0 ≤ t ∧ t < 10 ^ 60 ∧ 0 ≤ ex ∧ ex < 10 ^ 60 ∧
  look (conW W) t = some r ∧ (r.length : Int) = m ∧ look (conW W) ex = none ∧ tot = heldC (conW W) + free ∧ ∀ H', Same H H' → Q (.bl true) H'
noncomputable def zr (n : Int) : List (Int × List Int) := (pagesL 0 n).map fun q => (q, z8)
noncomputable def spSmall : Sp := fun vs H Q _ => ∃ tot t : Int, vs = [.int tot, .int t] ∧ 0 ≤ tot ∧ tot ≤ 1 ∧ 0 ≤ t ∧ t < 10 ^ 60 ∧ ∀ H', Same H H' → Q (.bl true) H'
section
variable {P : Program} {w : World} {K : PySem.W.Frag} {mg : Str → Option Value} {base : Heap}
theorem scNc : FnScope ["_law_rooms", "_law_one", "_law_rest", "_law_far_here"] ["_law_rooms", "_law_one", "_law_rest"] (defScope sNoCells) := ⟨rfl, rfl, rfl, by decide +kernel, rfl, by decide +kernel, by decide +kernel⟩
set_option maxHeartbeats 4000000 in
theorem ok_noCells {f C fTo : Addr} {cl4 : Ref4 → Addr} {fd dTo : FuncData} (F : Fun K "_law_no_cells" "_law_no_cells" sNoCells f fd) (M : Kit P w K mg base C cl4)
    (GTo : FnOk P w K mg base CX0 5 fTo dTo ["_law_rooms", "_law_deed"] (spTold C)) (DTo : Def K mg "_law_told" fTo dTo ["_law_rooms", "_law_deed"]) :
    FnOk P w K mg base CX0 6 f fd ["_law_rooms", "_law_one", "_law_rest"] (spNoCells C) := by
  refine F.ok scNc (fun vs H Q E h => ?_) (fun cdv A outer s H vs Q E hr h => ?_)
  · obtain ⟨p, a, d, tot, W, t, pg, m, rest, rfl, _⟩ := h
    rfl
  · obtain ⟨p, a, d, tot, W, t, pg, m, rest, rfl, D0, sz, hd, t0, t1, g0, g1, m0, m1, ⟨r, hr1⟩, k⟩ := h
    have hs : sizeLine = 16777216 := sizeLine_eq
    refine ⟨_, (pss_cons (ps_for PassesOwn.never rfl (pi_list (pe_lst (pa_cons (pe_un un_neg pe_int) (pa_cons pe_int (pa_cons (pe_op op_add (pe_op op_pow pe_int pe_int) (pe_op op_mod (pv 2) pe_int)) (pa_cons (pe_un un_neg (pe_op op_pow pe_int pe_int)) (pa_cons (pe_op op_add (pe_op op_mul pe_int (pe_ix ix_tup (pv 1) pe_int (fun _ _ => rfl))) (pe_op op_mod (pv 2) pe_int)) (pa_cons (pe_op op_add (pe_op op_mul pe_int (pe_op op_add (pe_ix ix_tup (pv 1) pe_int (fun _ _ => rfl)) (pe_ix ix_tup (pv 1) pe_int (fun _ _ => rfl)))) pe_int) pa_nil)))))))) (pg_name (i := 3) scNc.nd rfl (Or.inl rfl)) (pss_one (ps_if (PW.pt (pw_or (pt_cmpR (op_neL hr.units0) (pe_meth (pv 0) M.cl M.mPe M.GPe (hr.mono (by decide)) M.bPe .nil pass1 (pa_cons (pe_ix ix_tup (pv 1) pe_int (fun _ _ => rfl)) (pa_cons (pv 3) (pa_cons pe_int pa_nil)))) (pe_lst pa_nil) (nomark _)) (pw_or1 (pt_cmpR (op_neT hr.units0) (pe_call GTo (hr.mono (by decide)) (by rfl) DTo.mg DTo.kp DTo.b .nil pass0 (pa_cons (pv 0) (pa_cons (pe_tup (pa_cons pe_str (pa_cons (pe_ix ix_tup (pv 1) pe_int (fun _ _ => rfl)) (pa_cons (pv 3) (pa_cons (pe_lst pa_nil) pa_nil))))) pa_nil))) (pe_tup (pa_cons pe_non (pa_cons pe_str pa_nil))) (nomark _))))) (pss_one (ps_ret pe_bl)) pss_nil)))
      (pss_one (ps_ret pe_bl))), ?_⟩
    refine hidSF fun _ _ jb jt => ?_
    have nPe : (flds tot a).lookup ("peek" : Str) = none := flds_no _ _ (by decide +kernel) (by decide +kernel)
    have a0 := Int.emod_nonneg rest (show (97 : Int) ≠ 0 by decide)
    have a1 := Int.emod_lt_of_pos rest (show (0 : Int) < 97 by decide)
    have b0 := Int.emod_nonneg rest (show (9 : Int) ≠ 0 by decide)
    have b1 := Int.emod_lt_of_pos rest (show (0 : Int) < 9 by decide)
    unfold tSeq tFor iList
    refine ev_lst (ac (ev_u ev_c) (ac ev_c (ac (ev_o (ev_i ev_c ev_c ⟨by decide, by decide, by decide⟩) (ev_i (ev_v rfl) ev_c (by show (0 : Int) < 97; decide))) (ac (ev_u (ev_i ev_c ev_c ⟨by decide, by decide, by decide⟩)) (ac (ev_o (ev_i ev_c (ev_T (ev_v rfl) ev_c (SqT.of hd) rfl) (.inl ⟨by decide, by decide⟩)) (ev_i (ev_v rfl) ev_c (by show (0 : Int) < 9; decide))) (ac (ev_o (ev_i ev_c (ev_o (ev_T (ev_v rfl) ev_c (SqT.of hd) rfl) (ev_T (ev_v rfl) ev_c (SqT.of hd) rfl)) (.inl ⟨by decide, by decide⟩)) ev_c) an)))))) (by show 6 ≤ sizeLine; decide) fun l hl => ?_
    obtain ⟨fs, efs⟩ : ∃ fs : List Int, fs = [-1, 512, (10 : Int) ^ Int.toNat 55 + rest % 97, -((10 : Int) ^ Int.toNat 50), 8 * pg + rest % 9, 8 * (pg + m) + 1] := ⟨_, rfl⟩
    have hb : ∀ f ∈ fs, -100000000000000000000000000000000000000000000000000000000000 < f ∧ f < 100000000000000000000000000000000000000000000000000000000000 := fun f hf => by
      rw [efs, p55, p50] at hf
      rcases List.mem_cons.mp hf with e | hf
      · (first | lia | omega)
      rcases List.mem_cons.mp hf with e | hf
      · (first | lia | omega)
      rcases List.mem_cons.mp hf with e | hf
      · (first | lia | omega)
      rcases List.mem_cons.mp hf with e | hf
      · (first | lia | omega)
      rcases List.mem_cons.mp hf with e | hf
      · (first | lia | omega)
      have := List.mem_singleton.mp hf
      (first | lia | omega)
    have s1 := same_new (X := .lst (fs.map V.int)) hl
    have el : (upd H l (.lst (fs.map V.int))) l = some (.lst (fs.map V.int)) := upd_same
    have eL : upd H l (.lst (fs.map V.int)) = upd H l (.lst [V.int (-1), V.int 512, V.int ((10 : Int) ^ Int.toNat 55 + rest % 97), V.int (-((10 : Int) ^ Int.toNat 50)), V.int (8 * pg + rest % 9), V.int (8 * (pg + m) + 1)]) := by rw [efs]; rfl
    rw [← eL]
    clear eL efs
    generalize upd H l (.lst (fs.map V.int)) = H2 at *
    refine ⟨l, rfl, ⟨_, SqL.of el⟩, ?_⟩
    refine for_list (K := K) (a := l) (xs := fs.map V.int) (fun i σ H3 => ∃ (v3 : Option V) (W' : Rms), σ = [some (.ref p), some (.ref d), some (.int rest), v3] ∧ PRAt C H3 p a tot W' ∧ conW W' = conW W ∧ Kt H2 H3) ⟨_, W, rfl, D0.same s1, rfl, Kt.same (Same.refl _)⟩ (fun i σ H3 _ z0 => by obtain ⟨_, _, _, _, _, kt⟩ := z0; exact SqL.of (kt.lst el)) ?_ ?_
    · rintro i x σ H3 hx ⟨v3, W', rfl, D3, ec, kt⟩
      rw [List.getElem?_map] at hx
      obtain ⟨f, hf, rfl⟩ := Option.map_eq_some_iff.mp hx
      obtain ⟨f0, f1⟩ := hb f (List.mem_of_getElem? hf)
      have hd3 : H3 d = some (.tup [.int t, .int pg, .int m]) := kt.tup (s1 _ _ hd)
      obtain ⟨dx3, h3⟩ := id D3.ob
      have sz3 : Sz (conW W') tot := ec ▸ sz
      have hk : ∀ x ∈ W', x.2.2.length ≤ 1000 := fun x hx => Nat.le_trans (sz3.w.2 x hx) (by decide)
      have hr3 : look (conW W') t = some r := by rw [ec]; exact hr1
      obtain ⟨x0, hx0, _⟩ := lookW hr3
      have L1 : Lo (cFst f) := big_log (by unfold cFst; rw [p60]; (first | lia | omega)) (by unfold cFst; rw [p60]; (first | lia | omega))
      have L2 : Lo (cCnt f 0) := small_log (by unfold cCnt; (first | lia | omega)) (by unfold cCnt; (first | lia | omega))
      refine jb _ _ _ (hidCL fun _ _ je => ?_)
      refine ⟨_, rfl, p, dx3, _, rfl, h3, nPe, _, rfl, d, _, _, .int t, rfl, rfl, SqT.of hd3, rfl, _, rfl, p, a, tot, t, f, 0, W', rfl, D3, key_log t0 t1, by decide, L1, L2, hk, fun e => absurd (e.symm.trans hx0) (by simp), fun x' hx2 hb => absurd hb nil_good, fun x' hx2 hb H4 l4 s4 nl4 hl4 => ?_⟩
      have e0 : peekC x'.2 f 0 = [] := rfl
      rw [e0] at hl4
      refine ⟨(by show 0 ≤ sizeLine; decide), fun l5 hl5 => ?_⟩
      have s5 := same_new (X := .lst []) hl5
      refine ⟨l4, l5, _, _, rfl, rfl, SqL.of (s5 _ _ hl4), SqL.of upd_same, rfl, rfl, false, rfl, iteF ?_⟩
      have S5 := s4.trans s5
      generalize upd H4 l5 (.lst []) = H5 at *
      refine ⟨_, rfl, _, rfl, d, _, _, .int t, rfl, rfl, SqT.of (S5 _ _ hd3), rfl, _, rfl, (by show 0 ≤ sizeLine; decide), fun c6 hc6 => ⟨(by show 4 ≤ sizeLine; decide), fun T7 hT7 => ?_⟩⟩
      have s6 := same_new (X := .lst []) hc6
      have ec6 : (upd H5 c6 (.lst [])) c6 = some (.lst []) := upd_same
      generalize upd H5 c6 (.lst []) = H6 at *
      have s7 := same_new (X := .tup [.str "poke", .int t, .int f, .ref c6]) hT7
      have S7 := (S5.trans s6).trans s7
      refine nilQ (spTold_in p a T7 tot W' (.poke t f []) (D3.same S7) (⟨c6, upd_same, s7 _ _ ec6⟩) (⟨key_log t0 t1, by decide, L1, L2⟩) sz3 (.inr ⟨conW W', ⟨rfl, ⟨r, hr3⟩, rfl⟩, fun H8 W8 T8 D8 e8 a8 o8 hT8 => ?_⟩))
      have k8 := o8.kt (D3.same S7).R
      refine ⟨(by show 2 ≤ sizeLine; decide), fun T9 hT9 => ?_⟩
      have s9 := same_new (X := .tup [.non, .str ""]) hT9
      refine ⟨T8, T9, _, _, rfl, rfl, SqT.of (s9 _ _ hT8), SqT.of upd_same, rfl, rfl, _, rfl, ?_⟩
      rw [eq2]
      exact je _ ⟨_, W8, rfl, D8.same s9, e8.trans ec, ((kt.trans (Kt.same S7)).trans k8).trans (Kt.same s9)⟩
    · rintro σ H3 ⟨v3, W', rfl, D3, ec, kt⟩
      exact jt _ _ _ (k H3 W' D3 ec ((Kt.same s1).trans kt))
theorem scFu : FnScope ["_law_rooms", "_law_one", "_law_free", "_law_extra"] ["_law_rooms", "_law_one", "_law_free", "_law_extra"] (defScope sFull) := ⟨rfl, rfl, rfl, by decide +kernel, rfl, by decide +kernel, by decide +kernel⟩
theorem ok_full {f C fTo : Addr} {fd dTo : FuncData} (F : Fun K "_law_full" "_law_full" sFull f fd)
    (GTo : FnOk P w K mg base CX0 5 fTo dTo ["_law_rooms", "_law_deed"] (spTold C)) (DTo : Def K mg "_law_told" fTo dTo ["_law_rooms", "_law_deed"]) :
    FnOk P w K mg base CX0 6 f fd ["_law_rooms", "_law_one", "_law_free", "_law_extra"] (spFull C) := by
  refine F.ok scFu (fun vs H Q E h => ?_) (fun cdv A outer s H vs Q E hr h => ?_)
  · obtain ⟨p, a, d, tot, W, t, pg, m, free, ex, r, rfl, _⟩ := h
    rfl
  · obtain ⟨p, a, d, tot, W, t, pg, m, free, ex, r, rfl, D0, sz, hd, t0, t1, x0, x1, hr1, lr, hex, htot, k⟩ := h
    have hs : sizeLine = 16777216 := sizeLine_eq
    refine ⟨_, (pss_cons (ps_if (pt_cmpR op_le (pe_ix ix_tup (pv 1) pe_int (fun _ _ => rfl)) (pv 2) (nomark _)) (pss_one (ps_ret pe_bl)) pss_nil)
      (pss_cons (ps_if (pt_cmpR (op_neT hr.units0) (pe_call GTo (hr.mono (by decide)) (by rfl) DTo.mg DTo.kp DTo.b .nil pass0 (pa_cons (pv 0) (pa_cons (pe_tup (pa_cons pe_str (pa_cons (pe_ix ix_tup (pv 1) pe_int (fun _ _ => rfl)) (pa_cons (pv 3) pa_nil)))) pa_nil))) (pe_tup (pa_cons pe_non (pa_cons pe_str pa_nil))) (nomark _)) (pss_one (ps_ret pe_bl)) pss_nil)
      (pss_one (ps_ret (pe_cmpR (op_eqT hr.units0) (pe_call GTo (hr.mono (by decide)) (by rfl) DTo.mg DTo.kp DTo.b .nil pass0 (pa_cons (pv 0) (pa_cons (pe_tup (pa_cons pe_str (pa_cons (pe_ix ix_tup (pv 1) pe_int (fun _ _ => rfl)) (pa_cons (pe_ix ix_tup (pv 1) pe_int (fun _ _ => rfl)) pa_nil)))) pa_nil))) (pe_tup (pa_cons pe_non (pa_cons pe_str pa_nil))) (nomark _)))))), ?_⟩
    refine hidCR fun _ ji je => ?_
    refine ⟨_, rfl, d, _, _, .int m, rfl, rfl, SqT.of hd, rfl, _, rfl, _, _, rfl, rfl, _, rfl, ?_⟩
    refine iteB (fun c => ji _ (k _ (Same.refl _))) (fun c => je _ (hidCR fun _ _ je => ?_))
    have c' : ¬ m ≤ free := fun z => c (decide_eq_true z)
    refine ⟨_, rfl, _, rfl, d, _, _, .int t, rfl, rfl, SqT.of hd, rfl, _, rfl, (by show 3 ≤ sizeLine; decide), fun T1 hT1 => ?_⟩
    have s1 := same_new (X := .tup [.str "copy", .int t, .int ex]) hT1
    refine nilQ (spTold_in p a T1 tot W (.copy t ex) (D0.same s1) upd_same (⟨key_log t0 t1, key_log x0 x1⟩) sz (.inl ⟨.noRoom, .inr ⟨r, hr1, .inr ⟨hex, by (first | lia | omega), rfl⟩⟩, fun H2 T2 s2 hT2 => ?_⟩))
    refine ⟨(by show 2 ≤ sizeLine; decide), fun T3 hT3 => ?_⟩
    have s3 := same_new (X := .tup [.non, .str "NoRoom"]) hT3
    refine ⟨T2, T3, _, _, rfl, rfl, SqT.of (s3 _ _ hT2), SqT.of upd_same, rfl, rfl, _, rfl, ?_⟩
    rw [show wordOf .noRoom = "NoRoom" from rfl, eq2]
    refine je _ (hidR fun _ jr => ?_)
    have S3 := (s1.trans s2).trans s3
    generalize upd H2 T3 (.tup [.non, .str "NoRoom"]) = H3 at *
    refine ⟨_, rfl, _, rfl, d, _, _, .int t, rfl, rfl, SqT.of (S3 _ _ hd), rfl, _, rfl, d, _, _, .int t, rfl, rfl, SqT.of (S3 _ _ hd), rfl, (by show 3 ≤ sizeLine; decide), fun T4 hT4 => ?_⟩
    have s4 := same_new (X := .tup [.str "copy", .int t, .int t]) hT4
    refine nilQ (spTold_in p a T4 tot W (.copy t t) (D0.same (S3.trans s4)) upd_same (⟨key_log t0 t1, key_log t0 t1⟩) sz (.inl ⟨.taken, .inr ⟨r, hr1, .inl ⟨⟨r, hr1⟩, rfl⟩⟩, fun H5 T5 s5 hT5 => ?_⟩))
    refine ⟨(by show 2 ≤ sizeLine; decide), fun T6 hT6 => ?_⟩
    have s6 := same_new (X := .tup [.non, .str "Taken"]) hT6
    refine ⟨T5, T6, _, _, rfl, rfl, SqT.of (s6 _ _ hT5), SqT.of upd_same, rfl, rfl, ?_⟩
    rw [show wordOf .taken = "Taken" from rfl, eq2]
    exact jr _ _ (k _ (((S3.trans s4).trans s5).trans s6))
theorem zr_keys (n : Int) : keysC (zr n) = pagesL 0 n := by
  unfold keysC zr
  rw [List.map_map]
  exact List.map_id _
theorem zr_len {n : Int} (h : 0 ≤ n) : ((zr n).length : Int) = n := by
  unfold zr pagesL
  rw [List.length_map, List.length_map, List.length_range]
  (first | lia | omega)
theorem held1 {t n : Int} (h : 0 ≤ n) : heldC [(t, zr n)] = n := by
  show ((zr n).length : Int) + 0 = n
  rw [zr_len h, Int.add_zero]
theorem look1 {α : Type} {t : Int} {r : α} : look [(t, r)] t = some r := by rw [look_cons, if_pos rfl]
theorem addr1 {W : Rms} {r : Addr} {H H5 H6 : Hp} (e : W.map (·.2.1) = [r]) (hr : H r = none) (s : Same H H5) (o : OffW W H5 H6) : Same H H6 := fun b u h => o _ _ (s _ _ h) fun zq1_0 => by
  obtain ⟨x, hx, q⟩ := zq1_0
  have : x.2.1 ∈ W.map (·.2.1) := List.mem_map.mpr ⟨x, hx, rfl⟩
  rw [e] at this
  rw [← q, List.mem_singleton.mp this, hr] at h
  cases h
theorem scSm : FnScope ["_law_total", "_law_task", "_law_rooms", "_law_page", "_law_due"] ["_law_total", "_law_task"] (defScope sSmall) := ⟨rfl, rfl, rfl, by decide +kernel, rfl, by decide +kernel, by decide +kernel⟩
set_option maxHeartbeats 4000000 in
theorem ok_small {f C fI fTo : Addr} {cl4 : Ref4 → Addr} {fd dI dTo : FuncData} (F : Fun K "_law_small" "_law_small" sSmall f fd) (T : MTxt mg) (M : Kit P w K mg base C cl4)
    (mgC : mg "PlainRooms" = some (.ref C)) (MK : Mk K C fI) (GI : FnOk P w K mg base CX0 1 fI dI ["self", "total"] (spInit C)) (bI : Binds K dI ["self", "total"] [])
    (GTo : FnOk P w K mg base CX0 5 fTo dTo ["_law_rooms", "_law_deed"] (spTold C)) (DTo : Def K mg "_law_told" fTo dTo ["_law_rooms", "_law_deed"]) :
    FnOk P w K mg base CX0 6 f fd ["_law_total", "_law_task"] spSmall := by
  refine F.ok scSm (fun vs H Q E h => ?_) (fun cdv A outer s H vs Q E hr h => ?_)
  · obtain ⟨tot, t, rfl, _⟩ := h
    rfl
  · obtain ⟨tot, t, rfl, o0, o1, t0, t1, k⟩ := h
    have hs : sizeLine = 16777216 := sizeLine_eq
    refine ⟨_, (pss_cons (ps_set (i := 2) scSm.nd rfl (Or.inl rfl) (pe_make MK GI (hr.mono (by decide)) (by rfl) mgC bI .nil pass0 (pa_cons (pv 0) pa_nil)))
      (pss_cons (ps_expr (pe_meth (pv 2) M.cl M.mBe M.GBe (hr.mono (by decide)) M.bBe .nil pass1 (pa_cons (pv 1) pa_nil)))
      (pss_cons (ps_for PassesOwn.never rfl (pi_range1 (by rfl) T.range (pa_cons pe_int pa_nil)) (pg_name (i := 3) scSm.nd rfl (Or.inl rfl)) (pss_cons (ps_set (i := 4) scSm.nd rfl (Or.inl rfl) (pe_ifExp (pt_cmpR op_ge (pv 3) (pv 0) (nomark _)) pe_str pe_str))
      (pss_one (ps_if (PW.pt (pw_or (pt_cmpR (op_neT hr.units0) (pe_call GTo (hr.mono (by decide)) (by rfl) DTo.mg DTo.kp DTo.b .nil pass0 (pa_cons (pv 2) (pa_cons (pe_tup (pa_cons pe_str (pa_cons (pv 1) (pa_cons (pv 3) (pa_cons pe_int pa_nil))))) pa_nil))) (pe_tup (pa_cons pe_non (pa_cons (pv 4) pa_nil))) (nomark _)) (pw_or1 (pt_cmpR op_ne (pe_meth0 (pv 2) M.cl M.mH M.GH (hr.mono (by decide)) M.bH .nil pass0) (pe_callB (call_min2 rfl) (by rfl) T.min bt_min (pa_cons (pv 0) (pa_cons (pe_op op_add (pv 3) pe_int) pa_nil))) (nomark _))))) (pss_one (ps_ret pe_bl)) pss_nil))))
      (pss_one (ps_ret (pe_and (pe_cmpR (op_eqT hr.units0) (pe_call GTo (hr.mono (by decide)) (by rfl) DTo.mg DTo.kp DTo.b .nil pass0 (pa_cons (pv 2) (pa_cons (pe_tup (pa_cons pe_str (pa_cons (pv 1) (pa_cons pe_int (pa_cons pe_int pa_nil))))) pa_nil))) (pe_tup (pa_cons pe_non (pa_cons pe_str pa_nil))) (nomark _)) (pe_one (pe_cmpR op_eq (pe_meth0 (pv 2) M.cl M.mH M.GH (hr.mono (by decide)) M.bH .nil pass0) (pv 0) (nomark _))))))))), ?_⟩
    refine hidN fun _ jt => ?_
    refine ⟨_, rfl, fun p dx np ndx ne0 => ⟨p, dx, _, rfl, upd_same, fun H3 a ha D3 o3 => ⟨rfl, ?_⟩⟩⟩
    have s0 : Same H (upd (upd H dx (.own p)) p (.ins C dx [])) := fun b u e => by rw [upd_ne (ne_of_none e np), upd_ne (ne_of_none e ndx)]; exact e
    have s3 : Same H H3 := fun b u e => o3 b u (s0 _ _ e) (ne_of_none e np)
    have na : H a = none := s0.free ha
    have nBe : (flds tot a).lookup ("begin" : Str) = none := flds_no _ _ (by decide +kernel) (by decide +kernel)
    have nH : (flds tot a).lookup ("held" : Str) = none := flds_no _ _ (by decide +kernel) (by decide +kernel)
    obtain ⟨dx3, h3⟩ := id D3.ob
    refine jt _ _ (hidD fun _ jt => ?_)
    refine ⟨_, rfl, p, dx3, _, rfl, h3, nBe, _, rfl, (nilQ (spBegin_in p a tot t ([]) D3 (key_log t0 t1) (by decide) ((fun zq2_0 => by obtain ⟨x, hx⟩ := zq2_0; rw [look_nil] at hx; cases hx)) (fun _ H4 r hr4 D4 o4 => ?_)))⟩
    have s4 : Same H H4 := fun b u e => o4 _ _ (s3 _ _ e) (ne_of_none e na)
    have nr : H r = none := s3.free hr4
    have lt : Lo tot := small_log (by (first | lia | omega)) (by (first | lia | omega))
    have szz : ∀ n : Int, 0 ≤ n → n ≤ 3 → Sz [(t, zr n)] tot := fun n h0 h3 => ⟨by show 1 ≤ 1000; decide, fun x hx => by
      rw [List.mem_singleton.mp hx]
      have := zr_len h0
      show (zr n).length ≤ 64
      (first | lia | omega), lt⟩
    refine jt _ _ (hidSF fun _ _ jb jt => ?_)
    refine ⟨_, rfl, (by decide), (by decide), ?_⟩
    refine for_range (lo := 0) (n := Int.toNat 3) (fun i σ H5 => ∃ (v3 v4 : Option V) (W : Rms), σ = [some (.int tot), some (.int t), some (.ref p), v3, v4] ∧ PRAt C H5 p a tot W ∧ conW W = [(t, zr (if (i : Int) < tot then (i : Int) else tot))] ∧ W.map (·.2.1) = [r] ∧ Same H H5)
      ⟨_, _, [(t, r, [])], rfl, D4, ?_, rfl, s4⟩ ?_ ?_
    · show [(t, con [])] = _
      have : (if ((0 : Nat) : Int) < tot then ((0 : Nat) : Int) else tot) = 0 := by split <;> (first | lia | omega)
      rw [this]
      rfl
    · rintro i σ H5 hi ⟨v3, v4, W, rfl, D5, ec, ea, s5⟩
      have hi3 : i < 3 := hi
      obtain ⟨dx5, h5⟩ := id D5.ob
      have ei : (0 : Int) + (i : Int) = (i : Int) := Int.zero_add _
      rw [ei]
      refine jb _ _ _ (hidN fun _ ju => ?_)
      refine ⟨_, rfl, _, rfl, _, _, rfl, rfl, _, rfl, ?_⟩
      have np1 : ¬ noPages (i : Int) 1 := by rintro (h | h | h) <;> (first | lia | omega)
      have lgi : Lg (.map t (i : Int) 1) := ⟨key_log t0 t1, small_log (by (first | lia | omega)) (by (first | lia | omega)), by decide⟩
      refine ite2 (fun c => ?_) (fun c => ?_)
      · have ct : tot ≤ (i : Int) := of_decide_eq_true c
        have en : (if (i : Int) < tot then (i : Int) else tot) = tot := if_neg (by (first | lia | omega))
        rw [en] at ec
        refine ju _ _ (hidCL fun _ _ je => ?_)
        refine ⟨_, rfl, _, rfl, _, rfl, (by show 4 ≤ sizeLine; decide), fun T6 hT6 => ?_⟩
        have s6 := same_new (X := .tup [.str "map", .int t, .int i, .int 1]) hT6
        refine nilQ (spTold_in p a T6 tot W (.map t i 1) (D5.same s6) upd_same lgi (by rw [ec]; exact szz tot o0 (by (first | lia | omega))) (.inl ⟨.noRoom, ?_, fun H7 T7 s7 hT7 => ?_⟩))
        · rw [ec]
          refine .inr ⟨_, look1, .inr (.inr ⟨np1, fun q hq => ?_, by rw [held1 o0]; (first | lia | omega), rfl⟩)⟩
          rw [zr_keys, page_mem]
          have := page_mem.mp hq
          (first | lia | omega)
        refine ⟨_, rfl, (by show 2 ≤ sizeLine; decide), fun T8 hT8 => ?_⟩
        have s8 := same_new (X := .tup [.non, .str "NoRoom"]) hT8
        refine ⟨T7, T8, _, _, rfl, rfl, SqT.of (s8 _ _ hT7), SqT.of upd_same, rfl, rfl, _, rfl, ?_⟩
        rw [show wordOf .noRoom = "NoRoom" from rfl, eq2]
        refine iteF ?_
        have S8 := (s6.trans s7).trans s8
        generalize upd H7 T8 (.tup [.non, .str "NoRoom"]) = H8 at *
        refine ⟨_, rfl, p, dx5, _, rfl, S8 _ _ h5, nH, (nilQ (spHeld_in p a tot W (D5.same S8) ((by rw [← conW_len, ec]; show 1 ≤ 1000; decide)) (fun H9 s9 => ?_)))⟩
        refine ⟨_, rfl, _, rfl, _, _, rfl, rfl, _, _, rfl, rfl, _, rfl, ?_⟩
        have eh : heldW W = if (i : Int) + 1 < tot then (i : Int) + 1 else tot := by rw [held_c, ec, held1 o0, if_neg (by (first | lia | omega))]
        rw [eh, decide_eq_true rfl]
        refine je _ ⟨_, _, W, rfl, D5.same (S8.trans s9), ?_, ea, s5.trans (S8.trans s9)⟩
        rw [if_neg (by (first | lia | omega))]
        exact ec
      · have ct : (i : Int) < tot := by
          rcases Int.lt_or_le (i : Int) tot with h | h
          · exact h
          · exact absurd (decide_eq_true h) c
        have i0 : i = 0 := by (first | lia | omega)
        have to1 : tot = 1 := by (first | lia | omega)
        subst i0
        have en : (if ((0 : Nat) : Int) < tot then ((0 : Nat) : Int) else tot) = 0 := if_pos ct
        rw [en] at ec
        refine ju _ _ (hidCL fun _ _ je => ?_)
        refine ⟨_, rfl, _, rfl, _, rfl, (by show 4 ≤ sizeLine; decide), fun T6 hT6 => ?_⟩
        have s6 := same_new (X := .tup [.str "map", .int t, .int ((0 : Nat) : Int), .int 1]) hT6
        refine nilQ (spTold_in p a T6 tot W (.map t ((0 : Nat) : Int) 1) (D5.same s6) upd_same lgi (by rw [ec]; exact szz 0 (by decide) (by decide)) (.inr ⟨[(t, zr 1)], ?_, fun H7 W7 T7 D7 e7 a7 o7 hT7 => ?_⟩))
        · rw [ec]
          refine ⟨_, look1, np1, fun q hq => ?_, by rw [held1 (by decide)]; (first | lia | omega), ?_⟩
          · rw [zr_keys, page_mem]
            (first | lia | omega)
          · show _ = [if t = t then (t, _) else _]
            rw [if_pos rfl]
            rfl
        refine ⟨_, rfl, (by show 2 ≤ sizeLine; decide), fun T8 hT8 => ?_⟩
        have s8 := same_new (X := .tup [.non, .str ""]) hT8
        refine ⟨T7, T8, _, _, rfl, rfl, SqT.of (s8 _ _ hT7), SqT.of upd_same, rfl, rfl, _, rfl, ?_⟩
        rw [eq2]
        refine iteF ?_
        have S8 : Same H (upd H7 T8 (.tup [.non, .str ""])) := (addr1 ea nr (s5.trans s6) o7).trans s8
        have D8 := D7.same s8
        generalize upd H7 T8 (.tup [.non, .str ""]) = H8 at *
        obtain ⟨dx8, h8⟩ := id D8.ob
        refine ⟨_, rfl, p, dx8, _, rfl, h8, nH, (nilQ (spHeld_in p a tot W7 D8 ((by rw [← conW_len, e7]; show 1 ≤ 1000; decide)) (fun H9 s9 => ?_)))⟩
        refine ⟨_, rfl, _, rfl, _, _, rfl, rfl, _, _, rfl, rfl, _, rfl, ?_⟩
        have eh : heldW W7 = if ((0 : Nat) : Int) + 1 < tot then ((0 : Nat) : Int) + 1 else tot := by rw [held_c, e7, held1 (by decide), if_neg (by (first | lia | omega))]; exact to1.symm
        rw [eh, decide_eq_true rfl]
        refine je _ ⟨_, _, W7, rfl, D8.same s9, ?_, a7.trans ea, S8.trans s9⟩
        rw [e7, if_neg (by (first | lia | omega)), to1]
    · rintro σ H5 ⟨v3, v4, W, rfl, D5, ec, ea, s5⟩
      have en : (if ((Int.toNat 3 : Nat) : Int) < tot then ((Int.toNat 3 : Nat) : Int) else tot) = tot := if_neg (by show ¬ (3 : Int) < tot; (first | lia | omega))
      rw [en] at ec
      obtain ⟨dx5, h5⟩ := id D5.ob
      refine jt _ _ _ (hidR fun _ jr => ?_)
      refine ⟨_, rfl, _, rfl, (by show 4 ≤ sizeLine; decide), fun T6 hT6 => ?_⟩
      have s6 := same_new (X := .tup [.str "map", .int t, .int 9, .int 2]) hT6
      refine nilQ (spTold_in p a T6 tot W (.map t 9 2) (D5.same s6) upd_same (⟨key_log t0 t1, by decide, by decide⟩) (by rw [ec]; exact szz tot o0 (by (first | lia | omega))) (.inl ⟨.noRoom, ?_, fun H7 T7 s7 hT7 => ?_⟩))
      · rw [ec]
        refine .inr ⟨_, look1, .inr (.inr ⟨by rintro (h | h | h) <;> (first | lia | omega), fun q hq => ?_, by rw [held1 o0]; (first | lia | omega), rfl⟩)⟩
        rw [zr_keys, page_mem]
        have := page_mem.mp hq
        (first | lia | omega)
      refine ⟨(by show 2 ≤ sizeLine; decide), fun T8 hT8 => ?_⟩
      have s8 := same_new (X := .tup [.non, .str "NoRoom"]) hT8
      refine ⟨T7, T8, _, _, rfl, rfl, SqT.of (s8 _ _ hT7), SqT.of upd_same, rfl, rfl, _, rfl, ?_⟩
      rw [show wordOf .noRoom = "NoRoom" from rfl, eq2]
      refine iteT ?_
      have S8 := (s6.trans s7).trans s8
      generalize upd H7 T8 (.tup [.non, .str "NoRoom"]) = H8 at *
      refine ⟨_, rfl, p, dx5, _, rfl, S8 _ _ h5, nH, (nilQ (spHeld_in p a tot W (D5.same S8) ((by rw [← conW_len, ec]; show 1 ≤ 1000; decide)) (fun H9 s9 => ⟨_, rfl, rfl, ?_⟩)))⟩
      rw [held_c, ec, held1 o0, decide_eq_true rfl]
      exact jr _ _ (k _ (s5.trans (S8.trans s9)))
end
end Rm

namespace Rm
open PySem L2
/-- what the deeds with a refusal lean on -/
structure Bd (c : Wc) (tot t pg m t2 free tn : Int) : Prop where
  p1 : 1 ≤ pg
  p2 : pg ≤ 50
  m1 : 1 ≤ m
  m2 : m ≤ 5
  f0 : 0 ≤ free
  f1 : free ≤ 5
  t0 : 0 ≤ t ∧ t < 10 ^ 60
  t20 : 0 ≤ t2 ∧ t2 < 10 ^ 60
  n0 : 0 ≤ tn ∧ tn < 10 ^ 60
  nn : look c tn = none
  rm : ∃ r, look c t = some r ∧ keysC r = pagesL pg m
  r2 : ∃ r, look c t2 = some r
  ht : tot = heldC c + free
noncomputable def spBad : Sp := fun vs H Q _ => ∃ (d1 d2 : Addr) (c : Wc) (tot t pg m t2 pg2 m2 free tn rest : Int), vs = [.int rest, .ref d1, .ref d2, .int free, .int tn] ∧ H d1 = some (.tup [.int t, .int pg, .int m]) ∧ H d2 = some (.tup [.int t2, .int pg2, .int m2]) ∧ Bd c tot t pg m t2 free tn ∧
  ∀ (H' : Hp) (T d : Addr) (D : Deed) (X : Ref4), Same H H' → H' T = some (.tup [.ref d, .str (wordOf X)]) → DeedAt H' d D → Lg D → Due tot c D X → Q (.ref T) H'
section
variable {c : Wc} {tot t pg m t2 free tn : Int}
theorem Bd.lt (B : Bd c tot t pg m t2 free tn) : Lo t := key_log B.t0.1 B.t0.2
theorem Bd.ln (B : Bd c tot t pg m t2 free tn) : Lo tn := key_log B.n0.1 B.n0.2
theorem Bd.mapP (B : Bd c tot t pg m t2 free tn) {a b : Int} (h : noPages a b) : Due tot c (.map t a b) .noPage := let ⟨r, h1, _⟩ := B.rm; .inr ⟨r, h1, .inl ⟨h, rfl⟩⟩
theorem Bd.mapT (B : Bd c tot t pg m t2 free tn) {a b q : Int} (h : ¬ noPages a b) (h1 : a ≤ q) (h2 : q < a + b) (h3 : pg ≤ q) (h4 : q < pg + m) : Due tot c (.map t a b) .taken := let ⟨r, e1, e2⟩ := B.rm; .inr ⟨r, e1, .inr (.inl ⟨h, ⟨q, page_mem.mpr ⟨h1, h2⟩, by rw [e2]; exact page_mem.mpr ⟨h3, h4⟩⟩, rfl⟩)⟩
theorem Bd.mapR (B : Bd c tot t pg m t2 free tn) : Due tot c (.map t (pg + m) (free + 1)) .noRoom := by
  obtain ⟨r, e1, e2⟩ := B.rm
  have := B.p2; have := B.m2; have := B.f1; have := B.p1; have := B.m1; have := B.f0; have := B.ht
  refine .inr ⟨r, e1, .inr (.inr ⟨by rintro (h | h | h) <;> (first | lia | omega), fun q hq => ?_, by (first | lia | omega), rfl⟩)⟩
  rw [e2, page_mem]
  have := page_mem.mp hq
  (first | lia | omega)
theorem Bd.dropP (B : Bd c tot t pg m t2 free tn) {a b : Int} (h : noPages a b ∨ ∃ q, a ≤ q ∧ q < a + b ∧ (q < pg ∨ pg + m ≤ q)) : Due tot c (.drop t a b) .noPage := by
  obtain ⟨r, e1, e2⟩ := B.rm
  refine .inr ⟨r, e1, ?_, rfl⟩
  rcases h with h | ⟨q, h1, h2, h3⟩
  · exact .inl h
  · refine .inr fun z => ?_
    have := z q (page_mem.mpr ⟨h1, h2⟩)
    rw [e2, page_mem] at this
    (first | lia | omega)
theorem Bd.cells (B : Bd c tot t pg m t2 free tn) {ad n q : Int} (hn : 0 < n) (h1 : cFst ad ≤ q) (h2 : q < cFst ad + cCnt ad n) (h3 : q < pg ∨ pg + m ≤ q) {r : List (Int × List Int)} (e2 : keysC r = pagesL pg m) : badCells ad n (keysC r) := by
  refine .inr ⟨hn, .inr fun z => ?_⟩
  have := z q (page_mem.mpr ⟨h1, h2⟩)
  rw [e2, page_mem] at this
  (first | lia | omega)
theorem Bd.peekP (B : Bd c tot t pg m t2 free tn) {ad n q : Int} (hn : 0 < n) (h1 : cFst ad ≤ q) (h2 : q < cFst ad + cCnt ad n) (h3 : q < pg ∨ pg + m ≤ q) : Due tot c (.peek t ad n) .noPage := let ⟨r, e1, e2⟩ := B.rm; .inr ⟨r, e1, B.cells hn h1 h2 h3 e2, rfl⟩
theorem Bd.pokeP (B : Bd c tot t pg m t2 free tn) {ad q : Int} {cs : List Int} (hn : 0 < (cs.length : Int)) (h1 : cFst ad ≤ q) (h2 : q < cFst ad + cCnt ad cs.length) (h3 : q < pg ∨ pg + m ≤ q) : Due tot c (.poke t ad cs) .noPage := let ⟨r, e1, e2⟩ := B.rm; .inr ⟨r, e1, B.cells hn h1 h2 h3 e2, rfl⟩
theorem Bd.copyT (B : Bd c tot t pg m t2 free tn) {o : Int} (h : o = t ∨ o = t2) : Due tot c (.copy t o) .taken := by
  obtain ⟨r, e1, e2⟩ := B.rm
  obtain ⟨r2, f1⟩ := B.r2
  refine .inr ⟨r, e1, .inl ⟨?_, rfl⟩⟩
  rcases h with h | h
  · rw [h]; exact ⟨r, e1⟩
  · rw [h]; exact ⟨r2, f1⟩
end
theorem lgPeek {t v n : Int} (h : Lo t) (v0 : -1000 ≤ v) (v1 : v ≤ 1000) (n0 : -100 ≤ n) (n1 : n ≤ 100) : Lg (.peek t v n) := ⟨h, small_log (by (first | lia | omega)) (by (first | lia | omega)), small_log (by unfold cFst; (first | lia | omega)) (by unfold cFst; (first | lia | omega)), small_log (by unfold cCnt; (first | lia | omega)) (by unfold cCnt; (first | lia | omega))⟩
theorem lgPoke {t v : Int} {cs : List Int} (h : Lo t) (v0 : -1000 ≤ v) (v1 : v ≤ 1000) (l : cs.length ≤ 50) : Lg (.poke t v cs) := ⟨h, by (first | lia | omega), small_log (by unfold cFst; (first | lia | omega)) (by unfold cFst; (first | lia | omega)), small_log (by unfold cCnt; (first | lia | omega)) (by unfold cCnt; (first | lia | omega))⟩
theorem atI3 (x y z : V) {i : Int} (h0 : 0 ≤ i) (h1 : i < 3) : ∃ v, atI [x, y, z] i = some v ∧ ((i = 0 ∧ v = x) ∨ (i = 1 ∧ v = y) ∨ (i = 2 ∧ v = z)) := by
  have : i = 0 ∨ i = 1 ∨ i = 2 := by (first | lia | omega)
  rcases this with rfl | rfl | rfl
  · exact ⟨x, rfl, .inl ⟨rfl, rfl⟩⟩
  · exact ⟨y, rfl, .inr (.inl ⟨rfl, rfl⟩)⟩
  · exact ⟨z, rfl, .inr (.inr ⟨rfl, rfl⟩)⟩
theorem atI2 (x y : V) {i : Int} (h0 : 0 ≤ i) (h1 : i < 2) : ∃ v, atI [x, y] i = some v ∧ ((i = 0 ∧ v = x) ∨ (i = 1 ∧ v = y)) := by
  have : i = 0 ∨ i = 1 := by (first | lia | omega)
  rcases this with rfl | rfl
  · exact ⟨x, rfl, .inl ⟨rfl, rfl⟩⟩
  · exact ⟨y, rfl, .inr ⟨rfl, rfl⟩⟩
theorem atI4 (x y z u : V) {i : Int} (h0 : 0 ≤ i) (h1 : i < 4) : ∃ v, atI [x, y, z, u] i = some v ∧ ((i = 0 ∧ v = x) ∨ (i = 1 ∧ v = y) ∨ (i = 2 ∧ v = z) ∨ (i = 3 ∧ v = u)) := by
  have : i = 0 ∨ i = 1 ∨ i = 2 ∨ i = 3 := by (first | lia | omega)
  rcases this with rfl | rfl | rfl | rfl
  · exact ⟨x, rfl, .inl ⟨rfl, rfl⟩⟩
  · exact ⟨y, rfl, .inr (.inl ⟨rfl, rfl⟩)⟩
  · exact ⟨z, rfl, .inr (.inr (.inl ⟨rfl, rfl⟩))⟩
  · exact ⟨u, rfl, .inr (.inr (.inr ⟨rfl, rfl⟩))⟩
/-- one of three numbers -/
theorem pick3 (x y z : Int) {i : Int} (h0 : 0 ≤ i) (h1 : i < 3) : ∃ v : Int, atI [V.int x, V.int y, V.int z] i = some (.int v) ∧ ((i = 0 ∧ v = x) ∨ (i = 1 ∧ v = y) ∨ (i = 2 ∧ v = z)) := by
  obtain ⟨v, e, h⟩ := atI3 (V.int x) (V.int y) (V.int z) h0 h1
  rcases h with ⟨i, rfl⟩ | ⟨i, rfl⟩ | ⟨i, rfl⟩
  · exact ⟨x, e, .inl ⟨i, rfl⟩⟩
  · exact ⟨y, e, .inr (.inl ⟨i, rfl⟩)⟩
  · exact ⟨z, e, .inr (.inr ⟨i, rfl⟩)⟩
theorem pick2 (x y : Int) {i : Int} (h0 : 0 ≤ i) (h1 : i < 2) : ∃ v : Int, atI [V.int x, V.int y] i = some (.int v) ∧ ((i = 0 ∧ v = x) ∨ (i = 1 ∧ v = y)) := by
  obtain ⟨v, e, h⟩ := atI2 (V.int x) (V.int y) h0 h1
  rcases h with ⟨i, rfl⟩ | ⟨i, rfl⟩
  · exact ⟨x, e, .inl ⟨i, rfl⟩⟩
  · exact ⟨y, e, .inr ⟨i, rfl⟩⟩
theorem pick4 (x y z u : Int) {i : Int} (h0 : 0 ≤ i) (h1 : i < 4) : ∃ v : Int, atI [V.int x, V.int y, V.int z, V.int u] i = some (.int v) ∧ ((i = 0 ∧ v = x) ∨ (i = 1 ∧ v = y) ∨ (i = 2 ∧ v = z) ∨ (i = 3 ∧ v = u)) := by
  obtain ⟨v, e, h⟩ := atI4 (V.int x) (V.int y) (V.int z) (V.int u) h0 h1
  rcases h with ⟨i, rfl⟩ | ⟨i, rfl⟩ | ⟨i, rfl⟩ | ⟨i, rfl⟩
  · exact ⟨x, e, .inl ⟨i, rfl⟩⟩
  · exact ⟨y, e, .inr (.inl ⟨i, rfl⟩)⟩
  · exact ⟨z, e, .inr (.inr (.inl ⟨i, rfl⟩))⟩
  · exact ⟨u, e, .inr (.inr (.inr ⟨i, rfl⟩))⟩
section
variable {P : Program} {w : World} {K : PySem.W.Frag} {mg : Str → Option Value} {base : Heap}
theorem scBa : FnScope ["_law_rest", "_law_one", "_law_other", "_law_free", "_law_none", "_law_task", "_law_page", "_law_many", "_law_kind", "_law_more", "_law_some"] ["_law_rest", "_law_one", "_law_other", "_law_free", "_law_none"] (defScope sBad) := ⟨rfl, rfl, rfl, by decide +kernel, rfl, by decide +kernel, by decide +kernel⟩
set_option maxHeartbeats 8000000 in
theorem ok_bad {f fFa : Addr} {fd dFa : FuncData} (F : Fun K "_law_bad" "_law_bad" sBad f fd)
    (GFa : FnOk P w K mg base CX0 1 fFa dFa ["_law_rest"] spFar) (DFa : Def K mg "_law_far" fFa dFa ["_law_rest"]) :
    FnOk P w K mg base CX0 2 f fd ["_law_rest", "_law_one", "_law_other", "_law_free", "_law_none"] spBad := by
  refine F.ok scBa (fun vs H Q E h => ?_) (fun cdv A outer s H vs Q E hr h => ?_)
  · obtain ⟨d1, d2, c, tot, t, pg, m, t2, pg2, m2, free, tn, rest, rfl, _⟩ := h
    rfl
  · obtain ⟨d1, d2, c, tot, t, pg, m, t2, pg2, m2, free, tn, rest, rfl, h1, h2, B, k⟩ := h
    have hs : sizeLine = 16777216 := sizeLine_eq
    have g__law_far : (defScope sBad).names.lookup ("_law_far" : Str) = some NameKind.globalImplicit := by decide +kernel
    refine ⟨_, (pss_cons (ps_asg (pv 1) (pg_tup rfl (pgs_cons (pg_name (i := 5) scBa.nd rfl (Or.inl rfl)) (pgs_cons (pg_name (i := 6) scBa.nd rfl (Or.inl rfl)) (pgs_cons (pg_name (i := 7) scBa.nd rfl (Or.inl rfl)) pgs_nil)))))
      (pss_cons (ps_set (i := 8) scBa.nd rfl (Or.inl rfl) (pe_op op_mod (pv 0) pe_int))
      (pss_cons (ps_set (i := 9) scBa.nd rfl (Or.inl rfl) (pe_op op_fdiv (pv 0) pe_int))
      (pss_cons (ps_if (pt_cmpR op_eq (pv 8) pe_int (nomark _)) (pss_one (ps_ret (pe_tup (pa_cons (pe_tup (pa_cons pe_str (pa_cons (pv 4) (pa_cons (pe_ix ix_list (pe_lst (pa_cons (pe_un un_neg pe_int) (pa_cons pe_int (pa_cons (pe_op op_mul pe_int (pv 6)) pa_nil)))) (pe_op op_mod (pv 9) pe_int) (fun _ _ => rfl)) (pa_cons (pe_op op_mod (pv 9) pe_int) pa_nil))))) (pa_cons pe_str pa_nil))))) pss_nil)
      (pss_cons (ps_if (pt_cmpR op_eq (pv 8) pe_int (nomark _)) (pss_cons (ps_set (i := 10) scBa.nd rfl (Or.inl rfl) (pe_lst (pa_cons (pe_tup (pa_cons pe_str (pa_cons (pv 4) (pa_cons (pe_un un_neg pe_int) (pa_cons pe_int pa_nil))))) (pa_cons (pe_tup (pa_cons pe_str (pa_cons (pv 4) (pa_cons pe_int (pa_cons pe_int pa_nil))))) (pa_cons (pe_tup (pa_cons pe_str (pa_cons (pv 4) (pa_cons (pe_op op_mul pe_int (pv 6)) (pa_cons (pe_lst (pa_cons pe_int pa_nil)) pa_nil))))) (pa_cons (pe_tup (pa_cons pe_str (pa_cons (pv 4) pa_nil))) pa_nil))))))
      (pss_one (ps_ret (pe_tup (pa_cons (pe_ix ix_list (pv 10) (pe_op op_mod (pv 9) pe_int) (fun _ _ => rfl)) (pa_cons pe_str pa_nil)))))) pss_nil)
      (pss_cons (ps_if (pt_cmpR op_eq (pv 8) pe_int (nomark _)) (pss_one (ps_ret (pe_tup (pa_cons (pe_tup (pa_cons pe_str (pa_cons (pv 4) (pa_cons (pe_ix ix_list (pe_lst (pa_cons (pv 4) (pa_cons (pe_ix ix_tup (pv 2) pe_int (fun _ _ => rfl)) pa_nil))) (pe_op op_mod (pv 9) pe_int) (fun _ _ => rfl)) pa_nil)))) (pa_cons pe_str pa_nil))))) pss_nil)
      (pss_cons (ps_if (pt_cmpR op_eq (pv 8) pe_int (nomark _)) (pss_one (ps_ret (pe_tup (pa_cons (pe_tup (pa_cons pe_str (pa_cons (pv 5) (pa_cons (pv 6) (pa_cons (pe_ix ix_list (pe_lst (pa_cons pe_int (pa_cons (pe_un un_neg pe_int) (pa_cons (pe_un un_neg (pe_op op_pow pe_int pe_int)) pa_nil)))) (pe_op op_mod (pv 9) pe_int) (fun _ _ => rfl)) pa_nil))))) (pa_cons pe_str pa_nil))))) pss_nil)
      (pss_cons (ps_if (pt_cmpR op_eq (pv 8) pe_int (nomark _)) (pss_one (ps_ret (pe_tup (pa_cons (pe_tup (pa_cons pe_str (pa_cons (pv 5) (pa_cons (pe_ix ix_list (pe_lst (pa_cons (pe_un un_neg pe_int) (pa_cons (pe_call GFa (hr.mono (by decide)) g__law_far DFa.mg DFa.kp DFa.b .nil pass0 (pa_cons (pv 9) pa_nil)) (pa_cons (pe_op op_sub pe_int (pv 7)) pa_nil)))) (pe_op op_mod (pv 9) pe_int) (fun _ _ => rfl)) (pa_cons (pe_ix ix_list (pe_lst (pa_cons (pe_op op_add (pv 7) pe_int) (pa_cons pe_int (pa_cons (pe_op op_add (pv 7) pe_int) pa_nil)))) (pe_op op_mod (pv 9) pe_int) (fun _ _ => rfl)) pa_nil))))) (pa_cons pe_str pa_nil))))) pss_nil)
      (pss_cons (ps_if (pt_cmpR op_eq (pv 8) pe_int (nomark _)) (pss_one (ps_ret (pe_tup (pa_cons (pe_tup (pa_cons pe_str (pa_cons (pv 5) (pa_cons (pe_op op_sub (pe_op op_add (pv 6) (pv 7)) pe_int) (pa_cons (pe_op op_add pe_int (pe_op op_mod (pv 9) pe_int)) pa_nil))))) (pa_cons pe_str pa_nil))))) pss_nil)
      (pss_cons (ps_if (pt_cmpR op_eq (pv 8) pe_int (nomark _)) (pss_one (ps_ret (pe_tup (pa_cons (pe_tup (pa_cons pe_str (pa_cons (pv 5) (pa_cons pe_int (pa_cons (pe_op op_add (pv 6) pe_int) pa_nil))))) (pa_cons pe_str pa_nil))))) pss_nil)
      (pss_cons (ps_if (pt_cmpR op_eq (pv 8) pe_int (nomark _)) (pss_one (ps_ret (pe_tup (pa_cons (pe_tup (pa_cons pe_str (pa_cons (pv 5) (pa_cons (pe_op op_add (pv 6) (pv 7)) (pa_cons (pe_op op_add (pv 3) pe_int) pa_nil))))) (pa_cons pe_str pa_nil))))) pss_nil)
      (pss_cons (ps_if (pt_cmpR op_eq (pv 8) pe_int (nomark _)) (pss_one (ps_ret (pe_tup (pa_cons (pe_tup (pa_cons pe_str (pa_cons (pv 5) (pa_cons (pv 6) (pa_cons (pe_ix ix_list (pe_lst (pa_cons (pe_op op_add (pv 7) pe_int) (pa_cons pe_int (pa_cons (pe_un un_neg pe_int) (pa_cons (pe_op op_pow pe_int pe_int) pa_nil))))) (pe_op op_mod (pv 9) pe_int) (fun _ _ => rfl)) pa_nil))))) (pa_cons pe_str pa_nil))))) pss_nil)
      (pss_cons (ps_if (pt_cmpR op_eq (pv 8) pe_int (nomark _)) (pss_one (ps_ret (pe_tup (pa_cons (pe_tup (pa_cons pe_str (pa_cons (pv 5) (pa_cons (pe_ix ix_list (pe_lst (pa_cons (pe_op op_sub (pv 6) pe_int) (pa_cons (pe_op op_add (pv 6) (pv 7)) (pa_cons (pe_call GFa (hr.mono (by decide)) g__law_far DFa.mg DFa.kp DFa.b .nil pass0 (pa_cons (pv 9) pa_nil)) pa_nil)))) (pe_op op_mod (pv 9) pe_int) (fun _ _ => rfl)) (pa_cons (pe_op op_add pe_int (pe_op op_mod (pv 9) pe_int)) pa_nil))))) (pa_cons pe_str pa_nil))))) pss_nil)
      (pss_cons (ps_if (pt_cmpR op_eq (pv 8) pe_int (nomark _)) (pss_one (ps_ret (pe_tup (pa_cons (pe_tup (pa_cons pe_str (pa_cons (pv 5) (pa_cons (pe_op op_sub (pe_op op_mul pe_int (pv 6)) pe_int) (pa_cons (pe_op op_add pe_int (pe_op op_mod (pv 9) pe_int)) pa_nil))))) (pa_cons pe_str pa_nil))))) pss_nil)
      (pss_cons (ps_if (pt_cmpR op_eq (pv 8) pe_int (nomark _)) (pss_cons (ps_if (pt_cmpR op_eq (pe_op op_mod (pe_op op_fdiv (pv 9) pe_int) pe_int) pe_int (nomark _)) (pss_one (ps_ret (pe_tup (pa_cons (pe_tup (pa_cons pe_str (pa_cons (pv 5) (pa_cons (pe_op op_mul pe_int (pv 6)) (pa_cons (pe_un un_neg pe_int) pa_nil))))) (pa_cons pe_str pa_nil))))) pss_nil)
      (pss_one (ps_ret (pe_tup (pa_cons (pe_tup (pa_cons pe_str (pa_cons (pv 5) (pa_cons (pe_op op_sub (pe_op op_mul pe_int (pe_op op_add (pv 6) (pv 7))) (pe_op op_mod (pv 9) pe_int)) (pa_cons (pe_op op_add pe_int (pe_op op_mod (pv 9) pe_int)) pa_nil))))) (pa_cons pe_str pa_nil)))))) pss_nil)
      (pss_cons (ps_if (pt_cmpR op_eq (pv 8) pe_int (nomark _)) (pss_one (ps_ret (pe_tup (pa_cons (pe_tup (pa_cons pe_str (pa_cons (pv 5) (pa_cons (pe_op op_sub (pe_op op_mul pe_int (pe_op op_add (pv 6) (pv 7))) (pe_op op_mod (pv 9) pe_int)) (pa_cons (pe_lst (pa_cons pe_int (pa_cons pe_int (pa_cons pe_int (pa_cons pe_int pa_nil))))) pa_nil))))) (pa_cons pe_str pa_nil))))) pss_nil)
      (pss_one (ps_ret (pe_tup (pa_cons (pe_tup (pa_cons pe_str (pa_cons (pv 5) (pa_cons (pe_ix ix_list (pe_lst (pa_cons (pv 5) (pa_cons (pe_ix ix_tup (pv 2) pe_int (fun _ _ => rfl)) pa_nil))) (pe_op op_mod (pv 9) pe_int) (fun _ _ => rfl)) pa_nil)))) (pa_cons pe_str pa_nil))))))))))))))))))))), ?_⟩
    refine hids17 fun _ j17 _ j16 _ j15 _ j14 _ j13 _ j12 _ j11 _ j10 _ j9 _ j8 _ j7 _ j6 _ j5 _ j4 _ j3 _ j2 => ?_
    refine ⟨_, rfl, d1, _, rfl, SqT.of h1, rfl, .int t, [.int pg, .int m], rfl, .int pg, [.int m], rfl, .int m, [], rfl, rfl, ?_⟩
    refine j2 _ _ _ (hidN fun _ jt => ?_)
    refine ⟨_, rfl, _, _, rfl, rfl, (by show (0 : Int) < 14; decide), ?_⟩
    refine jt _ _ (j3 _ _ _ (hidN fun _ jt => ?_))
    refine ⟨_, rfl, _, _, rfl, rfl, ⟨by decide, by decide⟩, ?_⟩
    have q30 := Int.emod_nonneg (rest / 14) (show (3 : Int) ≠ 0 by decide)
    have q31 := Int.emod_lt_of_pos (rest / 14) (show (0 : Int) < 3 by decide)
    have q20 := Int.emod_nonneg (rest / 14) (show (2 : Int) ≠ 0 by decide)
    have q21 := Int.emod_lt_of_pos (rest / 14) (show (0 : Int) < 2 by decide)
    have q40 := Int.emod_nonneg (rest / 14) (show (4 : Int) ≠ 0 by decide)
    have q41 := Int.emod_lt_of_pos (rest / 14) (show (0 : Int) < 4 by decide)
    have q90 := Int.emod_nonneg (rest / 14) (show (9 : Int) ≠ 0 by decide)
    have q91 := Int.emod_lt_of_pos (rest / 14) (show (0 : Int) < 9 by decide)
    have q80 := Int.emod_nonneg (rest / 14) (show (8 : Int) ≠ 0 by decide)
    have q81 := Int.emod_lt_of_pos (rest / 14) (show (0 : Int) < 8 by decide)
    obtain ⟨p1, p2, m1, m2', f0, f1, t0, t20, n0, nn, _, _, ht⟩ := id B
    have fin : ∀ (H1 : Hp) (T1 T2 : Addr) (D : Deed) (X : Ref4), Same H H1 → DeedAt H1 T1 D → H1 T2 = none → Lg D → Due tot c D X → Q (.ref T2) (upd H1 T2 (.tup [.ref T1, .str (wordOf X)])) := fun H1 T1 T2 D X s hD hT lg du => k _ T2 T1 D X (s.trans (same_new hT)) upd_same (hD.same (same_new hT)) lg du
    refine jt _ _ (j4 _ _ _ ?_)
    refine hidCR fun _ ji je => ?_
    refine ⟨_, rfl, rfl, _, rfl, ?_⟩
    refine iteB (fun _ => ji _ (hidR fun _ jr => ?_)) (fun _ => je _ (j5 _ _ _ ?_))
    · obtain ⟨v, ev, hv⟩ := pick3 (-1) 0 (8 * pg) q30 q31
      refine ⟨_, rfl, consQ (ev_pick (ac (ev_u ev_c) (ac ev_c (ac (ev_i ev_c (ev_v rfl) (.inl ⟨by decide, by decide⟩)) an))) (by show 3 ≤ sizeLine; decide) (fun _ => (ev_i (ev_v rfl) ev_c (by show (0 : Int) < 3; decide))) ev fun l hl => (ac (ev_i (ev_v rfl) ev_c (by show (0 : Int) < 3; decide)) an) _ ⟨(by show 4 ≤ sizeLine; decide), fun T1 hT1 => ⟨(by show 2 ≤ sizeLine; decide), fun T2 hT2 => ?_⟩⟩)⟩
      exact jr _ _ (fin _ T1 T2 (.peek tn v ((rest / 14) % 3)) .noTask ((same_new hl).trans (same_new hT1)) upd_same hT2 (lgPeek B.ln (by (first | lia | omega)) (by (first | lia | omega)) (by (first | lia | omega)) (by (first | lia | omega))) (.inl ⟨nn, rfl⟩))
    refine hidC fun _ ji je => ?_
    refine ⟨_, rfl, rfl, _, rfl, ?_⟩
    refine iteB (fun _ => ji _ ?_) (fun _ => je _ (j6 _ _ _ ?_))
    · refine hidN fun _ jt => ?_
      refine ⟨_, rfl, _, rfl, (by show 4 ≤ sizeLine; decide), fun T1 hT1 => ⟨_, rfl, (by show 4 ≤ sizeLine; decide), fun T2 hT2 => ⟨_, rfl, _, rfl, _, _, rfl, rfl, .inl ⟨by decide, by decide⟩, (by show 1 ≤ sizeLine; decide), fun c3 hc3 => ⟨(by show 4 ≤ sizeLine; decide), fun T3 hT3 => ⟨_, rfl, (by show 2 ≤ sizeLine; decide), fun T4 hT4 => ⟨(by show 4 ≤ sizeLine; decide), fun l hl => ?_⟩⟩⟩⟩⟩⟩
      obtain ⟨v, ev, hv⟩ := atI4 (.ref T1) (.ref T2) (.ref T3) (.ref T4) q40 q41
      have u1 := same_new (X := .tup [.str "map", .int tn, .int (-1), .int 0]) hT1
      have e1 : (upd H T1 (.tup [.str "map", .int tn, .int (-1), .int 0])) T1 = _ := upd_same
      generalize upd H T1 (.tup [.str "map", .int tn, .int (-1), .int 0]) = H1 at *
      have u2 := same_new (X := .tup [.str "drop", .int tn, .int 0, .int 1]) hT2
      have e2 : (upd H1 T2 (.tup [.str "drop", .int tn, .int 0, .int 1])) T2 = _ := upd_same
      generalize upd H1 T2 (.tup [.str "drop", .int tn, .int 0, .int 1]) = H2 at *
      have u3 := same_new (X := .lst [.int 1]) hc3
      have e3 : (upd H2 c3 (.lst [.int 1])) c3 = _ := upd_same
      generalize upd H2 c3 (.lst [.int 1]) = H3 at *
      have u4 := same_new (X := .tup [.str "poke", .int tn, .int (8 * pg), .ref c3]) hT3
      have e4 : (upd H3 T3 (.tup [.str "poke", .int tn, .int (8 * pg), .ref c3])) T3 = _ := upd_same
      generalize upd H3 T3 (.tup [.str "poke", .int tn, .int (8 * pg), .ref c3]) = H4 at *
      have u5 := same_new (X := .tup [.str "close", .int tn]) hT4
      have e5 : (upd H4 T4 (.tup [.str "close", .int tn])) T4 = _ := upd_same
      generalize upd H4 T4 (.tup [.str "close", .int tn]) = H5 at *
      have u6 := same_new (X := .lst [.ref T1, .ref T2, .ref T3, .ref T4]) hl
      have U := ((((u1.trans u2).trans u3).trans u4).trans u5).trans u6
      refine jt _ _ (hidR fun _ jr => ?_)
      refine ⟨_, rfl, _, rfl, _, _, rfl, rfl, (by show (0 : Int) < 4; decide), l, _, _, v, rfl, rfl, SqL.of upd_same, ev, (by show 2 ≤ sizeLine; decide), fun T6 hT6 => ?_⟩
      rcases hv with ⟨_, rfl⟩ | ⟨_, rfl⟩ | ⟨_, rfl⟩ | ⟨_, rfl⟩
      · exact jr _ _ (fin _ T1 T6 (.map tn (-1) 0) .noTask U ((((u2.trans u3).trans u4).trans u5).trans u6 _ _ e1) hT6 ⟨B.ln, by decide, by decide⟩ (.inl ⟨nn, rfl⟩))
      · exact jr _ _ (fin _ T2 T6 (.drop tn 0 1) .noTask U (((u3.trans u4).trans u5).trans u6 _ _ e2) hT6 ⟨B.ln, by decide, by decide⟩ (.inl ⟨nn, rfl⟩))
      · exact jr _ _ (fin _ T3 T6 (.poke tn (8 * pg) [1]) .noTask U ⟨c3, (u5.trans u6) _ _ e4, ((u4.trans u5).trans u6) _ _ e3⟩ hT6 (lgPoke B.ln (by (first | lia | omega)) (by (first | lia | omega)) (by decide)) (.inl ⟨nn, rfl⟩))
      · exact jr _ _ (fin _ T4 T6 (.close tn) .noTask U (u6 _ _ e5) hT6 B.ln ⟨nn, rfl⟩)
    refine hidCR fun _ ji je => ?_
    refine ⟨_, rfl, rfl, _, rfl, ?_⟩
    refine iteB (fun _ => ji _ (hidR fun _ jr => ?_)) (fun _ => je _ (j7 _ _ _ ?_))
    · obtain ⟨v, ev, hv⟩ := pick2 tn t2 q20 q21
      refine ⟨_, rfl, consQ (ev_pick (ac (ev_v rfl) (ac (ev_T (ev_v rfl) ev_c (SqT.of h2) rfl) an)) (by show 2 ≤ sizeLine; decide) (fun _ => (ev_i (ev_v rfl) ev_c (by show (0 : Int) < 2; decide))) ev fun l hl => an _ ⟨(by show 3 ≤ sizeLine; decide), fun T1 hT1 => ⟨(by show 2 ≤ sizeLine; decide), fun T2 hT2 => ?_⟩⟩)⟩
      exact jr _ _ (fin _ T1 T2 (.copy tn v) .noTask ((same_new hl).trans (same_new hT1)) upd_same hT2 ⟨B.ln, by rcases hv with ⟨_, rfl⟩ | ⟨_, rfl⟩; exact B.ln; exact key_log t20.1 t20.2⟩ (.inl ⟨nn, rfl⟩))
    refine hidCR fun _ ji je => ?_
    refine ⟨_, rfl, rfl, _, rfl, ?_⟩
    refine iteB (fun _ => ji _ (hidR fun _ jr => ?_)) (fun _ => je _ (j8 _ _ _ ?_))
    · obtain ⟨v, ev, hv⟩ := pick3 0 (-1) (-((10 : Int) ^ Int.toNat 50)) q30 q31
      refine ⟨_, rfl, _, rfl, consQ (ev_pick (ac ev_c (ac (ev_u ev_c) (ac (ev_u (ev_i ev_c ev_c ⟨by decide, by decide, by decide⟩)) an))) (by show 3 ≤ sizeLine; decide) (fun _ => (ev_i (ev_v rfl) ev_c (by show (0 : Int) < 3; decide))) ev fun l hl => an _ ⟨(by show 4 ≤ sizeLine; decide), fun T1 hT1 => ⟨(by show 2 ≤ sizeLine; decide), fun T2 hT2 => ?_⟩⟩)⟩
      rw [p50] at hv
      exact jr _ _ (fin _ T1 T2 (.map t pg v) .noPage ((same_new hl).trans (same_new hT1)) upd_same hT2 ⟨B.lt, small_log (by (first | lia | omega)) (by (first | lia | omega)), big_log (by rw [p60]; (first | lia | omega)) (by rw [p60]; (first | lia | omega))⟩ (B.mapP (.inl (by (first | lia | omega)))))
    refine hidCR fun _ ji je => ?_
    refine ⟨_, rfl, rfl, _, rfl, ?_⟩
    refine iteB (fun _ => ji _ (hidR fun _ jr => ?_)) (fun _ => je _ (j9 _ _ _ ?_))
    · refine ⟨_, rfl, _, rfl, _, rfl, (rest / 14), rfl, fun n H1 n0' n1 s1 => ?_⟩
      obtain ⟨v, ev, hv⟩ := pick3 (-1) n (64 - m) q30 q31
      obtain ⟨u, eu, hu⟩ := pick3 (m + 1) 1 (m + 1) q30 q31
      refine ⟨_, rfl, _, _, rfl, rfl, (by show 3 ≤ sizeLine; decide), fun l hl => ⟨_, rfl, _, _, rfl, rfl, (by show (0 : Int) < 3; decide), l, _, _, .int v, rfl, rfl, SqL.of upd_same, ev, _, rfl, _, _, rfl, rfl, _, rfl, _, _, rfl, rfl, (by show 3 ≤ sizeLine; decide), fun l2 hl2 => ⟨_, rfl, _, _, rfl, rfl, (by show (0 : Int) < 3; decide), l2, _, _, .int u, rfl, rfl, SqL.of upd_same, eu, (by show 4 ≤ sizeLine; decide), fun T1 hT1 => ⟨(by show 2 ≤ sizeLine; decide), fun T2 hT2 => ?_⟩⟩⟩⟩
      rw [p59'] at n1
      exact jr _ _ (fin _ T1 T2 (.map t v u) .noPage (((s1.trans (same_new hl)).trans (same_new hl2)).trans (same_new hT1)) upd_same hT2 ⟨B.lt, big_log (by rw [p60]; (first | lia | omega)) (by rw [p60]; (first | lia | omega)), small_log (by (first | lia | omega)) (by (first | lia | omega))⟩ (B.mapP (by unfold noPages; (first | lia | omega))))
    refine hidCR fun _ ji je => ?_
    refine ⟨_, rfl, rfl, _, rfl, ?_⟩
    refine iteB (fun _ => ji _ (hidR fun _ jr => ?_)) (fun _ => je _ (j10 _ _ _ ?_))
    · refine ev_pair (ac ev_c (ac (ev_v rfl) (ac (ev_o (ev_o (ev_v rfl) (ev_v rfl)) ev_c) (ac (ev_o ev_c (ev_i (ev_v rfl) ev_c (by show (0 : Int) < 3; decide))) an)))) (by show 4 ≤ sizeLine; decide) fun T1 hT1 T2 hT2 => ?_
      exact jr _ _ (fin _ T1 T2 (.map t (pg + m - 1) (1 + (rest / 14) % 3)) .taken (same_new hT1) upd_same hT2 ⟨B.lt, small_log (by (first | lia | omega)) (by (first | lia | omega)), small_log (by (first | lia | omega)) (by (first | lia | omega))⟩ (B.mapT (q := pg + m - 1) (by unfold noPages; (first | lia | omega)) (by (first | lia | omega)) (by (first | lia | omega)) (by (first | lia | omega)) (by (first | lia | omega))))
    refine hidCR fun _ ji je => ?_
    refine ⟨_, rfl, rfl, _, rfl, ?_⟩
    refine iteB (fun _ => ji _ (hidR fun _ jr => ?_)) (fun _ => je _ (j11 _ _ _ ?_))
    · refine ev_pair (ac ev_c (ac (ev_v rfl) (ac ev_c (ac (ev_o (ev_v rfl) ev_c) an)))) (by show 4 ≤ sizeLine; decide) fun T1 hT1 T2 hT2 => ?_
      exact jr _ _ (fin _ T1 T2 (.map t 0 (pg + 1)) .taken (same_new hT1) upd_same hT2 ⟨B.lt, by decide, small_log (by (first | lia | omega)) (by (first | lia | omega))⟩ (B.mapT (q := pg) (by unfold noPages; (first | lia | omega)) (by (first | lia | omega)) (by (first | lia | omega)) (by (first | lia | omega)) (by (first | lia | omega))))
    refine hidCR fun _ ji je => ?_
    refine ⟨_, rfl, rfl, _, rfl, ?_⟩
    refine iteB (fun _ => ji _ (hidR fun _ jr => ?_)) (fun _ => je _ (j12 _ _ _ ?_))
    · refine ev_pair (ac ev_c (ac (ev_v rfl) (ac (ev_o (ev_v rfl) (ev_v rfl)) (ac (ev_o (ev_v rfl) ev_c) an)))) (by show 4 ≤ sizeLine; decide) fun T1 hT1 T2 hT2 => ?_
      exact jr _ _ (fin _ T1 T2 (.map t (pg + m) (free + 1)) .noRoom (same_new hT1) upd_same hT2 ⟨B.lt, small_log (by (first | lia | omega)) (by (first | lia | omega)), small_log (by (first | lia | omega)) (by (first | lia | omega))⟩ B.mapR)
    refine hidCR fun _ ji je => ?_
    refine ⟨_, rfl, rfl, _, rfl, ?_⟩
    refine iteB (fun _ => ji _ (hidR fun _ jr => ?_)) (fun _ => je _ (j13 _ _ _ ?_))
    · obtain ⟨v, ev, hv⟩ := pick4 (m + 1) 0 (-1) ((10 : Int) ^ Int.toNat 55) q40 q41
      refine ⟨_, rfl, _, rfl, consQ (ev_pick (ac (ev_o (ev_v rfl) ev_c) (ac ev_c (ac (ev_u ev_c) (ac (ev_i ev_c ev_c ⟨by decide, by decide, by decide⟩) an)))) (by show 4 ≤ sizeLine; decide) (fun _ => (ev_i (ev_v rfl) ev_c (by show (0 : Int) < 4; decide))) ev fun l hl => an _ ⟨(by show 4 ≤ sizeLine; decide), fun T1 hT1 => ⟨(by show 2 ≤ sizeLine; decide), fun T2 hT2 => ?_⟩⟩)⟩
      rw [p55] at hv
      refine jr _ _ (fin _ T1 T2 (.drop t pg v) .noPage ((same_new hl).trans (same_new hT1)) upd_same hT2 ⟨B.lt, small_log (by (first | lia | omega)) (by (first | lia | omega)), big_log (by rw [p60]; (first | lia | omega)) (by rw [p60]; (first | lia | omega))⟩ (B.dropP ?_))
      by_cases z : v = m + 1
      · exact .inr ⟨pg + m, by (first | lia | omega), by (first | lia | omega), by (first | lia | omega)⟩
      · exact .inl (by unfold noPages; (first | lia | omega))
    refine hidCR fun _ ji je => ?_
    refine ⟨_, rfl, rfl, _, rfl, ?_⟩
    refine iteB (fun _ => ji _ (hidR fun _ jr => ?_)) (fun _ => je _ (j14 _ _ _ ?_))
    · refine ⟨_, rfl, _, rfl, _, _, rfl, rfl, _, rfl, _, rfl, _, _, rfl, rfl, _, rfl, (rest / 14), rfl, fun n H1 n0' n1 s1 => ?_⟩
      obtain ⟨v, ev, hv⟩ := pick3 (pg - 1) (pg + m) n q30 q31
      refine ⟨(by show 3 ≤ sizeLine; decide), fun l hl => ⟨_, rfl, _, _, rfl, rfl, (by show (0 : Int) < 3; decide), l, _, _, .int v, rfl, rfl, SqL.of upd_same, ev, _, rfl, _, _, rfl, rfl, (by show (0 : Int) < 2; decide), _, _, rfl, rfl, (by show 4 ≤ sizeLine; decide), fun T1 hT1 => ⟨(by show 2 ≤ sizeLine; decide), fun T2 hT2 => ?_⟩⟩⟩
      rw [p59'] at n1
      refine jr _ _ (fin _ T1 T2 (.drop t v (1 + (rest / 14) % 2)) .noPage ((s1.trans (same_new hl)).trans (same_new hT1)) upd_same hT2 ⟨B.lt, big_log (by rw [p60]; (first | lia | omega)) (by rw [p60]; (first | lia | omega)), small_log (by (first | lia | omega)) (by (first | lia | omega))⟩ (B.dropP (.inr ⟨v, by (first | lia | omega), by (first | lia | omega), by (first | lia | omega)⟩)))
    refine hidCR fun _ ji je => ?_
    refine ⟨_, rfl, rfl, _, rfl, ?_⟩
    refine iteB (fun _ => ji _ (hidR fun _ jr => ?_)) (fun _ => je _ (j15 _ _ _ ?_))
    · refine ev_pair (ac ev_c (ac (ev_v rfl) (ac (ev_o (ev_i ev_c (ev_v rfl) (.inl ⟨by decide, by decide⟩)) ev_c) (ac (ev_o ev_c (ev_i (ev_v rfl) ev_c (by show (0 : Int) < 9; decide))) an)))) (by show 4 ≤ sizeLine; decide) fun T1 hT1 T2 hT2 => ?_
      exact jr _ _ (fin _ T1 T2 (.peek t (8 * pg - 1) (1 + (rest / 14) % 9)) .noPage (same_new hT1) upd_same hT2 (lgPeek B.lt (by (first | lia | omega)) (by (first | lia | omega)) (by (first | lia | omega)) (by (first | lia | omega))) (B.peekP (q := pg - 1) (by (first | lia | omega)) (by unfold cFst; (first | lia | omega)) (by unfold cFst cCnt; (first | lia | omega)) (by (first | lia | omega))))
    refine hidC fun _ ji je => ?_
    refine ⟨_, rfl, rfl, _, rfl, ?_⟩
    refine iteB (fun _ => ji _ ?_) (fun _ => je _ (j16 _ _ _ ?_))
    · refine hidCR fun _ ji je => ?_
      refine ⟨_, rfl, _, _, rfl, rfl, ⟨by decide, by decide⟩, _, _, rfl, rfl, (by show (0 : Int) < 2; decide), rfl, _, rfl, ?_⟩
      refine iteB (fun _ => ji _ (hidR fun _ jr => ?_)) (fun _ => je _ (hidR fun _ jr => ?_))
      · refine ev_pair (ac ev_c (ac (ev_v rfl) (ac (ev_i ev_c (ev_v rfl) (.inl ⟨by decide, by decide⟩)) (ac (ev_u ev_c) an)))) (by show 4 ≤ sizeLine; decide) fun T1 hT1 T2 hT2 => ?_
        obtain ⟨r, e1, e2⟩ := B.rm
        exact jr _ _ (fin _ T1 T2 (.peek t (8 * pg) (-1)) .noPage (same_new hT1) upd_same hT2 (lgPeek B.lt (by (first | lia | omega)) (by (first | lia | omega)) (by decide) (by decide)) (.inr ⟨r, e1, .inl (by decide), rfl⟩))
      · refine ev_pair (ac ev_c (ac (ev_v rfl) (ac (ev_o (ev_i ev_c (ev_o (ev_v rfl) (ev_v rfl)) (.inl ⟨by decide, by decide⟩)) (ev_i (ev_v rfl) ev_c (by show (0 : Int) < 8; decide))) (ac (ev_o ev_c (ev_i (ev_v rfl) ev_c (by show (0 : Int) < 8; decide))) an)))) (by show 4 ≤ sizeLine; decide) fun T1 hT1 T2 hT2 => ?_
        exact jr _ _ (fin _ T1 T2 (.peek t (8 * (pg + m) - (rest / 14) % 8) (9 + (rest / 14) % 8)) .noPage (same_new hT1) upd_same hT2 (lgPeek B.lt (by (first | lia | omega)) (by (first | lia | omega)) (by (first | lia | omega)) (by (first | lia | omega))) (B.peekP (q := pg + m) (by (first | lia | omega)) (by unfold cFst; (first | lia | omega)) (by unfold cFst cCnt; (first | lia | omega)) (by (first | lia | omega))))
    refine hidCR fun _ ji je => ?_
    refine ⟨_, rfl, rfl, _, rfl, ?_⟩
    refine iteB (fun _ => ji _ (hidR fun _ jr => ?_)) (fun _ => je _ (j17 _ _ _ ?_))
    · refine ⟨_, rfl, _, rfl, _, rfl, _, _, rfl, rfl, _, _, rfl, rfl, .inl ⟨by decide, by decide⟩, _, rfl, _, _, rfl, rfl, (by show (0 : Int) < 3; decide), _, _, rfl, rfl, (by show 4 ≤ sizeLine; decide), fun l hl => ⟨(by show 4 ≤ sizeLine; decide), fun T1 hT1 => ⟨(by show 2 ≤ sizeLine; decide), fun T2 hT2 => ?_⟩⟩⟩
      have el : (upd H l (.lst [.int 5, .int 6, .int 7, .int 8])) l = some (.lst ([5, 6, 7, 8].map V.int)) := upd_same
      have e4 : (([5, 6, 7, 8] : List Int).length : Int) = 4 := rfl
      exact jr _ _ (fin _ T1 T2 (.poke t (8 * (pg + m) - (rest / 14) % 3) [5, 6, 7, 8]) .noPage ((same_new hl).trans (same_new hT1)) ⟨l, upd_same, (same_new hT1) _ _ el⟩ hT2 (lgPoke B.lt (by (first | lia | omega)) (by (first | lia | omega)) (by decide)) (B.pokeP (q := pg + m) (by decide) (by unfold cFst; (first | lia | omega)) (by rw [e4]; unfold cFst cCnt; (first | lia | omega)) (by (first | lia | omega))))
    refine hidR fun _ jr => ?_
    obtain ⟨v, ev, hv⟩ := pick2 t t2 q20 q21
    refine ⟨_, rfl, consQ (ev_pick (ac (ev_v rfl) (ac (ev_T (ev_v rfl) ev_c (SqT.of h2) rfl) an)) (by show 2 ≤ sizeLine; decide) (fun _ => (ev_i (ev_v rfl) ev_c (by show (0 : Int) < 2; decide))) ev fun l hl => an _ ⟨(by show 3 ≤ sizeLine; decide), fun T1 hT1 => ⟨(by show 2 ≤ sizeLine; decide), fun T2 hT2 => ?_⟩⟩)⟩
    exact jr _ _ (fin _ T1 T2 (.copy t v) .taken ((same_new hl).trans (same_new hT1)) upd_same hT2 ⟨B.lt, by rcases hv with ⟨_, rfl⟩ | ⟨_, rfl⟩; exact B.lt; exact key_log t20.1 t20.2⟩ (B.copyT (by rcases hv with ⟨_, e⟩ | ⟨_, e⟩; exact .inl e; exact .inr e)))
end
end Rm

namespace Rm
open PySem L2
noncomputable def spLaw (K : PySem.W.Frag) : Sp := fun vs H Q _ => ∃ (a : Addr) (ns : List Int), vs = [.ref a] ∧ SqL K H a (ns.map V.int) ∧ ns.length ≤ 63 ∧ ∀ H', Q (.bl true) H'
theorem sql_kt {K : PySem.W.Frag} {H H' : Hp} {a : Addr} {xs : List V} (h : SqL K H a xs) (k : Kt H H') : SqL K H' a xs := by
  rcases h with (h | ⟨o, h⟩) | h
  · exact .inl (.inl (k _ _ h (by intro _ z; cases z)))
  · exact .inl (.inr ⟨o, k _ _ h (by intro _ z; cases z)⟩)
  · exact .inr h
noncomputable def Q4 (a b c d : Int) : Prop := (a ≠ b ∧ a ≠ c ∧ a ≠ d ∧ b ≠ c ∧ b ≠ d ∧ c ≠ d) ∧ (0 ≤ a ∧ a < 10 ^ 60) ∧ (0 ≤ b ∧ b < 10 ^ 60) ∧ (0 ≤ c ∧ c < 10 ^ 60) ∧ (0 ≤ d ∧ d < 10 ^ 60)
theorem Q4.rot {a b c d : Int} (q : Q4 a b c d) : Q4 b c d a := ⟨⟨q.1.2.2.2.1, q.1.2.2.2.2.1, Ne.symm q.1.1, q.1.2.2.2.2.2, Ne.symm q.1.2.1, Ne.symm q.1.2.2.1⟩, q.2.2.1, q.2.2.2.1, q.2.2.2.2, q.2.1⟩
theorem mods4 {n r : Int} (e : n % 4 = r) : (n + 1) % 4 = (r + 1) % 4 ∧ (n + 2) % 4 = (r + 2) % 4 ∧ (n + 3) % 4 = (r + 3) % 4 := by (first | lia | omega)
theorem q4_all {l : List V} {n r a b c d : Int} (q : Q4 a b c d) (e : n % 4 = r) (h0 : atI l r = some (.int a)) (h1 : atI l ((r + 1) % 4) = some (.int b)) (h2 : atI l ((r + 2) % 4) = some (.int c)) (h3 : atI l ((r + 3) % 4) = some (.int d)) : ∃ ta tb tc td : Int, atI l (n % 4) = some (.int ta) ∧ atI l ((n + 1) % 4) = some (.int tb) ∧ atI l ((n + 2) % 4) = some (.int tc) ∧ atI l ((n + 3) % 4) = some (.int td) ∧
    ta ≠ tb ∧ ta ≠ tc ∧ ta ≠ td ∧ tb ≠ tc ∧ tb ≠ td ∧ (0 ≤ ta ∧ ta < 10 ^ 60) ∧ (0 ≤ tb ∧ tb < 10 ^ 60) ∧ (0 ≤ tc ∧ tc < 10 ^ 60) ∧ (0 ≤ td ∧ td < 10 ^ 60) := by
  rw [(mods4 e).1, (mods4 e).2.1, (mods4 e).2.2, e]
  exact ⟨a, b, c, d, h0, h1, h2, h3, q.1.1, q.1.2.1, q.1.2.2.1, q.1.2.2.2.1, q.1.2.2.2.2.1, q.2⟩
theorem tasks4 {k3 k4 : Int} (h : 3 ≤ k3) (h' : k3 ≤ 11) (h4 : 12 ≤ k4) (h4' : k4 < 10 ^ 60) (n : Int) : ∃ ta tb tc td : Int, atI ([1, 2, k3, k4].map V.int) (n % 4) = some (.int ta) ∧ atI ([1, 2, k3, k4].map V.int) ((n + 1) % 4) = some (.int tb) ∧ atI ([1, 2, k3, k4].map V.int) ((n + 2) % 4) = some (.int tc) ∧ atI ([1, 2, k3, k4].map V.int) ((n + 3) % 4) = some (.int td) ∧
    ta ≠ tb ∧ ta ≠ tc ∧ ta ≠ td ∧ tb ≠ tc ∧ tb ≠ td ∧ (0 ≤ ta ∧ ta < 10 ^ 60) ∧ (0 ≤ tb ∧ tb < 10 ^ 60) ∧ (0 ≤ tc ∧ tc < 10 ^ 60) ∧ (0 ≤ td ∧ td < 10 ^ 60) := by
  have q : Q4 1 2 k3 k4 := by
    unfold Q4
    rw [p60] at h4' ⊢
    (first | lia | omega)
  have : n % 4 = 0 ∨ n % 4 = 1 ∨ n % 4 = 2 ∨ n % 4 = 3 := by (first | lia | omega)
  rcases this with e | e | e | e
  · exact q4_all q e rfl rfl rfl rfl
  · exact q4_all q.rot e rfl rfl rfl rfl
  · exact q4_all q.rot.rot e rfl rfl rfl rfl
  · exact q4_all q.rot.rot.rot e rfl rfl rfl rfl
theorem keys_len {r : List (Int × List Int)} {p m : Int} (h : keysC r = pagesL p m) : r.length = m.toNat := by
  have := congrArg List.length h
  unfold keysC pagesL at this
  rw [List.length_map, List.length_map, List.length_range] at this
  exact this
theorem poke_keys {R R' : Room} {ad : Int} {cs : List Int} (h : con R' = pokeC R ad cs) : keysR R' = keysR R := by
  rw [← con_keys, h]
  unfold pokeC
  rw [setAll_keys, con_keys]
theorem conW_app {W : Rms} {t : Int} {r : Addr} {R : Room} : conW (W ++ [(t, r, R)]) = conW W ++ [(t, con R)] := by unfold conW; rw [List.map_append]; rfl
theorem look_two0 {α : Type} {ta tb : Int} {r r2 : α} : look [(ta, r), (tb, r2)] ta = some r := by rw [look_cons, if_pos rfl]
theorem look_two1 {α : Type} {ta tb : Int} {r r2 : α} (h : ta ≠ tb) : look [(ta, r), (tb, r2)] tb = some r2 := by rw [look_cons, if_neg h, look_cons, if_pos rfl]
theorem look_two {α : Type} {ta tb t : Int} {r r2 : α} (h : ta ≠ t) (h2 : tb ≠ t) : look [(ta, r), (tb, r2)] t = none := by rw [look_cons, if_neg h, look_cons, if_neg h2, look_nil]
theorem look_one {α : Type} {ta t : Int} {r : α} (h : ta ≠ t) : look [(ta, r)] t = none := by rw [look_cons, if_neg h, look_nil]
theorem held2 {ta tb : Int} {r r2 : List (Int × List Int)} : heldC [(ta, r), (tb, r2)] = (r.length : Int) + r2.length := by
  show (r.length : Int) + ((r2.length : Int) + 0) = _
  (first | lia | omega)
theorem look_setA {α : Type} {k : Int} {a b : α} : ∀ {l : List (Int × α)}, look l k = some b → look (setA l k a) k = some a
  | [], h => by rw [look_nil] at h; cases h
  | x :: l, h => by
    show look ((if x.1 = k then (k, a) else x) :: setA l k a) k = some a
    by_cases e : x.1 = k
    · rw [if_pos e, look_cons, if_pos rfl]
    · rw [if_neg e, look_cons, if_neg e]
      rw [look_cons, if_neg e] at h
      exact look_setA h
theorem setA_snoc {α : Type} {k : Int} {a b : α} : ∀ {l : List (Int × α)}, look l k = none → setA (l ++ [(k, b)]) k a = l ++ [(k, a)]
  | [], _ => by show [if k = k then (k, a) else (k, b)] = [(k, a)]; rw [if_pos rfl]
  | x :: l, h => by
    rw [look_cons] at h
    by_cases e : x.1 = k
    · rw [if_pos e] at h; cases h
    · rw [if_neg e] at h
      show (if x.1 = k then (k, a) else x) :: setA (l ++ [(k, b)]) k a = x :: (l ++ [(k, a)])
      rw [if_neg e, setA_snoc h]
theorem del_two {α : Type} {ta tb : Int} {r r2 : α} (h : ta ≠ tb) : delA [(ta, r), (tb, r2)] ta = [(tb, r2)] := by
  unfold delA
  rw [List.filter_cons_of_neg (by simp), List.filter_cons_of_pos (by simp; exact Ne.symm h)]
  rfl
theorem set_two {α : Type} {ta tb : Int} {r r2 x : α} (h : ta ≠ tb) : setA [(ta, r), (tb, r2)] ta x = [(ta, x), (tb, r2)] := by
  show [if ta = ta then (ta, x) else (ta, r), if tb = ta then (ta, x) else (tb, r2)] = _
  rw [if_pos rfl, if_neg (Ne.symm h)]
theorem sz2 {ta tb tot : Int} {r r2 : List (Int × List Int)} (h : r.length ≤ 64) (h2 : r2.length ≤ 64) (lt : Lo tot) : Sz [(ta, r), (tb, r2)] tot := by
  refine ⟨by show 2 ≤ 1000; decide, fun x hx => ?_, lt⟩
  rcases List.mem_cons.mp hx with e | hx
  · rw [e]; exact h
  · rw [List.mem_singleton.mp hx]; exact h2
section
variable {P : Program} {w : World} {K : PySem.W.Frag} {mg : Str → Option Value} {base : Heap}
theorem scLaw : FnScope ["_law_script", "_law_first", "_law_tasks_here", "_law_one", "_law_other", "_law_free", "_law_rooms", "_law_task", "_law_page", "_law_many", "_law_state_here", "_law_k", "_law_cell", "_law_bad_here", "_law_word_here"] ["_law_script"] (defScope sLaw) := ⟨rfl, rfl, rfl, by decide +kernel, rfl, by decide +kernel, by decide +kernel⟩
set_option maxHeartbeats 8000000 in
theorem ok_law {f C fI fNu fTs fTo fSt fBa fNc fSm fFu : Addr} {cl4 : Ref4 → Addr} {fd dI dNu dTs dTo dSt dBa dNc dSm dFu : FuncData} (F : Fun K "law" "law" sLaw f fd) (T : MTxt mg) (M : Kit P w K mg base C cl4)
    (mgC : mg "PlainRooms" = some (.ref C)) (MK : Mk K C fI) (GI : FnOk P w K mg base CX0 1 fI dI ["self", "total"] (spInit C)) (bI : Binds K dI ["self", "total"] [])
    (GNu : FnOk P w K mg base CX0 1 fNu dNu ["_law_cell", "_law_k", "_law_digits"] spNumber) (DNu : Def K mg "_law_number" fNu dNu ["_law_cell", "_law_k", "_law_digits"])
    (GTs : FnOk P w K mg base CX0 1 fTs dTs ["_law_cell"] spTasks) (DTs : Def K mg "_law_tasks" fTs dTs ["_law_cell"])
    (GTo : FnOk P w K mg base CX0 5 fTo dTo ["_law_rooms", "_law_deed"] (spTold C)) (DTo : Def K mg "_law_told" fTo dTo ["_law_rooms", "_law_deed"])
    (GSt : FnOk P w K mg base CX0 4 fSt dSt ["_law_rooms", "_law_shape"] (spState C)) (DSt : Def K mg "_law_state" fSt dSt ["_law_rooms", "_law_shape"])
    (GBa : FnOk P w K mg base CX0 2 fBa dBa ["_law_rest", "_law_one", "_law_other", "_law_free", "_law_none"] spBad) (DBa : Def K mg "_law_bad" fBa dBa ["_law_rest", "_law_one", "_law_other", "_law_free", "_law_none"])
    (GNc : FnOk P w K mg base CX0 6 fNc dNc ["_law_rooms", "_law_one", "_law_rest"] (spNoCells C)) (DNc : Def K mg "_law_no_cells" fNc dNc ["_law_rooms", "_law_one", "_law_rest"])
    (GSm : FnOk P w K mg base CX0 6 fSm dSm ["_law_total", "_law_task"] spSmall) (DSm : Def K mg "_law_small" fSm dSm ["_law_total", "_law_task"])
    (GFu : FnOk P w K mg base CX0 6 fFu dFu ["_law_rooms", "_law_one", "_law_free", "_law_extra"] (spFull C)) (DFu : Def K mg "_law_full" fFu dFu ["_law_rooms", "_law_one", "_law_free", "_law_extra"]) :
    FnOk P w K mg base CX0 7 f fd ["_law_script"] (spLaw K) := by
  refine F.ok scLaw (fun vs H Q E h => ?_) (fun cdv A outer s H vs Q E hr h => ?_)
  · obtain ⟨a, ns, rfl, _⟩ := h
    rfl
  · obtain ⟨sc, ns, rfl, hsc, hns, k⟩ := h
    have hs : sizeLine = 16777216 := sizeLine_eq
    have g_sum : (defScope sLaw).names.lookup ("sum" : Str) = some NameKind.globalImplicit := by decide +kernel
    have g__law_tasks : (defScope sLaw).names.lookup ("_law_tasks" : Str) = some NameKind.globalImplicit := by decide +kernel
    have g_PlainRooms : (defScope sLaw).names.lookup ("PlainRooms" : Str) = some NameKind.globalImplicit := by decide +kernel
    have g__law_state : (defScope sLaw).names.lookup ("_law_state" : Str) = some NameKind.globalImplicit := by decide +kernel
    have g__law_small : (defScope sLaw).names.lookup ("_law_small" : Str) = some NameKind.globalImplicit := by decide +kernel
    have g_enumerate : (defScope sLaw).names.lookup ("enumerate" : Str) = some NameKind.globalImplicit := by decide +kernel
    have g__law_bad : (defScope sLaw).names.lookup ("_law_bad" : Str) = some NameKind.globalImplicit := by decide +kernel
    have g__law_number : (defScope sLaw).names.lookup ("_law_number" : Str) = some NameKind.globalImplicit := by decide +kernel
    have g__law_told : (defScope sLaw).names.lookup ("_law_told" : Str) = some NameKind.globalImplicit := by decide +kernel
    have g__law_no_cells : (defScope sLaw).names.lookup ("_law_no_cells" : Str) = some NameKind.globalImplicit := by decide +kernel
    have g__law_full : (defScope sLaw).names.lookup ("_law_full" : Str) = some NameKind.globalImplicit := by decide +kernel
    refine ⟨_, (pss_cons (ps_set (i := 1) scLaw.nd rfl (Or.inl rfl) (pe_callB (call_sum rfl) g_sum T.sum bt_sum (pa_cons (pe_slice sl_list (pv 0) po_none (po_some pe_int)) pa_nil)))
      (pss_cons (ps_set (i := 2) scLaw.nd rfl (Or.inl rfl) (pe_call GTs (hr.mono (by decide)) g__law_tasks DTs.mg DTs.kp DTs.b .nil pass0 (pa_cons (pe_op op_fdiv (pv 1) pe_int) pa_nil)))
      (pss_cons (ps_set (i := 3) scLaw.nd rfl (Or.inl rfl) (pe_tup (pa_cons (pe_ix ix_list (pv 2) (pe_op op_mod (pv 1) pe_int) (fun _ _ => rfl)) (pa_cons (pe_op op_add pe_int (pe_op op_mod (pe_op op_fdiv (pv 1) pe_int) pe_int)) (pa_cons (pe_op op_add pe_int (pe_op op_mod (pe_op op_fdiv (pv 1) pe_int) pe_int)) pa_nil)))))
      (pss_cons (ps_set (i := 4) scLaw.nd rfl (Or.inl rfl) (pe_tup (pa_cons (pe_ix ix_list (pv 2) (pe_op op_mod (pe_op op_add (pv 1) pe_int) pe_int) (fun _ _ => rfl)) (pa_cons (pe_op op_mod (pe_op op_fdiv (pv 1) pe_int) pe_int) (pa_cons (pe_op op_add pe_int (pe_op op_mod (pe_op op_fdiv (pv 1) pe_int) pe_int)) pa_nil)))))
      (pss_cons (ps_set (i := 5) scLaw.nd rfl (Or.inl rfl) (pe_op op_mod (pe_op op_fdiv (pv 1) pe_int) pe_int))
      (pss_cons (ps_set (i := 6) scLaw.nd rfl (Or.inl rfl) (pe_make MK GI (hr.mono (by decide)) g_PlainRooms mgC bI .nil pass0 (pa_cons (pe_op op_add (pe_op op_add (pe_ix ix_tup (pv 3) pe_int (fun _ _ => rfl)) (pe_ix ix_tup (pv 4) pe_int (fun _ _ => rfl))) (pv 5)) pa_nil)))
      (pss_cons (ps_for PassesOwn.never rfl (pi_list (pe_lst (pa_cons (pv 3) (pa_cons (pv 4) pa_nil)))) (pg_tup rfl (pgs_cons (pg_name (i := 7) scLaw.nd rfl (Or.inl rfl)) (pgs_cons (pg_name (i := 8) scLaw.nd rfl (Or.inl rfl)) (pgs_cons (pg_name (i := 9) scLaw.nd rfl (Or.inl rfl)) pgs_nil)))) (pss_cons (ps_expr (pe_meth (pv 6) M.cl M.mBe M.GBe (hr.mono (by decide)) M.bBe .nil pass1 (pa_cons (pv 7) pa_nil)))
      (pss_cons (ps_expr (pe_meth (pv 6) M.cl M.mMp M.GMp (hr.mono (by decide)) M.bMp .nil pass1 (pa_cons (pv 7) (pa_cons (pv 8) (pa_cons (pv 9) pa_nil)))))
      (pss_one (ps_expr (pe_meth (pv 6) M.cl M.mPk M.GPk (hr.mono (by decide)) M.bPk .nil pass1 (pa_cons (pv 7) (pa_cons (pe_op op_mul pe_int (pv 8)) (pa_cons (pe_lst (pa_cons (pe_op op_add (pv 8) pe_int) (pa_cons (pv 9) (pa_cons pe_int pa_nil)))) pa_nil)))))))))
      (pss_cons (ps_set (i := 10) scLaw.nd rfl (Or.inl rfl) (pe_call GSt (hr.mono (by decide)) g__law_state DSt.mg DSt.kp DSt.b .nil pass0 (pa_cons (pv 6) (pa_cons (pe_lst (pa_cons (pv 3) (pa_cons (pv 4) pa_nil))) pa_nil))))
      (pss_cons (ps_if (pt_not (pt_val (pe_call GSm (hr.mono (by decide)) g__law_small DSm.mg DSm.kp DSm.b .nil pass0 (pa_cons (pe_op op_mod (pv 1) pe_int) (pa_cons (pe_ix ix_list (pv 2) (pe_op op_mod (pv 1) pe_int) (fun _ _ => rfl)) pa_nil))))) (pss_one (ps_ret pe_bl)) pss_nil)
      (pss_cons (ps_for PassesOwn.never rfl (pi_enum g_enumerate T.enumerate (pa_cons (pe_slice sl_list (pv 0) po_none (po_some pe_int)) pa_nil)) (pg_tup rfl (pgs_cons (pg_name (i := 11) scLaw.nd rfl (Or.inl rfl)) (pgs_cons (pg_name (i := 12) scLaw.nd rfl (Or.inl rfl)) pgs_nil))) (pss_cons (ps_asg (pe_call GBa (hr.mono (by decide)) g__law_bad DBa.mg DBa.kp DBa.b .nil pass0 (pa_cons (pe_call GNu (hr.mono (by decide)) g__law_number DNu.mg DNu.kp DNu.b .nil pass0 (pa_cons (pv 12) (pa_cons (pv 11) (pa_cons (pe_cmpR op_eq (pe_op op_mod (pe_op op_fdiv (pv 1) pe_int) pe_int) pe_int (nomark _)) pa_nil)))) (pa_cons (pv 3) (pa_cons (pv 4) (pa_cons (pv 5) (pa_cons (pe_ix ix_list (pv 2) (pe_op op_mod (pe_op op_add (pv 1) pe_int) pe_int) (fun _ _ => rfl)) pa_nil)))))) (pg_tup rfl (pgs_cons (pg_name (i := 13) scLaw.nd rfl (Or.inl rfl)) (pgs_cons (pg_name (i := 14) scLaw.nd rfl (Or.inl rfl)) pgs_nil))))
      (pss_cons (ps_if (PW.pt (pw_or (pt_cmpR (op_neT hr.units0) (pe_call GTo (hr.mono (by decide)) g__law_told DTo.mg DTo.kp DTo.b .nil pass0 (pa_cons (pv 6) (pa_cons (pv 13) pa_nil))) (pe_tup (pa_cons pe_non (pa_cons (pv 14) pa_nil))) (nomark _)) (pw_or1 (pt_not (pt_val (pe_call GNc (hr.mono (by decide)) g__law_no_cells DNc.mg DNc.kp DNc.b .nil pass0 (pa_cons (pv 6) (pa_cons (pv 3) (pa_cons (pv 12) pa_nil))))))))) (pss_one (ps_ret pe_bl)) pss_nil)
      (pss_one (ps_if (pt_cmpR (op_neD 1 (Nat.lt_of_le_of_lt (Nat.add_le_add_left (by decide : 2 ≤ 64) _) hr.units)) (pe_call GSt (hr.mono (by decide)) g__law_state DSt.mg DSt.kp DSt.b .nil pass0 (pa_cons (pv 6) (pa_cons (pe_lst (pa_cons (pv 3) (pa_cons (pv 4) pa_nil))) pa_nil))) (pv 10) (nomark _)) (pss_one (ps_ret pe_bl)) pss_nil)))))
      (pss_cons (ps_if (PW.pt (pw_or (pt_not (pt_val (pe_call GFu (hr.mono (by decide)) g__law_full DFu.mg DFu.kp DFu.b .nil pass0 (pa_cons (pv 6) (pa_cons (pv 3) (pa_cons (pv 5) (pa_cons (pe_ix ix_list (pv 2) (pe_op op_mod (pe_op op_add (pv 1) pe_int) pe_int) (fun _ _ => rfl)) pa_nil))))))) (pw_or1 (pt_cmpR (op_neD 1 (Nat.lt_of_le_of_lt (Nat.add_le_add_left (by decide : 2 ≤ 64) _) hr.units)) (pe_call GSt (hr.mono (by decide)) g__law_state DSt.mg DSt.kp DSt.b .nil pass0 (pa_cons (pv 6) (pa_cons (pe_lst (pa_cons (pv 3) (pa_cons (pv 4) pa_nil))) pa_nil))) (pv 10) (nomark _))))) (pss_one (ps_ret pe_bl)) pss_nil)
      (pss_cons (ps_if (PW.pt (pw_and (pt_cmpR op_gt (pv 5) pe_int (nomark _)) (pw_and (pt_cmpR op_lt (pe_op op_add (pe_ix ix_tup (pv 3) pe_int (fun _ _ => rfl)) (pe_ix ix_tup (pv 3) pe_int (fun _ _ => rfl))) pe_int (nomark _)) (pw_and1 (pt_cmpR (op_neT hr.units0) (pe_call GTo (hr.mono (by decide)) g__law_told DTo.mg DTo.kp DTo.b .nil pass0 (pa_cons (pv 6) (pa_cons (pe_tup (pa_cons pe_str (pa_cons (pe_ix ix_tup (pv 3) pe_int (fun _ _ => rfl)) (pa_cons (pe_op op_add (pe_ix ix_tup (pv 3) pe_int (fun _ _ => rfl)) (pe_ix ix_tup (pv 3) pe_int (fun _ _ => rfl))) (pa_cons pe_int pa_nil))))) pa_nil))) (pe_tup (pa_cons pe_non (pa_cons pe_str pa_nil))) (nomark _)))))) (pss_one (ps_ret pe_bl)) pss_nil)
      (pss_cons (ps_expr (pe_meth (pv 6) M.cl M.mCl M.GCl (hr.mono (by decide)) M.bCl .nil pass1 (pa_cons (pe_ix ix_tup (pv 3) pe_int (fun _ _ => rfl)) pa_nil)))
      (pss_cons (ps_if (PW.pt (pw_or (pt_cmpR op_ne (pe_meth0 (pv 6) M.cl M.mH M.GH (hr.mono (by decide)) M.bH .nil pass0) (pe_ix ix_tup (pv 4) pe_int (fun _ _ => rfl)) (nomark _)) (pw_or1 (pt_cmpR (op_neT hr.units0) (pe_call GTo (hr.mono (by decide)) g__law_told DTo.mg DTo.kp DTo.b .nil pass0 (pa_cons (pv 6) (pa_cons (pe_tup (pa_cons pe_str (pa_cons (pe_ix ix_tup (pv 3) pe_int (fun _ _ => rfl)) pa_nil))) pa_nil))) (pe_tup (pa_cons pe_non (pa_cons pe_str pa_nil))) (nomark _))))) (pss_one (ps_ret pe_bl)) pss_nil)
      (pss_cons (ps_expr (pe_meth (pv 6) M.cl M.mBe M.GBe (hr.mono (by decide)) M.bBe .nil pass1 (pa_cons (pe_ix ix_tup (pv 3) pe_int (fun _ _ => rfl)) pa_nil)))
      (pss_one (ps_ret (pe_and (pe_cmpR op_eq (pe_meth0 (pv 6) M.cl M.mH M.GH (hr.mono (by decide)) M.bH .nil pass0) (pe_ix ix_tup (pv 4) pe_int (fun _ _ => rfl)) (nomark _)) (pe_one (pe_cmpR (op_eqT hr.units0) (pe_call GTo (hr.mono (by decide)) g__law_told DTo.mg DTo.kp DTo.b .nil pass0 (pa_cons (pv 6) (pa_cons (pe_tup (pa_cons pe_str (pa_cons (pe_ix ix_tup (pv 3) pe_int (fun _ _ => rfl)) (pa_cons (pe_op op_mul pe_int (pe_ix ix_tup (pv 3) pe_int (fun _ _ => rfl))) (pa_cons pe_int pa_nil))))) pa_nil))) (pe_tup (pa_cons pe_non (pa_cons pe_str pa_nil))) (nomark _))))))))))))))))))))), ?_⟩
    refine hids16 fun _ j16 _ j15 _ j14 _ j13 _ j12 _ j11 _ j10 _ j9 _ j8 _ j7 _ j6 _ j5 _ j4 _ j3 _ j2 => ?_
    refine hidN fun _ jt => ?_
    have ec : ∀ n : Nat, cutV (ns.map V.int) none (some (n : Int)) = (ns.take n).map V.int := fun n => cut_to
    have ec1 : cutV (ns.map V.int) none (some 1) = (ns.take 1).map V.int := ec 1
    have ec63 : cutV (ns.map V.int) none (some 63) = (ns.take 63).map V.int := ec 63
    refine ⟨_, rfl, _, rfl, sc, _, rfl, hsc, fun l1 hl1 => ?_⟩
    rw [ec1]
    have s1 := same_new (X := .lst ((ns.take 1).map V.int)) hl1
    refine ⟨l1, ns.take 1, rfl, SqL.of upd_same, ?_⟩
    generalize (ns.take 1).sum = fs
    generalize upd H l1 (.lst ((ns.take 1).map V.int)) = H1 at *
    refine jt _ _ (j2 _ _ _ (hidN fun _ jt => ?_))
    refine ⟨_, rfl, _, _, rfl, rfl, ⟨by decide, by decide⟩, fs / 2, rfl, fun k3 k4 H2 l2 u1 u2 u3 u4 s2 nl2 hl2 => ?_⟩
    obtain ⟨ta, tb, tc, td, ea, eb, ec', ed, nab, nac, nad, nbc, nbd, ba, bb, bc, bd⟩ := tasks4 u1 u2 u3 u4 fs
    obtain ⟨p1, ep1⟩ : ∃ p1 : Int, p1 = 1 + fs / 4 % 50 := ⟨_, rfl⟩
    obtain ⟨m1, em1⟩ : ∃ m1 : Int, m1 = 1 + fs / 200 % 5 := ⟨_, rfl⟩
    obtain ⟨p2, ep2⟩ : ∃ p2 : Int, p2 = fs / 1000 % 60 := ⟨_, rfl⟩
    obtain ⟨m2, em2⟩ : ∃ m2 : Int, m2 = 1 + fs / 200 % 3 := ⟨_, rfl⟩
    obtain ⟨fr, efr⟩ : ∃ fr : Int, fr = fs / 7 % 6 := ⟨_, rfl⟩
    have hp1 : 1 ≤ p1 ∧ p1 ≤ 50 := by (first | lia | omega)
    have hm1 : 1 ≤ m1 ∧ m1 ≤ 5 := by (first | lia | omega)
    have hp2 : 0 ≤ p2 ∧ p2 ≤ 59 := by (first | lia | omega)
    have hm2 : 1 ≤ m2 ∧ m2 ≤ 3 := by (first | lia | omega)
    have hfr : 0 ≤ fr ∧ fr ≤ 5 := by (first | lia | omega)
    refine jt _ _ (j3 _ _ _ (hidN fun _ jt => ?_))
    refine ev_tup (ac (ev_L (ev_v rfl) (ev_i (ev_v rfl) ev_c (by show (0 : Int) < 4; decide)) (SqL.of hl2) ea) (ac (ev_o ev_c (ev_i (ev_i (ev_v rfl) ev_c ⟨by decide, by decide⟩) ev_c (by show (0 : Int) < 50; decide))) (ac (ev_o ev_c (ev_i (ev_i (ev_v rfl) ev_c ⟨by decide, by decide⟩) ev_c (by show (0 : Int) < 5; decide))) an))) (by show 3 ≤ sizeLine; decide) fun d1 hd1 => ?_
    try dsimp only
    rw [← ep1, ← em1]
    have s3 := same_new (X := .tup [.int ta, .int p1, .int m1]) hd1
    have hD1 : (upd H2 d1 (.tup [.int ta, .int p1, .int m1])) d1 = some (.tup [.int ta, .int p1, .int m1]) := upd_same
    generalize upd H2 d1 (.tup [.int ta, .int p1, .int m1]) = H3 at *
    refine jt _ _ (j4 _ _ _ (hidN fun _ jt => ?_))
    refine ev_tup (ac (ev_L (ev_v rfl) (ev_i (ev_o (ev_v rfl) ev_c) ev_c (by show (0 : Int) < 4; decide)) (SqL.of (s3 _ _ hl2)) eb) (ac (ev_i (ev_i (ev_v rfl) ev_c ⟨by decide, by decide⟩) ev_c (by show (0 : Int) < 60; decide)) (ac (ev_o ev_c (ev_i (ev_i (ev_v rfl) ev_c ⟨by decide, by decide⟩) ev_c (by show (0 : Int) < 3; decide))) an))) (by show 3 ≤ sizeLine; decide) fun d2 hd2 => ?_
    try dsimp only
    rw [← ep2, ← em2]
    have s4 := same_new (X := .tup [.int tb, .int p2, .int m2]) hd2
    have hD2 : (upd H3 d2 (.tup [.int tb, .int p2, .int m2])) d2 = some (.tup [.int tb, .int p2, .int m2]) := upd_same
    generalize upd H3 d2 (.tup [.int tb, .int p2, .int m2]) = H4 at *
    refine jt _ _ (j5 _ _ _ (hidN fun _ jt => ?_))
    refine ⟨_, rfl, _, _, rfl, rfl, ⟨by decide, by decide⟩, _, _, rfl, rfl, (by show (0 : Int) < 6; decide), ?_⟩
    try dsimp only
    rw [← efr]
    refine jt _ _ (j6 _ _ _ (hidN fun _ jt => ?_))
    refine (ac (ev_o (ev_o (ev_T (ev_v rfl) ev_c (SqT.of (s4 _ _ hD1)) rfl) (ev_T (ev_v rfl) ev_c (SqT.of hD2) rfl)) (ev_v rfl)) an) _ fun p dx np ndx ne0 => ⟨p, dx, _, rfl, upd_same, fun H5 a ha D5 o5 => ⟨rfl, ?_⟩⟩
    obtain ⟨tot, etot⟩ : ∃ tot : Int, tot = m1 + m2 + fr := ⟨_, rfl⟩
    rw [← etot] at D5
    have s0 : Same H4 (upd (upd H4 dx (.own p)) p (.ins C dx [])) := fun b u e => by rw [upd_ne (ne_of_none e np), upd_ne (ne_of_none e ndx)]; exact e
    have s5 : Same H4 H5 := fun b u e => o5 b u (s0 _ _ e) (ne_of_none e np)
    have hD1' : H5 d1 = some (.tup [.int ta, .int p1, .int m1]) := s5 _ _ (s4 _ _ hD1)
    have hD2' : H5 d2 = some (.tup [.int tb, .int p2, .int m2]) := s5 _ _ hD2
    have hl2' : H5 l2 = some (.lst ([1, 2, k3, k4].map V.int)) := s5 _ _ (s4 _ _ (s3 _ _ hl2))
    have kt0 : Kt H H5 := Kt.same ((((s1.trans s2).trans s3).trans s4).trans s5)
    clear s1 s2 s3 s4 s5 s0 hD1 hD2 hl2 nl2 hd1 hd2 hl1 o5 ha np ndx ne0
    have lt : Lo tot := small_log (by (first | lia | omega)) (by (first | lia | omega))
    refine jt _ _ (j7 _ _ _ (hidSF fun _ _ jb jt => ?_))
    refine ⟨_, rfl, _, rfl, (by show 2 ≤ sizeLine; decide), fun l6 hl6 => ?_⟩
    have s6 := same_new (X := .lst [.ref d1, .ref d2]) hl6
    have e6 : (upd H5 l6 (.lst [.ref d1, .ref d2])) l6 = some (.lst [.ref d1, .ref d2]) := upd_same
    have D6 := D5.same s6
    have kt6 := kt0.trans (Kt.same s6)
    have hD1 := s6 _ _ hD1'
    have hD2 := s6 _ _ hD2'
    have hl2 := s6 _ _ hl2'
    generalize upd H5 l6 (.lst [.ref d1, .ref d2]) = H6 at *
    clear hD1' hD2' hl2' kt0 D5 s6 hl6
    have no : ∀ m : Str, ¬ m = "rooms" → ¬ m = "total" → (flds tot a).lookup m = none := fun m => flds_no _ _
    have nBe := no "begin" (by decide +kernel) (by decide +kernel)
    have nMp := no "map" (by decide +kernel) (by decide +kernel)
    have nPk := no "poke" (by decide +kernel) (by decide +kernel)
    have nH := no "held" (by decide +kernel) (by decide +kernel)
    have nCl := no "close" (by decide +kernel) (by decide +kernel)
    refine ⟨l6, rfl, ⟨_, SqL.of e6⟩, ?_⟩
    refine for_list (K := K) (a := l6) (xs := [.ref d1, .ref d2]) (fun i σ H7 => ∃ (v7 v8 v9 : Option V) (W : Rms), σ = [some (.ref sc), some (.int fs), some (.ref l2), some (.ref d1), some (.ref d2), some (.int fr), some (.ref p), v7, v8, v9, none, none, none, none, none] ∧ PRAt C H7 p a tot W ∧ Kt H6 H7 ∧
        ((i = 0 ∧ conW W = []) ∨ (i = 1 ∧ ∃ c1, conW W = [(ta, c1)] ∧ keysC c1 = pagesL p1 m1) ∨ (i = 2 ∧ ∃ c1 c2, conW W = [(ta, c1), (tb, c2)] ∧ keysC c1 = pagesL p1 m1 ∧ keysC c2 = pagesL p2 m2)))
      ⟨_, _, _, [], rfl, D6, Kt.same (Same.refl _), .inl ⟨rfl, rfl⟩⟩ (fun i σ H7 _ z0 => by obtain ⟨_, _, _, _, _, _, kt, _⟩ := z0; exact SqL.of (kt.lst e6)) ?_ ?_
    · rintro i x σ H7 hx ⟨v7, v8, v9, W, rfl, D7, kt7, hW⟩
      obtain ⟨d, t, pg, m, rfl, hd, bt, bg, hn, hh, hln, hlm, out⟩ : ∃ (d : Addr) (t pg m : Int), x = .ref d ∧ H7 d = some (.tup [.int t, .int pg, .int m]) ∧ (0 ≤ t ∧ t < 10 ^ 60) ∧ (0 ≤ pg ∧ 1 ≤ m ∧ pg + m ≤ 64 ∧ m ≤ 5) ∧ look (conW W) t = none ∧ heldC (conW W) + m ≤ tot ∧ (conW W).length ≤ 1 ∧ (∀ x ∈ conW W, x.2.length ≤ 64) ∧
          ∀ (W' : Rms) (c' : List (Int × List Int)), conW W' = conW W ++ [(t, c')] → keysC c' = pagesL pg m →
            ((i + 1 = 0 ∧ conW W' = []) ∨ (i + 1 = 1 ∧ ∃ c1, conW W' = [(ta, c1)] ∧ keysC c1 = pagesL p1 m1) ∨ (i + 1 = 2 ∧ ∃ c1 c2, conW W' = [(ta, c1), (tb, c2)] ∧ keysC c1 = pagesL p1 m1 ∧ keysC c2 = pagesL p2 m2)) := by
        rcases hW with ⟨rfl, e⟩ | ⟨rfl, c1, e, e1⟩ | ⟨rfl, _⟩
        · refine ⟨d1, ta, p1, m1, (Option.some.inj hx).symm, kt7.tup hD1, ba, by (first | lia | omega), by rw [e]; rfl, ?_, by rw [e]; decide, (fun x hx => by rw [e] at hx; cases hx), fun W' c' h1 h2 => .inr (.inl ⟨rfl, c', by rw [h1, e]; rfl, h2⟩)⟩
          rw [e]
          show (0 : Int) + m1 ≤ tot
          (first | lia | omega)
        · have l1 := keys_len e1
          refine ⟨d2, tb, p2, m2, (Option.some.inj hx).symm, kt7.tup hD2, bb, by (first | lia | omega), by rw [e]; exact look_one nab, ?_, by rw [e]; show 1 ≤ 1; decide, (fun x hx => by rw [e] at hx; rw [List.mem_singleton.mp hx]; show c1.length ≤ 64; (first | lia | omega)), fun W' c' h1 h2 => .inr (.inr ⟨rfl, c1, c', by rw [h1, e]; rfl, e1, h2⟩)⟩
          rw [e]
          show ((c1.length : Int) + 0) + m2 ≤ tot
          (first | lia | omega)
        · cases hx
      obtain ⟨dx7, h7⟩ := id D7.ob
      refine ⟨d, _, rfl, SqT.of hd, rfl, .int t, [.int pg, .int m], rfl, .int pg, [.int m], rfl, .int m, [], rfl, rfl, ?_⟩
      have hnW := lookW0 hn
      have lW : W.length ≤ 1 := by rw [← conW_len]; exact hln
      have lo := key_log bt.1 bt.2
      refine jb _ _ _ (hidD fun _ ju => ?_)
      refine ⟨_, rfl, p, dx7, _, rfl, h7, nBe, _, rfl, (nilQ (spBegin_in p a tot t W D7 lo (by (first | lia | omega)) ((fun zq1_0 => by obtain ⟨x, hx⟩ := zq1_0; exact absurd (hx.symm.trans hnW) (by simp))) (fun _ H8 r hr8 D8 o8 => ?_)))⟩
      have k8 : Kt H7 H8 := Kt.off D7.R.hd o8
      obtain ⟨dx8, h8⟩ := id D8.ob
      have lk8 : look (W ++ [(t, r, ([] : Room))]) t = some (r, []) := by rw [look_snoc _ hnW, if_pos rfl]
      have wl : ∀ x ∈ W, x.2.2.length ≤ 64 := fun x hx => by
        have := hlm (x.1, con x.2.2) (List.mem_map.mpr ⟨x, hx, rfl⟩)
        rw [← con_len]
        exact this
      have hl8 : ∀ x ∈ W ++ [(t, r, ([] : Room))], x.2.2.length ≤ 64 := fun x hx => by
        rcases List.mem_append.mp hx with h | h
        · exact wl x h
        · rw [List.mem_singleton.mp h]; exact Nat.zero_le _
      have hh8 : heldW (W ++ [(t, r, ([] : Room))]) = heldC (conW W) := by
        rw [held_c, conW_app]
        unfold heldC
        rw [List.map_append, List.sum_append]
        show _ + ((0 : Int) + 0) = _
        (first | lia | omega)
      refine ju _ _ (hidD fun _ ju => ?_)
      refine ⟨_, rfl, p, dx8, _, rfl, h8, nMp, (ac (ev_v rfl) (ac (ev_v rfl) (ac (ev_v rfl) an))) _ ⟨p, a, tot, t, pg, m, _, rfl, D8, lo, small_log (by (first | lia | omega)) (by (first | lia | omega)), small_log (by (first | lia | omega)) (by (first | lia | omega)), by rw [List.length_append]; show W.length + 1 ≤ 1000; (first | lia | omega), hl8, lt, fun e => absurd (e.symm.trans lk8) (by simp), fun x hx hb => ?_, fun x hx _ hb => ?_, fun x hx _ _ hb => ?_, fun x hx _ _ _ H9 N9 hN hz8 D9 o9 => ?_⟩⟩
      · rcases hb with h | h | h <;> (first | lia | omega)
      · obtain rfl : x = (r, []) := Option.some.inj (hx.symm.trans lk8)
        obtain ⟨q, _, hq⟩ := hb
        cases hq
      · rw [hh8] at hb; (first | lia | omega)
      obtain rfl : x = (r, []) := Option.some.inj (hx.symm.trans lk8)
      have k9 : Kt H8 H9 := Kt.off (D8.R.rm _ (look_mem lk8)).hd o9
      obtain ⟨W9, e9⟩ : ∃ W9, W9 = setA (W ++ [(t, r, ([] : Room))]) t (r, [] ++ N9) := ⟨_, rfl⟩
      have lk9 : look W9 t = some (r, [] ++ N9) := by rw [e9]; exact look_setA lk8
      have cW9 : conW W9 = conW W ++ [(t, con N9)] := by
        rw [e9, conW_set, conW_app]
        exact setA_snoc hn
      have D9 : PRAt C H9 p a tot W9 := by rw [e9]; exact D9
      clear e9
      have lN : N9.length = m.toNat := by
        have := congrArg List.length hN
        unfold pagesL at this
        rw [List.length_map, List.length_map, List.length_range] at this
        exact this
      have hl9 : ∀ x ∈ W9, x.2.2.length ≤ 1000 := fun x hx => by
        have h1 : (x.1, con x.2.2) ∈ conW W9 := List.mem_map.mpr ⟨x, hx, rfl⟩
        rw [cW9] at h1
        rw [← con_len]
        rcases List.mem_append.mp h1 with h | h
        · exact Nat.le_trans (hlm _ h) (by decide)
        · have := List.mem_singleton.mp h
          rw [(Prod.mk.inj this).2, con_len]
          (first | lia | omega)
      obtain ⟨dx9, h9⟩ := id D9.ob
      refine ju _ _ (hidDL fun _ jv => ?_)
      refine ⟨_, rfl, p, dx9, _, rfl, h9, nPk, ev_cons (ev_v rfl) (ev_cons (ev_i ev_c (ev_v rfl) (.inl ⟨by decide, by decide⟩)) (consQ (ev_lst (ac (ev_o (ev_v rfl) ev_c) (ac (ev_v rfl) (ac ev_c an))) (by show 3 ≤ sizeLine; decide) fun l10 hl10 => ?_)))⟩
      have s10 := same_new (X := .lst [.int (pg + 1), .int m, .int 200]) hl10
      obtain ⟨f1, f2⟩ := one_pageI (q := pg) (at' := 0) (n := 3) (by decide) (by decide) (by decide)
      rw [Int.add_zero] at f1 f2
      refine ⟨p, a, l10, tot, t, 8 * pg, [pg + 1, m, 200], W9, rfl, D9.same s10, SqL.of upd_same, (by show 3 ≤ 500; decide), lo, by rw [f1]; exact small_log (by (first | lia | omega)) (by (first | lia | omega)), (by show Lo (cCnt (8 * pg) 3); rw [f2]; decide), hl9, fun e => absurd (e.symm.trans lk9) (by simp), fun x' hx' hb => ?_, fun x' hx' hb H11 R' hc hf D11 o11 => ?_⟩
      · obtain rfl : x' = (r, [] ++ N9) := Option.some.inj (hx'.symm.trans lk9)
        refine absurd hb (one_goodI (q := pg) f1 f2 (by (first | lia | omega)) (by (first | lia | omega)) (by show (1 : Int) ≤ 3; decide) ?_)
        show pg ∈ N9.map (·.1)
        rw [hN]
        exact page_mem.mpr ⟨by (first | lia | omega), by (first | lia | omega)⟩
      · obtain rfl : x' = (r, [] ++ N9) := Option.some.inj (hx'.symm.trans lk9)
        refine jv _ _ ⟨_, _, _, _, rfl, D11, ((kt7.trans k8).trans k9).trans ((Kt.same s10).trans (Kt.off ((D9.same s10).R.rm _ (look_mem lk9)).hd o11)), out _ (con R') ?_ ?_⟩
        · rw [conW_set, cW9]
          exact setA_snoc hn
        · rw [keysC_con, poke_keys hc]
          exact hN
    rintro σ H7 ⟨v7, v8, v9, W, rfl, D7, kt7, hW⟩
    obtain ⟨c1, c2, eW, k1, k2⟩ : ∃ c1 c2, conW W = [(ta, c1), (tb, c2)] ∧ keysC c1 = pagesL p1 m1 ∧ keysC c2 = pagesL p2 m2 := by
      rcases hW with ⟨h, _⟩ | ⟨h, _⟩ | ⟨_, h⟩
      · cases h
      · cases h
      · exact h
    have lc1 := keys_len k1
    have lc2 := keys_len k2
    obtain ⟨c, hc⟩ : ∃ c : Wc, c = [(ta, c1), (tb, c2)] := ⟨_, rfl⟩
    rw [← hc] at eW
    have la : look c ta = some c1 := by rw [hc]; exact look_two0
    have lb : look c tb = some c2 := by rw [hc]; exact look_two1 nab
    have lcn : look c tc = none := by rw [hc]; exact look_two nac nbc
    have ldn : look c td = none := by rw [hc]; exact look_two nad nbd
    have hhc : heldC c = m1 + m2 := by rw [hc, held2]; (first | lia | omega)
    have sz : Sz c tot := by rw [hc]; exact sz2 (by (first | lia | omega)) (by (first | lia | omega)) lt
    have S1 : Sh c ta p1 m1 := ⟨by (first | lia | omega), by (first | lia | omega), by (first | lia | omega), ba.1, ba.2, c1, la, fun q hq => by rw [k1]; exact hq⟩
    have S2 : Sh c tb p2 m2 := ⟨by (first | lia | omega), by (first | lia | omega), by (first | lia | omega), bb.1, bb.2, c2, lb, fun q hq => by rw [k2]; exact hq⟩
    have B : Bd c tot ta p1 m1 tb fr tc := ⟨hp1.1, hp1.2, hm1.1, hm1.2, hfr.1, hfr.2, ba, bb, bc, lcn, ⟨c1, la, k1⟩, ⟨c2, lb⟩, by (first | lia | omega)⟩
    have hds : ∀ {H8 : Hp} {c' : Wc}, c' = c → H8 d1 = some (.tup [.int ta, .int p1, .int m1]) → H8 d2 = some (.tup [.int tb, .int p2, .int m2]) → ∀ d ∈ ([(d1, ta, p1, m1), (d2, tb, p2, m2)] : Shp), H8 d.1 = some (.tup [.int d.2.1, .int d.2.2.1, .int d.2.2.2]) ∧ Sh c' d.2.1 d.2.2.1 d.2.2.2 := fun {H8 c'} e h1 h2 d hd => by
      subst e
      rcases List.mem_cons.mp hd with e | hd
      · rw [e]; exact ⟨h1, S1⟩
      · rw [List.mem_singleton.mp hd]; exact ⟨h2, S2⟩
    have hD1 := kt7.tup hD1
    have hD2 := kt7.tup hD2
    have hl2 := kt7.lst hl2
    have kt7 := kt6.trans kt7
    clear kt6 e6 D6 hW
    refine jt _ _ _ (j8 _ _ _ (hidN fun _ jt => ?_))
    refine ⟨_, rfl, _, rfl, _, rfl, (by show 2 ≤ sizeLine; decide), fun l8 hl8 => ?_⟩
    have s8 := same_new (X := .lst [.ref d1, .ref d2]) hl8
    refine nilQ (spState_in p a l8 tot W ([(d1, ta, p1, m1), (d2, tb, p2, m2)]) (D7.same s8) (by rw [eW]; exact sz) upd_same ((by show 2 ≤ 2; decide)) (hds eW (s8 _ _ hD1) (s8 _ _ hD2)) (fun H9 ls as ac => ?_))
    rw [eW] at ac
    have S9 := s8.trans ac.sm
    have so := ac.so
    clear ac s8 hl8
    refine jt _ _ (j9 _ _ _ (hidCR fun _ _ je => ?_))
    refine ⟨_, rfl, _, _, rfl, rfl, (by show (0 : Int) < 2; decide), (ac (ev_L (ev_v rfl) (ev_i (ev_v rfl) ev_c (by show (0 : Int) < 4; decide)) (SqL.of (S9 _ _ hl2)) ea) an) _ ⟨fs % 2, ta, rfl, by (first | lia | omega), by (first | lia | omega), ba.1, ba.2, fun H10 s10 => ⟨true, rfl, ?_⟩⟩⟩
    have S10 := S9.trans s10
    have D10 := D7.same S10
    have so10 := so.kt (Kt.same s10)
    have hsc10 := sql_kt hsc (kt7.trans (Kt.same S10))
    have hD1 := S10 _ _ hD1
    have hD2 := S10 _ _ hD2
    have hl2 := S10 _ _ hl2
    clear S9 S10 s10 D7 so kt7 hsc
    refine je _ (j10 _ _ _ (hidSF fun _ _ jb jt => ?_))
    refine ⟨_, rfl, _, rfl, sc, _, rfl, hsc10, fun l11 hl11 => ?_⟩
    rw [ec63]
    have s11 := same_new (X := .lst ((ns.take 63).map V.int)) hl11
    have e11 : (upd H10 l11 (.lst ((ns.take 63).map V.int))) l11 = some (.lst ((ns.take 63).map V.int)) := upd_same
    have D11 := D10.same s11
    have so11 := so10.kt (Kt.same s11)
    have hD1 := s11 _ _ hD1
    have hD2 := s11 _ _ hD2
    have hl2 := s11 _ _ hl2
    generalize upd H10 l11 (.lst ((ns.take 63).map V.int)) = H11 at *
    clear s11 hl11 so10 D10 hsc10
    refine ⟨l11, rfl, ⟨_, SqL.of e11⟩, ?_⟩
    refine for_enum (K := K) (a := l11) (xs := (ns.take 63).map V.int) (fun i σ H12 => ∃ (v11 v12 v13 v14 : Option V) (W : Rms), σ = [some (.ref sc), some (.int fs), some (.ref l2), some (.ref d1), some (.ref d2), some (.int fr), some (.ref p), v7, v8, v9, some (.ref ls), v11, v12, v13, v14] ∧ PRAt C H12 p a tot W ∧ conW W = c ∧ Kt H11 H12)
      ⟨_, _, _, _, W, rfl, D11, eW, Kt.same (Same.refl _)⟩ (fun i σ H12 _ z0 => by obtain ⟨_, _, _, _, _, _, _, _, kt⟩ := z0; exact SqL.of (kt.lst e11)) ?_ ?_
    · rintro i x σ H12 T12 hx hT ⟨v11, v12, v13, v14, W, rfl, D12, eW, kt⟩
      rw [List.getElem?_map] at hx
      obtain ⟨ce, hce, rfl⟩ := Option.map_eq_some_iff.mp hx
      have s13 := same_new (X := .tup [.int i, .int ce]) hT
      refine ⟨T12, [.int i, .int ce], rfl, SqT.of upd_same, rfl, .int i, [.int ce], rfl, .int ce, [], rfl, rfl, ?_⟩
      have D13 := D12.same s13
      have k13 := kt.trans (Kt.same s13)
      generalize upd H12 T12 (.tup [.int i, .int ce]) = H13 at *
      refine jb _ _ _ (hidA fun _ ju => ?_)
      refine ⟨_, rfl, _, rfl, _, rfl, _, _, rfl, rfl, ⟨by decide, by decide⟩, _, _, rfl, rfl, (by show (0 : Int) < 2; decide), rfl, ce, i, _, rfl, fun n => ?_⟩
      refine (ac (ev_v rfl) (ac (ev_v rfl) (ac (ev_v rfl) (ac (ev_L (ev_v rfl) (ev_i (ev_o (ev_v rfl) ev_c) ev_c (by show (0 : Int) < 4; decide)) (SqL.of (k13.lst hl2)) ec') an)))) _ ⟨d1, d2, c, tot, ta, p1, m1, tb, p2, m2, fr, tc, n, rfl, k13.tup hD1, k13.tup hD2, B, fun H14 T14 db Db X s14 hT14 hDb lgb du => ?_⟩
      refine ju _ _ ⟨T14, _, rfl, SqT.of hT14, rfl, .ref db, [.str (wordOf X)], rfl, .str (wordOf X), [], rfl, rfl, ?_⟩
      have D14 := D13.same s14
      have k14 := k13.trans (Kt.same s14)
      refine hidCR fun _ _ jv => ?_
      refine ⟨_, rfl, _, rfl, (nilQ (spTold_in p a db tot W Db D14 hDb lgb (by rw [eW]; exact sz) (.inl ⟨X, by rw [eW]; exact du, fun H15 T15 s15 hT15 => ?_⟩)))⟩
      refine ⟨_, rfl, (by show 2 ≤ sizeLine; decide), fun T16 hT16 => ?_⟩
      have s16 := same_new (X := .tup [.non, .str (wordOf X)]) hT16
      refine ⟨T15, T16, _, _, rfl, rfl, SqT.of (s16 _ _ hT15), SqT.of upd_same, rfl, rfl, _, rfl, ?_⟩
      rw [eq2]
      refine iteF ?_
      have S16 := s15.trans s16
      have D16 := D14.same S16
      have k16 := k14.trans (Kt.same S16)
      generalize upd H15 T16 (.tup [.non, .str (wordOf X)]) = H16 at *
      refine ⟨_, rfl, _, rfl, _, rfl, p, a, d1, tot, W, ta, p1, m1, ce, rfl, D16, by rw [eW]; exact sz, k16.tup hD1, ba.1, ba.2, by (first | lia | omega), by (first | lia | omega), by (first | lia | omega), by (first | lia | omega), ⟨c1, by rw [eW]; exact la⟩, fun H17 W17 D17 e17 k17 => ⟨true, rfl, ?_⟩⟩
      have eW17 : conW W17 = c := e17.trans eW
      have k17 := k16.trans k17
      refine jv _ (hidCL fun _ _ jv => ?_)
      refine ⟨_, rfl, _, rfl, _, rfl, (by show 2 ≤ sizeLine; decide), fun l18 hl18 => ?_⟩
      have s18 := same_new (X := .lst [.ref d1, .ref d2]) hl18
      have k18 := k17.trans (Kt.same s18)
      refine nilQ (spState_in p a l18 tot W17 ([(d1, ta, p1, m1), (d2, tb, p2, m2)]) (D17.same s18) (by rw [eW17]; exact sz) upd_same ((by show 2 ≤ 2; decide)) (hds eW17 (k18.tup hD1) (k18.tup hD2)) (fun H19 l19 as19 ac => ?_))
      rw [eW17] at ac
      have S19 := s18.trans ac.sm
      refine ⟨_, rfl, l19, ls, _, _, rfl, rfl, SqL.of ac.el, SqL.of (ac.sm _ _ (so11.kt k18).el), ac.deep (show So _ ls (heldC c) (rowsD c [(d1, ta, p1, m1), (d2, tb, p2, m2)]) as from so11.kt k18), false, rfl, ?_⟩
      exact jv _ ⟨_, _, _, _, W17, rfl, D17.same S19, eW17, k17.trans (Kt.same S19)⟩
    rintro σ H12 ⟨v11, v12, v13, v14, W, rfl, D12, eW, kt⟩
    have hD1 := kt.tup hD1
    have hD2 := kt.tup hD2
    have hl2 := kt.lst hl2
    have so12 := so11.kt kt
    clear so11 e11 D11 kt
    refine jt _ _ _ (j11 _ _ _ (hidCR fun _ _ je => ?_))
    refine ⟨_, rfl, (ac (ev_v rfl) (ac (ev_v rfl) (ac (ev_L (ev_v rfl) (ev_i (ev_o (ev_v rfl) ev_c) ev_c (by show (0 : Int) < 4; decide)) (SqL.of hl2) ed) an))) _ ⟨p, a, d1, tot, W, ta, p1, m1, fr, td, c1, rfl, D12, by rw [eW]; exact sz, hD1, ba.1, ba.2, bd.1, bd.2, by rw [eW]; exact la, by (first | lia | omega), by rw [eW]; exact ldn, by rw [eW]; (first | lia | omega), fun H13 s13 => ⟨true, rfl, iteF ?_⟩⟩⟩
    have D13 := D12.same s13
    have so13 := so12.kt (Kt.same s13)
    have hD1 := s13 _ _ hD1
    have hD2 := s13 _ _ hD2
    clear s13 D12 so12 hl2
    refine ⟨_, rfl, _, rfl, _, rfl, (by show 2 ≤ sizeLine; decide), fun l18 hl18 => ?_⟩
    have s18 := same_new (X := .lst [.ref d1, .ref d2]) hl18
    refine nilQ (spState_in p a l18 tot W ([(d1, ta, p1, m1), (d2, tb, p2, m2)]) (D13.same s18) (by rw [eW]; exact sz) upd_same ((by show 2 ≤ 2; decide)) (hds eW (s18 _ _ hD1) (s18 _ _ hD2)) (fun H19 l19 as19 ac => ?_))
    rw [eW] at ac
    have S19 := s18.trans ac.sm
    have so18 := so13.kt (Kt.same s18)
    refine ⟨_, rfl, l19, ls, _, _, rfl, rfl, SqL.of ac.el, SqL.of (ac.sm _ _ so18.el), ac.deep so18, false, rfl, ?_⟩
    have D19 := D13.same S19
    have hD1 := S19 _ _ hD1
    have hD2 := S19 _ _ hD2
    clear ac so18 so13 S19 s18 hl18 D13
    refine je _ (j12 _ _ _ ?_)
    refine shareC (fun σ H20 => ∃ (W : Rms) (r : List (Int × List Int)), σ = [some (.ref sc), some (.int fs), some (.ref l2), some (.ref d1), some (.ref d2), some (.int fr), some (.ref p), v7, v8, v9, some (.ref ls), v11, v12, v13, v14] ∧ PRAt C H20 p a tot W ∧ conW W = [(ta, r), (tb, c2)] ∧ r.length ≤ 64 ∧ H20 d1 = some (.tup [.int ta, .int p1, .int m1]) ∧ H20 d2 = some (.tup [.int tb, .int p2, .int m2])) (fun _ _ _ key => ?A) ?C
    case A =>
      refine ⟨_, rfl, _, _, rfl, rfl, _, rfl, ?_⟩
      refine ite2 (fun cf => ?_) (fun cf => key _ ⟨W, c1, rfl, D19, by rw [eW]; exact hc, by (first | lia | omega), hD1, hD2⟩)
      have cf' : (0 : Int) < fr := of_decide_eq_true cf
      refine ⟨_, rfl, d1, _, _, .int p1, rfl, rfl, SqT.of hD1, rfl, _, rfl, d1, _, _, .int m1, rfl, rfl, SqT.of hD1, rfl, _, _, rfl, rfl, _, _, rfl, rfl, _, rfl, ?_⟩
      rw [decide_eq_true (show p1 + m1 < 64 by (first | lia | omega))]
      refine iteT ?_
      refine ⟨_, rfl, consQ (ev_tup (ac ev_c (ac (ev_T (ev_v rfl) ev_c (SqT.of hD1) rfl) (ac (ev_o (ev_T (ev_v rfl) ev_c (SqT.of hD1) rfl) (ev_T (ev_v rfl) ev_c (SqT.of hD1) rfl)) (ac ev_c an)))) (by show 4 ≤ sizeLine; decide) fun T20 hT20 => ?_)⟩
      have s20 := same_new (X := .tup [.str "map", .int ta, .int (p1 + m1), .int 1]) hT20
      refine nilQ (spTold_in p a T20 tot W (.map ta (p1 + m1) 1) (D19.same s20) upd_same (⟨key_log ba.1 ba.2, small_log (by (first | lia | omega)) (by (first | lia | omega)), by decide⟩) (by rw [eW]; exact sz) (.inr ⟨_, ⟨c1, by rw [eW]; exact la, by rintro (h | h | h) <;> (first | lia | omega), fun q hq => ?_, by rw [eW]; (first | lia | omega), rfl⟩, fun H21 W21 T21 D21 e21 a21 o21 hT21 => ?_⟩))
      · rw [k1, page_mem]
        have := page_mem.mp hq
        (first | lia | omega)
      have k21 := (Kt.same s20).trans (o21.kt (D19.same s20).R)
      refine ⟨(by show 2 ≤ sizeLine; decide), fun T22 hT22 => ?_⟩
      have s22 := same_new (X := .tup [.non, .str ""]) hT22
      refine ⟨T21, T22, _, _, rfl, rfl, SqT.of (s22 _ _ hT21), SqT.of upd_same, rfl, rfl, _, rfl, ?_⟩
      rw [eq2]
      refine key _ ⟨W21, _, rfl, D21.same s22, by rw [e21, eW, hc]; exact set_two nab, ?_, s22 _ _ (k21.tup hD1), s22 _ _ (k21.tup hD2)⟩
      rw [List.length_append, List.length_map]
      show c1.length + (pagesL (p1 + m1) 1).length ≤ 64
      rw [show (pagesL (p1 + m1) 1).length = 1 from rfl]
      (first | lia | omega)
    clear D19 hD1 hD2 eW W hc la lb lcn ldn hhc sz S1 S2 B hds
    rintro σ H20 ⟨W, r, rfl, D20, eW, lr, hD1, hD2⟩
    obtain ⟨dx20, h20⟩ := id D20.ob
    have loa := key_log ba.1 ba.2
    obtain ⟨xa, hxa, exa⟩ := lookW (W := W) (t := ta) (by rw [eW]; exact look_two0)
    refine j13 _ _ _ (hidD fun _ jt => ?_)
    refine ⟨_, rfl, p, dx20, _, rfl, h20, nCl, (ac (ev_T (ev_v rfl) ev_c (SqT.of hD1) rfl) an) _ ⟨p, a, tot, ta, W, rfl, D20, loa, fun e => absurd (e.symm.trans hxa) (by simp), fun _ H21 D21 o21 => ?_⟩⟩
    have k21 : Kt H20 H21 := Kt.off D20.R.hd o21
    have eW21 : conW (delA W ta) = [(tb, c2)] := by rw [conW_del, eW]; exact del_two nab
    have hD1 := k21.tup hD1
    have hD2 := k21.tup hD2
    obtain ⟨W1, eW1⟩ : ∃ W1, W1 = delA W ta := ⟨_, rfl⟩
    rw [← eW1] at D21 eW21
    clear eW1 k21 o21 D20 h20 eW
    have h21h : heldW W1 = m2 := by rw [held_c, eW21]; show (c2.length : Int) + 0 = m2; (first | lia | omega)
    have l21 : W1.length ≤ 1000 := by rw [← conW_len, eW21]; show 1 ≤ 1000; decide
    have nta : look (conW W1) ta = none := by rw [eW21]; exact look_one (Ne.symm nab)
    have sz1 : Sz (conW W1) tot := by rw [eW21]; exact ⟨by show 1 ≤ 1000; decide, fun x hx => by rw [List.mem_singleton.mp hx]; show c2.length ≤ 64; (first | lia | omega), lt⟩
    obtain ⟨dx21, h21⟩ := id D21.ob
    refine jt _ _ (j14 _ _ _ (hidCR fun _ _ je => ?_))
    refine ⟨_, rfl, p, dx21, _, rfl, h21, nH, (nilQ (spHeld_in p a tot W1 D21 l21 (fun H22 s22 => ⟨_, rfl, d2, _, _, .int m2, rfl, rfl, SqT.of (s22 _ _ hD2), rfl, rfl, _, rfl, ?_⟩)))⟩
    rw [h21h, decide_eq_true rfl]
    refine iteF ?_
    refine ⟨_, rfl, _, rfl, d1, _, _, .int ta, rfl, rfl, SqT.of (s22 _ _ hD1), rfl, (by show 2 ≤ sizeLine; decide), fun T23 hT23 => ?_⟩
    have s23 := same_new (X := .tup [.str "close", .int ta]) hT23
    have D23 := D21.same (s22.trans s23)
    refine nilQ (spTold_in p a T23 tot W1 (.close ta) D23 upd_same loa sz1 (.inl ⟨.noTask, ⟨nta, rfl⟩, fun H24 T24 s24 hT24 => ?_⟩))
    refine ⟨(by show 2 ≤ sizeLine; decide), fun T25 hT25 => ?_⟩
    have s25 := same_new (X := .tup [.non, .str "NoTask"]) hT25
    refine ⟨T24, T25, _, _, rfl, rfl, SqT.of (s25 _ _ hT24), SqT.of upd_same, rfl, rfl, _, rfl, ?_⟩
    rw [show wordOf .noTask = "NoTask" from rfl, eq2]
    have S25 := ((s22.trans s23).trans s24).trans s25
    have D25 := D21.same S25
    have hD1 := S25 _ _ hD1
    have hD2 := S25 _ _ hD2
    generalize upd H24 T25 (.tup [.non, .str "NoTask"]) = H25 at *
    clear S25 s25 s24 s23 s22 D23 D21 h21
    obtain ⟨dx25, h25⟩ := id D25.ob
    refine je _ (j15 _ _ _ (hidD fun _ jt => ?_))
    refine ⟨_, rfl, p, dx25, _, rfl, h25, nBe, _, rfl, d1, _, _, .int ta, rfl, rfl, SqT.of hD1, rfl, (nilQ (spBegin_in p a tot ta W1 D25 loa l21 ((fun zq2_0 => by obtain ⟨x, hx⟩ := zq2_0; exact absurd (hx.symm.trans (lookW0 nta)) (by simp))) (fun _ H26 r26 hr26 D26 o26 => ?_)))⟩
    have k26 : Kt H25 H26 := Kt.off D25.R.hd o26
    have hD1 := k26.tup hD1
    have hD2 := k26.tup hD2
    have eW26 : conW (W1 ++ [(ta, r26, ([] : Room))]) = [(tb, c2), (ta, [])] := by rw [conW_app, eW21]; rfl
    obtain ⟨W2, eW2⟩ : ∃ W2, W2 = W1 ++ [(ta, r26, ([] : Room))] := ⟨_, rfl⟩
    rw [← eW2] at D26 eW26
    have h26h : heldW W2 = m2 := by rw [held_c, eW26, held2]; show (c2.length : Int) + 0 = m2; (first | lia | omega)
    have l26 : W2.length ≤ 1000 := by rw [← conW_len, eW26]; show 2 ≤ 1000; decide
    obtain ⟨dx26, h26⟩ := id D26.ob
    refine jt _ _ (j16 _ _ _ (hidR fun _ jr => ?_))
    refine ⟨_, rfl, p, dx26, _, rfl, h26, nH, (nilQ (spHeld_in p a tot W2 D26 l26 (fun H27 s27 => ⟨_, rfl, d2, _, _, .int m2, rfl, rfl, SqT.of (s27 _ _ hD2), rfl, rfl, _, rfl, ?_⟩)))⟩
    rw [h26h, decide_eq_true rfl]
    refine iteT ?_
    refine ⟨_, rfl, consQ (ev_tup (ac ev_c (ac (ev_T (ev_v rfl) ev_c (SqT.of (s27 _ _ hD1)) rfl) (ac (ev_i ev_c (ev_T (ev_v rfl) ev_c (SqT.of (s27 _ _ hD1)) rfl) (.inl ⟨by decide, by decide⟩)) (ac ev_c an)))) (by show 4 ≤ sizeLine; decide) fun T28 hT28 => ?_)⟩
    have s28 := same_new (X := .tup [.str "peek", .int ta, .int (8 * p1), .int 1]) hT28
    obtain ⟨f1, f2⟩ := one_pageI (q := p1) (at' := 0) (n := 1) (by decide) (by decide) (by decide)
    rw [Int.add_zero] at f1 f2
    refine nilQ (spTold_in p a T28 tot W2 (.peek ta (8 * p1) 1) (D26.same (s27.trans s28)) upd_same (⟨loa, by decide, by rw [f1]; exact small_log (by (first | lia | omega)) (by (first | lia | omega)), by rw [f2]; decide⟩) (by rw [eW26]; exact sz2 (by (first | lia | omega)) (Nat.zero_le _) lt) (.inl ⟨.noPage, .inr ⟨[], by rw [eW26]; exact look_two1 (Ne.symm nab), one_badI f1 f2 (by decide) (by intro z; cases z), rfl⟩, fun H29 T29 s29 hT29 => ?_⟩))
    refine ⟨(by show 2 ≤ sizeLine; decide), fun T30 hT30 => ?_⟩
    have s30 := same_new (X := .tup [.non, .str "NoPage"]) hT30
    refine ⟨T29, T30, _, _, rfl, rfl, SqT.of (s30 _ _ hT29), SqT.of upd_same, rfl, rfl, ?_⟩
    rw [show wordOf .noPage = "NoPage" from rfl, eq2]
    exact jr _ _ (k _)
end
end Rm

namespace Rm
open PySem L2
theorem ln1 {us : List Value} (h : us.length = 1) : ∃ a, us = [a] := List.length_eq_one_iff.mp h
theorem ln2 {us : List Value} (h : us.length = 2) : ∃ a b, us = [a, b] := by
  cases us with
  | nil => cases h
  | cons a us => obtain ⟨b, rfl⟩ := ln1 (Nat.succ.inj h); exact ⟨a, b, rfl⟩
theorem ln3 {us : List Value} (h : us.length = 3) : ∃ a b c, us = [a, b, c] := by
  cases us with
  | nil => cases h
  | cons a us => obtain ⟨b, c, rfl⟩ := ln2 (Nat.succ.inj h); exact ⟨a, b, c, rfl⟩
theorem ln4 {us : List Value} (h : us.length = 4) : ∃ a b c d, us = [a, b, c, d] := by
  cases us with
  | nil => cases h
  | cons a us => obtain ⟨b, c, d, rfl⟩ := ln3 (Nat.succ.inj h); exact ⟨a, b, c, d, rfl⟩
theorem ln5 {us : List Value} (h : us.length = 5) : ∃ a b c d e, us = [a, b, c, d, e] := by
  cases us with
  | nil => cases h
  | cons a us => obtain ⟨b, c, d, e, rfl⟩ := ln4 (Nat.succ.inj h); exact ⟨a, b, c, d, e, rfl⟩
theorem all_mk {l : PySem.W.OpenLaw} {w : World} {K : PySem.W.Frag} {h : Heap} {mg : Str → Option Value} {fa : Addr} (X : K.In h) (G : h.Ns mainGlobals mg) (hfa : mg "law" = some (.ref fa))
    
    {C : Addr}
    {f1 : Addr} {od1 an1 : Option Addr} {sl1 : Array (Option Value)} {oc1 kV1 dc1 pm1 cd1 ct1 : Value}
    {f2 : Addr} {od2 an2 : Option Addr} {sl2 : Array (Option Value)} {oc2 kV2 dc2 pm2 cd2 ct2 : Value}
    {f3 : Addr} {od3 an3 : Option Addr} {sl3 : Array (Option Value)} {oc3 kV3 dc3 pm3 cd3 ct3 : Value}
    {f4 : Addr} {od4 an4 : Option Addr} {sl4 : Array (Option Value)} {oc4 kV4 dc4 pm4 cd4 ct4 : Value}
    {f5 : Addr} {od5 an5 : Option Addr} {sl5 : Array (Option Value)} {oc5 kV5 dc5 pm5 cd5 ct5 : Value}
    {f6 : Addr} {od6 an6 : Option Addr} {sl6 : Array (Option Value)} {oc6 kV6 dc6 pm6 cd6 ct6 : Value}
    {f7 : Addr} {od7 an7 : Option Addr} {sl7 : Array (Option Value)} {oc7 kV7 dc7 pm7 cd7 ct7 : Value}
    {f8 : Addr} {od8 an8 : Option Addr} {sl8 : Array (Option Value)} {oc8 kV8 dc8 pm8 cd8 ct8 : Value}
    {f9 : Addr} {od9 an9 : Option Addr} {sl9 : Array (Option Value)} {oc9 kV9 dc9 pm9 cd9 ct9 : Value}
    {f10 : Addr} {od10 an10 : Option Addr} {sl10 : Array (Option Value)} {oc10 kV10 dc10 pm10 cd10 ct10 : Value}
    {f11 : Addr} {od11 an11 : Option Addr} {sl11 : Array (Option Value)} {oc11 kV11 dc11 pm11 cd11 ct11 : Value}
    {f12 : Addr} {od12 an12 : Option Addr} {sl12 : Array (Option Value)} {oc12 kV12 dc12 pm12 cd12 ct12 : Value}
    {f13 : Addr} {od13 an13 : Option Addr} {sl13 : Array (Option Value)} {oc13 kV13 dc13 pm13 cd13 ct13 : Value}
    {f14 : Addr} {od14 an14 : Option Addr} {sl14 : Array (Option Value)} {oc14 kV14 dc14 pm14 cd14 ct14 : Value}
    {f15 : Addr} {od15 an15 : Option Addr} {sl15 : Array (Option Value)} {oc15 kV15 dc15 pm15 cd15 ct15 : Value}
    {f16 : Addr} {od16 an16 : Option Addr} {sl16 : Array (Option Value)} {oc16 kV16 dc16 pm16 cd16 ct16 : Value}
    {f17 : Addr} {od17 an17 : Option Addr} {sl17 : Array (Option Value)} {oc17 kV17 dc17 pm17 cd17 ct17 : Value}
    {f18 : Addr} {od18 an18 : Option Addr} {sl18 : Array (Option Value)} {oc18 kV18 dc18 pm18 cd18 ct18 : Value}
    {f19 : Addr} {od19 an19 : Option Addr} {sl19 : Array (Option Value)} {oc19 kV19 dc19 pm19 cd19 ct19 : Value}
    {f20 : Addr} {od20 an20 : Option Addr} {sl20 : Array (Option Value)} {oc20 kV20 dc20 pm20 cd20 ct20 : Value}
    {f21 : Addr} {od21 an21 : Option Addr} {sl21 : Array (Option Value)} {oc21 kV21 dc21 pm21 cd21 ct21 : Value}
    {f22 : Addr} {od22 an22 : Option Addr} {sl22 : Array (Option Value)} {oc22 kV22 dc22 pm22 cd22 ct22 : Value}
    {f23 : Addr} {od23 an23 : Option Addr} {sl23 : Array (Option Value)} {oc23 kV23 dc23 pm23 cd23 ct23 : Value}
    {f24 : Addr} {od24 an24 : Option Addr} {sl24 : Array (Option Value)} {oc24 kV24 dc24 pm24 cd24 ct24 : Value}
    {f25 : Addr} {od25 an25 : Option Addr} {sl25 : Array (Option Value)} {oc25 kV25 dc25 pm25 cd25 ct25 : Value}
    {f26 : Addr} {od26 an26 : Option Addr} {sl26 : Array (Option Value)} {oc26 kV26 dc26 pm26 cd26 ct26 : Value}
    {f27 : Addr} {od27 an27 : Option Addr} {sl27 : Array (Option Value)} {oc27 kV27 dc27 pm27 cd27 ct27 : Value}
    {f28 : Addr} {od28 an28 : Option Addr} {sl28 : Array (Option Value)} {oc28 kV28 dc28 pm28 cd28 ct28 : Value}
    {f29 : Addr} {od29 an29 : Option Addr} {sl29 : Array (Option Value)} {oc29 kV29 dc29 pm29 cd29 ct29 : Value}
    {f30 : Addr} {od30 an30 : Option Addr} {sl30 : Array (Option Value)} {oc30 kV30 dc30 pm30 cd30 ct30 : Value}
    {f31 : Addr} {od31 an31 : Option Addr} {sl31 : Array (Option Value)} {oc31 kV31 dc31 pm31 cd31 ct31 : Value}
    {f32 : Addr} {od32 an32 : Option Addr} {sl32 : Array (Option Value)} {oc32 kV32 dc32 pm32 cd32 ct32 : Value}
    {t64 : Tok}
    {t8 : Tok}
    {xNoTask xNoPage xNoRoom xTaken xKernelError : Addr}
    
    (aC : PySem.W.nsIn K mainGlobals "PlainRooms" = some (some (.ref C)))
    (a1 : PySem.W.findIn K (.ref C) "__init__" = some (some (.ref f1)))
    (i1 : PySem.W.isFn K (.ref f1) = true)
    (l1 : K.lookup f1 = some ⟨oc1, od1, .func (PySem.W.fnOf "__init__" "PlainRooms.__init__" (defArgs sInit) (defBody sInit) (defScope sInit) .none kV1 dc1 pm1 an1 cd1 ct1), sl1⟩)
    (c1 : PySem.W.codeIn K cd1 "PlainRooms.__init__" = true)
    (k1 : PySem.W.keepIn K (.ref f1) = true)
    (a2 : PySem.W.findIn K (.ref C) "begin" = some (some (.ref f2)))
    (i2 : PySem.W.isFn K (.ref f2) = true)
    (l2 : K.lookup f2 = some ⟨oc2, od2, .func (PySem.W.fnOf "begin" "PlainRooms.begin" (defArgs sBegin) (defBody sBegin) (defScope sBegin) .none kV2 dc2 pm2 an2 cd2 ct2), sl2⟩)
    (c2 : PySem.W.codeIn K cd2 "PlainRooms.begin" = true)
    (k2 : PySem.W.keepIn K (.ref f2) = true)
    (a3 : PySem.W.findIn K (.ref C) "close" = some (some (.ref f3)))
    (i3 : PySem.W.isFn K (.ref f3) = true)
    (l3 : K.lookup f3 = some ⟨oc3, od3, .func (PySem.W.fnOf "close" "PlainRooms.close" (defArgs sClose) (defBody sClose) (defScope sClose) .none kV3 dc3 pm3 an3 cd3 ct3), sl3⟩)
    (c3 : PySem.W.codeIn K cd3 "PlainRooms.close" = true)
    (k3 : PySem.W.keepIn K (.ref f3) = true)
    (a4 : PySem.W.findIn K (.ref C) "map" = some (some (.ref f4)))
    (i4 : PySem.W.isFn K (.ref f4) = true)
    (l4 : K.lookup f4 = some ⟨oc4, od4, .func (PySem.W.fnOf "map" "PlainRooms.map" (defArgs sMap) (defBody sMap) (defScope sMap) .none kV4 dc4 pm4 an4 cd4 ct4), sl4⟩)
    (c4 : PySem.W.codeIn K cd4 "PlainRooms.map" = true)
    (k4 : PySem.W.keepIn K (.ref f4) = true)
    (a5 : PySem.W.findIn K (.ref C) "drop" = some (some (.ref f5)))
    (i5 : PySem.W.isFn K (.ref f5) = true)
    (l5 : K.lookup f5 = some ⟨oc5, od5, .func (PySem.W.fnOf "drop" "PlainRooms.drop" (defArgs sDrop) (defBody sDrop) (defScope sDrop) .none kV5 dc5 pm5 an5 cd5 ct5), sl5⟩)
    (c5 : PySem.W.codeIn K cd5 "PlainRooms.drop" = true)
    (k5 : PySem.W.keepIn K (.ref f5) = true)
    (a6 : PySem.W.findIn K (.ref C) "peek" = some (some (.ref f6)))
    (i6 : PySem.W.isFn K (.ref f6) = true)
    (l6 : K.lookup f6 = some ⟨oc6, od6, .func (PySem.W.fnOf "peek" "PlainRooms.peek" (defArgs sPeek) (defBody sPeek) (defScope sPeek) .none kV6 dc6 pm6 an6 cd6 ct6), sl6⟩)
    (c6 : PySem.W.codeIn K cd6 "PlainRooms.peek" = true)
    (k6 : PySem.W.keepIn K (.ref f6) = true)
    (a7 : PySem.W.findIn K (.ref C) "poke" = some (some (.ref f7)))
    (i7 : PySem.W.isFn K (.ref f7) = true)
    (l7 : K.lookup f7 = some ⟨oc7, od7, .func (PySem.W.fnOf "poke" "PlainRooms.poke" (defArgs sPoke) (defBody sPoke) (defScope sPoke) .none kV7 dc7 pm7 an7 cd7 ct7), sl7⟩)
    (c7 : PySem.W.codeIn K cd7 "PlainRooms.poke" = true)
    (k7 : PySem.W.keepIn K (.ref f7) = true)
    (a8 : PySem.W.findIn K (.ref C) "copy" = some (some (.ref f8)))
    (i8 : PySem.W.isFn K (.ref f8) = true)
    (l8 : K.lookup f8 = some ⟨oc8, od8, .func (PySem.W.fnOf "copy" "PlainRooms.copy" (defArgs sCopy) (defBody sCopy) (defScope sCopy) .none kV8 dc8 pm8 an8 cd8 ct8), sl8⟩)
    (c8 : PySem.W.codeIn K cd8 "PlainRooms.copy" = true)
    (k8 : PySem.W.keepIn K (.ref f8) = true)
    (a9 : PySem.W.findIn K (.ref C) "held" = some (some (.ref f9)))
    (i9 : PySem.W.isFn K (.ref f9) = true)
    (l9 : K.lookup f9 = some ⟨oc9, od9, .func (PySem.W.fnOf "held" "PlainRooms.held" (defArgs sHeld) (defBody sHeld) (defScope sHeld) .none kV9 dc9 pm9 an9 cd9 ct9), sl9⟩)
    (c9 : PySem.W.codeIn K cd9 "PlainRooms.held" = true)
    (k9 : PySem.W.keepIn K (.ref f9) = true)
    (pgC : PySem.W.plainGet K C Str.empty = true)
    (hdC : PySem.W.hasDictIn K C = true)
    (poC : PySem.W.plainOver K C = true)
    (saC : PySem.W.findIn K (.ref C) "__setattr__" = some (some (.builtin "object.__setattr__")))
    (mkC : PySem.W.makesIn K C = true)
    (kcC : PySem.W.keepIn K (.ref C) = true)
    (nC0 : PySem.W.findIn K (.ref C) "total" = some none)
    (nC1 : PySem.W.findIn K (.ref C) "rooms" = some none)
    (a10 : PySem.W.nsIn K mainGlobals "room_of" = some (some (.ref f10)))
    (l10 : K.lookup f10 = some ⟨oc10, od10, .func (PySem.W.fnOf "room_of" "room_of" (defArgs sRoomOf) (defBody sRoomOf) (defScope sRoomOf) .none kV10 dc10 pm10 an10 cd10 ct10), sl10⟩)
    (c10 : PySem.W.codeIn K cd10 "room_of" = true)
    (k10 : PySem.W.keepIn K (.ref f10) = true)
    (a11 : PySem.W.nsIn K mainGlobals "refuse_second_room" = some (some (.ref f11)))
    (l11 : K.lookup f11 = some ⟨oc11, od11, .func (PySem.W.fnOf "refuse_second_room" "refuse_second_room" (defArgs sSecond) (defBody sSecond) (defScope sSecond) .none kV11 dc11 pm11 an11 cd11 ct11), sl11⟩)
    (c11 : PySem.W.codeIn K cd11 "refuse_second_room" = true)
    (k11 : PySem.W.keepIn K (.ref f11) = true)
    (a12 : PySem.W.nsIn K mainGlobals "refuse_above" = some (some (.ref f12)))
    (l12 : K.lookup f12 = some ⟨oc12, od12, .func (PySem.W.fnOf "refuse_above" "refuse_above" (defArgs sAbove) (defBody sAbove) (defScope sAbove) .none kV12 dc12 pm12 an12 cd12 ct12), sl12⟩)
    (c12 : PySem.W.codeIn K cd12 "refuse_above" = true)
    (k12 : PySem.W.keepIn K (.ref f12) = true)
    (a13 : PySem.W.nsIn K mainGlobals "pages_from" = some (some (.ref f13)))
    (l13 : K.lookup f13 = some ⟨oc13, od13, .func (PySem.W.fnOf "pages_from" "pages_from" (defArgs sPagesFrom) (defBody sPagesFrom) (defScope sPagesFrom) .none kV13 dc13 pm13 an13 cd13 ct13), sl13⟩)
    (c13 : PySem.W.codeIn K cd13 "pages_from" = true)
    (k13 : PySem.W.keepIn K (.ref f13) = true)
    (a14 : PySem.W.nsIn K mainGlobals "refuse_unmapped" = some (some (.ref f14)))
    (l14 : K.lookup f14 = some ⟨oc14, od14, .func (PySem.W.fnOf "refuse_unmapped" "refuse_unmapped" (defArgs sUnmapped) (defBody sUnmapped) (defScope sUnmapped) .none kV14 dc14 pm14 an14 cd14 ct14), sl14⟩)
    (c14 : PySem.W.codeIn K cd14 "refuse_unmapped" = true)
    (k14 : PySem.W.keepIn K (.ref f14) = true)
    (a15 : PySem.W.nsIn K mainGlobals "pages_to_map" = some (some (.ref f15)))
    (l15 : K.lookup f15 = some ⟨oc15, od15, .func (PySem.W.fnOf "pages_to_map" "pages_to_map" (defArgs sToMap) (defBody sToMap) (defScope sToMap) .none kV15 dc15 pm15 an15 cd15 ct15), sl15⟩)
    (c15 : PySem.W.codeIn K cd15 "pages_to_map" = true)
    (k15 : PySem.W.keepIn K (.ref f15) = true)
    (a16 : PySem.W.nsIn K mainGlobals "pages_to_drop" = some (some (.ref f16)))
    (l16 : K.lookup f16 = some ⟨oc16, od16, .func (PySem.W.fnOf "pages_to_drop" "pages_to_drop" (defArgs sToDrop) (defBody sToDrop) (defScope sToDrop) .none kV16 dc16 pm16 an16 cd16 ct16), sl16⟩)
    (c16 : PySem.W.codeIn K cd16 "pages_to_drop" = true)
    (k16 : PySem.W.keepIn K (.ref f16) = true)
    (a17 : PySem.W.nsIn K mainGlobals "pages_of_cells" = some (some (.ref f17)))
    (l17 : K.lookup f17 = some ⟨oc17, od17, .func (PySem.W.fnOf "pages_of_cells" "pages_of_cells" (defArgs sOfCells) (defBody sOfCells) (defScope sOfCells) .none kV17 dc17 pm17 an17 cd17 ct17), sl17⟩)
    (c17 : PySem.W.codeIn K cd17 "pages_of_cells" = true)
    (k17 : PySem.W.keepIn K (.ref f17) = true)
    (a18 : PySem.W.nsIn K mainGlobals "run_within" = some (some (.ref f18)))
    (l18 : K.lookup f18 = some ⟨oc18, od18, .func (PySem.W.fnOf "run_within" "run_within" (defArgs sWithin) (defBody sWithin) (defScope sWithin) .none kV18 dc18 pm18 an18 cd18 ct18), sl18⟩)
    (c18 : PySem.W.codeIn K cd18 "run_within" = true)
    (k18 : PySem.W.keepIn K (.ref f18) = true)
    (a19 : PySem.W.nsIn K mainGlobals "pages_with" = some (some (.ref f19)))
    (l19 : K.lookup f19 = some ⟨oc19, od19, .func (PySem.W.fnOf "pages_with" "pages_with" (defArgs sWith) (defBody sWith) (defScope sWith) .none kV19 dc19 pm19 an19 cd19 ct19), sl19⟩)
    (c19 : PySem.W.codeIn K cd19 "pages_with" = true)
    (k19 : PySem.W.keepIn K (.ref f19) = true)
    (a20 : PySem.W.nsIn K mainGlobals "cells_of_pages" = some (some (.ref f20)))
    (l20 : K.lookup f20 = some ⟨oc20, od20, .func (PySem.W.fnOf "cells_of_pages" "cells_of_pages" (defArgs sCells) (defBody sCells) (defScope sCells) .none kV20 dc20 pm20 an20 cd20 ct20), sl20⟩)
    (c20 : PySem.W.codeIn K cd20 "cells_of_pages" = true)
    (k20 : PySem.W.keepIn K (.ref f20) = true)
    (a21 : PySem.W.nsIn K mainGlobals "_law_number" = some (some (.ref f21)))
    (l21 : K.lookup f21 = some ⟨oc21, od21, .func (PySem.W.fnOf "_law_number" "_law_number" (defArgs sNumber) (defBody sNumber) (defScope sNumber) .none kV21 dc21 pm21 an21 cd21 ct21), sl21⟩)
    (c21 : PySem.W.codeIn K cd21 "_law_number" = true)
    (k21 : PySem.W.keepIn K (.ref f21) = true)
    (a22 : PySem.W.nsIn K mainGlobals "_law_tasks" = some (some (.ref f22)))
    (l22 : K.lookup f22 = some ⟨oc22, od22, .func (PySem.W.fnOf "_law_tasks" "_law_tasks" (defArgs sTasks) (defBody sTasks) (defScope sTasks) .none kV22 dc22 pm22 an22 cd22 ct22), sl22⟩)
    (c22 : PySem.W.codeIn K cd22 "_law_tasks" = true)
    (k22 : PySem.W.keepIn K (.ref f22) = true)
    (a23 : PySem.W.nsIn K mainGlobals "_law_do" = some (some (.ref f23)))
    (l23 : K.lookup f23 = some ⟨oc23, od23, .func (PySem.W.fnOf "_law_do" "_law_do" (defArgs sDo) (defBody sDo) (defScope sDo) .none kV23 dc23 pm23 an23 cd23 ct23), sl23⟩)
    (c23 : PySem.W.codeIn K cd23 "_law_do" = true)
    (k23 : PySem.W.keepIn K (.ref f23) = true)
    (a24 : PySem.W.nsIn K mainGlobals "_law_word" = some (some (.ref f24)))
    (l24 : K.lookup f24 = some ⟨oc24, od24, .func (PySem.W.fnOf "_law_word" "_law_word" (defArgs sWord) (defBody sWord) (defScope sWord) .none kV24 dc24 pm24 an24 cd24 ct24), sl24⟩)
    (c24 : PySem.W.codeIn K cd24 "_law_word" = true)
    (k24 : PySem.W.keepIn K (.ref f24) = true)
    (a25 : PySem.W.nsIn K mainGlobals "_law_told" = some (some (.ref f25)))
    (l25 : K.lookup f25 = some ⟨oc25, od25, .func (PySem.W.fnOf "_law_told" "_law_told" (defArgs sTold) (defBody sTold) (defScope sTold) .none kV25 dc25 pm25 an25 cd25 ct25), sl25⟩)
    (c25 : PySem.W.codeIn K cd25 "_law_told" = true)
    (k25 : PySem.W.keepIn K (.ref f25) = true)
    (a26 : PySem.W.nsIn K mainGlobals "_law_state" = some (some (.ref f26)))
    (l26 : K.lookup f26 = some ⟨oc26, od26, .func (PySem.W.fnOf "_law_state" "_law_state" (defArgs sState) (defBody sState) (defScope sState) .none kV26 dc26 pm26 an26 cd26 ct26), sl26⟩)
    (c26 : PySem.W.codeIn K cd26 "_law_state" = true)
    (k26 : PySem.W.keepIn K (.ref f26) = true)
    (a27 : PySem.W.nsIn K mainGlobals "_law_far" = some (some (.ref f27)))
    (l27 : K.lookup f27 = some ⟨oc27, od27, .func (PySem.W.fnOf "_law_far" "_law_far" (defArgs sFar) (defBody sFar) (defScope sFar) .none kV27 dc27 pm27 an27 cd27 ct27), sl27⟩)
    (c27 : PySem.W.codeIn K cd27 "_law_far" = true)
    (k27 : PySem.W.keepIn K (.ref f27) = true)
    (a28 : PySem.W.nsIn K mainGlobals "_law_bad" = some (some (.ref f28)))
    (l28 : K.lookup f28 = some ⟨oc28, od28, .func (PySem.W.fnOf "_law_bad" "_law_bad" (defArgs sBad) (defBody sBad) (defScope sBad) .none kV28 dc28 pm28 an28 cd28 ct28), sl28⟩)
    (c28 : PySem.W.codeIn K cd28 "_law_bad" = true)
    (k28 : PySem.W.keepIn K (.ref f28) = true)
    (a29 : PySem.W.nsIn K mainGlobals "_law_no_cells" = some (some (.ref f29)))
    (l29 : K.lookup f29 = some ⟨oc29, od29, .func (PySem.W.fnOf "_law_no_cells" "_law_no_cells" (defArgs sNoCells) (defBody sNoCells) (defScope sNoCells) .none kV29 dc29 pm29 an29 cd29 ct29), sl29⟩)
    (c29 : PySem.W.codeIn K cd29 "_law_no_cells" = true)
    (k29 : PySem.W.keepIn K (.ref f29) = true)
    (a30 : PySem.W.nsIn K mainGlobals "_law_small" = some (some (.ref f30)))
    (l30 : K.lookup f30 = some ⟨oc30, od30, .func (PySem.W.fnOf "_law_small" "_law_small" (defArgs sSmall) (defBody sSmall) (defScope sSmall) .none kV30 dc30 pm30 an30 cd30 ct30), sl30⟩)
    (c30 : PySem.W.codeIn K cd30 "_law_small" = true)
    (k30 : PySem.W.keepIn K (.ref f30) = true)
    (a31 : PySem.W.nsIn K mainGlobals "_law_full" = some (some (.ref f31)))
    (l31 : K.lookup f31 = some ⟨oc31, od31, .func (PySem.W.fnOf "_law_full" "_law_full" (defArgs sFull) (defBody sFull) (defScope sFull) .none kV31 dc31 pm31 an31 cd31 ct31), sl31⟩)
    (c31 : PySem.W.codeIn K cd31 "_law_full" = true)
    (k31 : PySem.W.keepIn K (.ref f31) = true)
    (a32 : PySem.W.nsIn K mainGlobals "law" = some (some (.ref f32)))
    (l32 : K.lookup f32 = some ⟨oc32, od32, .func (PySem.W.fnOf "law" "law" (defArgs sLaw) (defBody sLaw) (defScope sLaw) .none kV32 dc32 pm32 an32 cd32 ct32), sl32⟩)
    (c32 : PySem.W.codeIn K cd32 "law" = true)
    (k32 : PySem.W.keepIn K (.ref f32) = true)
    (q0 : PySem.W.nsIn K mainGlobals "ROOM_PAGES" = some (some (.int 64 t64)))
    (q1 : PySem.W.nsIn K mainGlobals "PAGE_CELLS" = some (some (.int 8 t8)))
    (z_list : PySem.W.nsIn K mainGlobals "list" = some none)
    (z_len : PySem.W.nsIn K mainGlobals "len" = some none)
    (z_range : PySem.W.nsIn K mainGlobals "range" = some none)
    (z_enumerate : PySem.W.nsIn K mainGlobals "enumerate" = some none)
    (z_int : PySem.W.nsIn K mainGlobals "int" = some none)
    (z_sum : PySem.W.nsIn K mainGlobals "sum" = some none)
    (z_zip : PySem.W.nsIn K mainGlobals "zip" = some none)
    (z_isinstance : PySem.W.nsIn K mainGlobals "isinstance" = some none)
    (z_min : PySem.W.nsIn K mainGlobals "min" = some none)
    (z_ValueError : PySem.W.nsIn K mainGlobals "ValueError" = some none)
    (yNoTask : PySem.W.nsIn K mainGlobals "NoTask" = some (some (.ref xNoTask)))
    (yNoPage : PySem.W.nsIn K mainGlobals "NoPage" = some (some (.ref xNoPage)))
    (yNoRoom : PySem.W.nsIn K mainGlobals "NoRoom" = some (some (.ref xNoRoom)))
    (yTaken : PySem.W.nsIn K mainGlobals "Taken" = some (some (.ref xTaken)))
    (yKernelError : PySem.W.nsIn K mainGlobals "KernelError" = some (some (.ref xKernelError)))
    (vENoTask : PySem.W.excIn K xNoTask veMro "ValueError.__new__" = true)
    (vMNoTask : PySem.W.exmOne K (.ref xNoTask) (.ref xKernelError) = some true)
    (vVNoTask : PySem.W.kitOne K (.ref xNoTask) (.type "ValueError") = some true)
    (vNoTaskNoTask : PySem.W.kitOne K (.ref xNoTask) (.ref xNoTask) = some true)
    (vNoTaskNoPage : PySem.W.kitOne K (.ref xNoTask) (.ref xNoPage) = some false)
    (vNoTaskNoRoom : PySem.W.kitOne K (.ref xNoTask) (.ref xNoRoom) = some false)
    (vNoTaskTaken : PySem.W.kitOne K (.ref xNoTask) (.ref xTaken) = some false)
    (uObNoTask : PySem.W.mroIn K xNoTask (.type "object") = some true)
    (uBeNoTask : PySem.W.mroIn K xNoTask (.type "BaseException") = some true)
    (uGaNoTask : PySem.W.findIn K (.ref xNoTask) "__getattribute__" = some (some (.builtin "BaseException.__getattribute__")))
    (uGbNoTask : PySem.W.findIn K (.ref xNoTask) "__getattr__" = some none)
    (uCcNoTask : PySem.W.findIn K (.ref xNoTask) "__class__" = some (some (.builtin "object.__class__")))
    (vENoPage : PySem.W.excIn K xNoPage veMro "ValueError.__new__" = true)
    (vMNoPage : PySem.W.exmOne K (.ref xNoPage) (.ref xKernelError) = some true)
    (vVNoPage : PySem.W.kitOne K (.ref xNoPage) (.type "ValueError") = some true)
    (vNoPageNoTask : PySem.W.kitOne K (.ref xNoPage) (.ref xNoTask) = some false)
    (vNoPageNoPage : PySem.W.kitOne K (.ref xNoPage) (.ref xNoPage) = some true)
    (vNoPageNoRoom : PySem.W.kitOne K (.ref xNoPage) (.ref xNoRoom) = some false)
    (vNoPageTaken : PySem.W.kitOne K (.ref xNoPage) (.ref xTaken) = some false)
    (uObNoPage : PySem.W.mroIn K xNoPage (.type "object") = some true)
    (uBeNoPage : PySem.W.mroIn K xNoPage (.type "BaseException") = some true)
    (uGaNoPage : PySem.W.findIn K (.ref xNoPage) "__getattribute__" = some (some (.builtin "BaseException.__getattribute__")))
    (uGbNoPage : PySem.W.findIn K (.ref xNoPage) "__getattr__" = some none)
    (uCcNoPage : PySem.W.findIn K (.ref xNoPage) "__class__" = some (some (.builtin "object.__class__")))
    (vENoRoom : PySem.W.excIn K xNoRoom veMro "ValueError.__new__" = true)
    (vMNoRoom : PySem.W.exmOne K (.ref xNoRoom) (.ref xKernelError) = some true)
    (vVNoRoom : PySem.W.kitOne K (.ref xNoRoom) (.type "ValueError") = some true)
    (vNoRoomNoTask : PySem.W.kitOne K (.ref xNoRoom) (.ref xNoTask) = some false)
    (vNoRoomNoPage : PySem.W.kitOne K (.ref xNoRoom) (.ref xNoPage) = some false)
    (vNoRoomNoRoom : PySem.W.kitOne K (.ref xNoRoom) (.ref xNoRoom) = some true)
    (vNoRoomTaken : PySem.W.kitOne K (.ref xNoRoom) (.ref xTaken) = some false)
    (uObNoRoom : PySem.W.mroIn K xNoRoom (.type "object") = some true)
    (uBeNoRoom : PySem.W.mroIn K xNoRoom (.type "BaseException") = some true)
    (uGaNoRoom : PySem.W.findIn K (.ref xNoRoom) "__getattribute__" = some (some (.builtin "BaseException.__getattribute__")))
    (uGbNoRoom : PySem.W.findIn K (.ref xNoRoom) "__getattr__" = some none)
    (uCcNoRoom : PySem.W.findIn K (.ref xNoRoom) "__class__" = some (some (.builtin "object.__class__")))
    (vETaken : PySem.W.excIn K xTaken veMro "ValueError.__new__" = true)
    (vMTaken : PySem.W.exmOne K (.ref xTaken) (.ref xKernelError) = some true)
    (vVTaken : PySem.W.kitOne K (.ref xTaken) (.type "ValueError") = some true)
    (vTakenNoTask : PySem.W.kitOne K (.ref xTaken) (.ref xNoTask) = some false)
    (vTakenNoPage : PySem.W.kitOne K (.ref xTaken) (.ref xNoPage) = some false)
    (vTakenNoRoom : PySem.W.kitOne K (.ref xTaken) (.ref xNoRoom) = some false)
    (vTakenTaken : PySem.W.kitOne K (.ref xTaken) (.ref xTaken) = some true)
    (uObTaken : PySem.W.mroIn K xTaken (.type "object") = some true)
    (uBeTaken : PySem.W.mroIn K xTaken (.type "BaseException") = some true)
    (uGaTaken : PySem.W.findIn K (.ref xTaken) "__getattribute__" = some (some (.builtin "BaseException.__getattribute__")))
    (uGbTaken : PySem.W.findIn K (.ref xTaken) "__getattr__" = some none)
    (uCcTaken : PySem.W.findIn K (.ref xTaken) "__class__" = some (some (.builtin "object.__class__")))
    (uCg : PySem.W.specialIn K (.builtin "object.__class__") "__get__" = some (some (.builtin "getset_descriptor.__get__")))
    (uCt : PySem.W.takesIn K (.builtin "object.__class__") = some true) :
    ∃ fd : FuncData, (∀ (s : Shared) (v : Value), BindsTo s fd ⟨[v], []⟩ [("_law_script", v)]) ∧ ∀ base : Heap, K.In base → base.Ns mainGlobals mg → FnOk l.prog w K mg base CX0 7 fa fd ["_law_script"] (spLaw K) := by
  have e := hfa.symm.trans (PySem.W.mg_of X G a32)
  cases e
  have F1 := fun_mk (st := sInit) l1 c1 k1
  have F2 := fun_mk (st := sBegin) l2 c2 k2
  have F3 := fun_mk (st := sClose) l3 c3 k3
  have F4 := fun_mk (st := sMap) l4 c4 k4
  have F5 := fun_mk (st := sDrop) l5 c5 k5
  have F6 := fun_mk (st := sPeek) l6 c6 k6
  have F7 := fun_mk (st := sPoke) l7 c7 k7
  have F8 := fun_mk (st := sCopy) l8 c8 k8
  have F9 := fun_mk (st := sHeld) l9 c9 k9
  have F10 := fun_mk (st := sRoomOf) l10 c10 k10
  have F11 := fun_mk (st := sSecond) l11 c11 k11
  have F12 := fun_mk (st := sAbove) l12 c12 k12
  have F13 := fun_mk (st := sPagesFrom) l13 c13 k13
  have F14 := fun_mk (st := sUnmapped) l14 c14 k14
  have F15 := fun_mk (st := sToMap) l15 c15 k15
  have F16 := fun_mk (st := sToDrop) l16 c16 k16
  have F17 := fun_mk (st := sOfCells) l17 c17 k17
  have F18 := fun_mk (st := sWithin) l18 c18 k18
  have F19 := fun_mk (st := sWith) l19 c19 k19
  have F20 := fun_mk (st := sCells) l20 c20 k20
  have F21 := fun_mk (st := sNumber) l21 c21 k21
  have F22 := fun_mk (st := sTasks) l22 c22 k22
  have F23 := fun_mk (st := sDo) l23 c23 k23
  have F24 := fun_mk (st := sWord) l24 c24 k24
  have F25 := fun_mk (st := sTold) l25 c25 k25
  have F26 := fun_mk (st := sState) l26 c26 k26
  have F27 := fun_mk (st := sFar) l27 c27 k27
  have F28 := fun_mk (st := sBad) l28 c28 k28
  have F29 := fun_mk (st := sNoCells) l29 c29 k29
  have F30 := fun_mk (st := sSmall) l30 c30 k30
  have F31 := fun_mk (st := sFull) l31 c31 k31
  have F32 := fun_mk (st := sLaw) l32 c32 k32
  have b1 := F1.binds (ps := ["self", "total"]) fun _ _ _ _ _ _ us hl => by obtain ⟨_, _, rfl⟩ := ln2 hl; rfl
  have b2 := F2.binds (ps := ["self", "task"]) fun _ _ _ _ _ _ us hl => by obtain ⟨_, _, rfl⟩ := ln2 hl; rfl
  have b3 := F3.binds (ps := ["self", "task"]) fun _ _ _ _ _ _ us hl => by obtain ⟨_, _, rfl⟩ := ln2 hl; rfl
  have b4 := F4.binds (ps := ["self", "task", "page", "many"]) fun _ _ _ _ _ _ us hl => by obtain ⟨_, _, _, _, rfl⟩ := ln4 hl; rfl
  have b5 := F5.binds (ps := ["self", "task", "page", "many"]) fun _ _ _ _ _ _ us hl => by obtain ⟨_, _, _, _, rfl⟩ := ln4 hl; rfl
  have b6 := F6.binds (ps := ["self", "task", "address", "many"]) fun _ _ _ _ _ _ us hl => by obtain ⟨_, _, _, _, rfl⟩ := ln4 hl; rfl
  have b7 := F7.binds (ps := ["self", "task", "address", "cells"]) fun _ _ _ _ _ _ us hl => by obtain ⟨_, _, _, _, rfl⟩ := ln4 hl; rfl
  have b8 := F8.binds (ps := ["self", "task", "other"]) fun _ _ _ _ _ _ us hl => by obtain ⟨_, _, _, rfl⟩ := ln3 hl; rfl
  have b9 := F9.binds (ps := ["self"]) fun _ _ _ _ _ _ us hl => by obtain ⟨_, rfl⟩ := ln1 hl; rfl
  have b10 := F10.binds (ps := ["rooms", "task"]) fun _ _ _ _ _ _ us hl => by obtain ⟨_, _, rfl⟩ := ln2 hl; rfl
  have b11 := F11.binds (ps := ["rooms", "task"]) fun _ _ _ _ _ _ us hl => by obtain ⟨_, _, rfl⟩ := ln2 hl; rfl
  have b12 := F12.binds (ps := ["held", "total"]) fun _ _ _ _ _ _ us hl => by obtain ⟨_, _, rfl⟩ := ln2 hl; rfl
  have b13 := F13.binds (ps := ["page", "many"]) fun _ _ _ _ _ _ us hl => by obtain ⟨_, _, rfl⟩ := ln2 hl; rfl
  have b14 := F14.binds (ps := ["mapped", "pages"]) fun _ _ _ _ _ _ us hl => by obtain ⟨_, _, rfl⟩ := ln2 hl; rfl
  have b15 := F15.binds (ps := ["mapped", "page", "many"]) fun _ _ _ _ _ _ us hl => by obtain ⟨_, _, _, rfl⟩ := ln3 hl; rfl
  have b16 := F16.binds (ps := ["mapped", "page", "many"]) fun _ _ _ _ _ _ us hl => by obtain ⟨_, _, _, rfl⟩ := ln3 hl; rfl
  have b17 := F17.binds (ps := ["mapped", "address", "many"]) fun _ _ _ _ _ _ us hl => by obtain ⟨_, _, _, rfl⟩ := ln3 hl; rfl
  have b18 := F18.binds (ps := ["whole", "address", "many"]) fun _ _ _ _ _ _ us hl => by obtain ⟨_, _, _, rfl⟩ := ln3 hl; rfl
  have b19 := F19.binds (ps := ["whole", "address", "cells"]) fun _ _ _ _ _ _ us hl => by obtain ⟨_, _, _, rfl⟩ := ln3 hl; rfl
  have b20 := F20.binds (ps := ["room", "pages"]) fun _ _ _ _ _ _ us hl => by obtain ⟨_, _, rfl⟩ := ln2 hl; rfl
  have b21 := F21.binds (ps := ["_law_cell", "_law_k", "_law_digits"]) fun _ _ _ _ _ _ us hl => by obtain ⟨_, _, _, rfl⟩ := ln3 hl; rfl
  have b22 := F22.binds (ps := ["_law_cell"]) fun _ _ _ _ _ _ us hl => by obtain ⟨_, rfl⟩ := ln1 hl; rfl
  have b23 := F23.binds (ps := ["_law_rooms", "_law_deed"]) fun _ _ _ _ _ _ us hl => by obtain ⟨_, _, rfl⟩ := ln2 hl; rfl
  have b24 := F24.binds (ps := ["_law_caught"]) fun _ _ _ _ _ _ us hl => by obtain ⟨_, rfl⟩ := ln1 hl; rfl
  have b25 := F25.binds (ps := ["_law_rooms", "_law_deed"]) fun _ _ _ _ _ _ us hl => by obtain ⟨_, _, rfl⟩ := ln2 hl; rfl
  have b26 := F26.binds (ps := ["_law_rooms", "_law_shape"]) fun _ _ _ _ _ _ us hl => by obtain ⟨_, _, rfl⟩ := ln2 hl; rfl
  have b27 := F27.binds (ps := ["_law_rest"]) fun _ _ _ _ _ _ us hl => by obtain ⟨_, rfl⟩ := ln1 hl; rfl
  have b28 := F28.binds (ps := ["_law_rest", "_law_one", "_law_other", "_law_free", "_law_none"]) fun _ _ _ _ _ _ us hl => by obtain ⟨_, _, _, _, _, rfl⟩ := ln5 hl; rfl
  have b29 := F29.binds (ps := ["_law_rooms", "_law_one", "_law_rest"]) fun _ _ _ _ _ _ us hl => by obtain ⟨_, _, _, rfl⟩ := ln3 hl; rfl
  have b30 := F30.binds (ps := ["_law_total", "_law_task"]) fun _ _ _ _ _ _ us hl => by obtain ⟨_, _, rfl⟩ := ln2 hl; rfl
  have b31 := F31.binds (ps := ["_law_rooms", "_law_one", "_law_free", "_law_extra"]) fun _ _ _ _ _ _ us hl => by obtain ⟨_, _, _, _, rfl⟩ := ln4 hl; rfl
  have T : Txt K mg C := ⟨⟨pgC, hdC, poC, saC⟩, nC0, nC1, PySem.W.mg_none_of X G z_len, PySem.W.mg_none_of X G z_list, PySem.W.mg_none_of X G z_sum, PySem.W.mg_none_of X G z_zip⟩
  have ST : STxt mg := ⟨⟨_, PySem.W.mg_of X G q0, ⟨_, rfl⟩⟩, ⟨_, PySem.W.mg_of X G q1, ⟨_, rfl⟩⟩, PySem.W.mg_none_of X G z_list, PySem.W.mg_none_of X G z_range, PySem.W.mg_none_of X G z_len⟩
  have XNoTask : XTxt K mg "NoTask" xNoTask := ⟨PySem.W.mg_of X G yNoTask, vENoTask⟩
  have XNoPage : XTxt K mg "NoPage" xNoPage := ⟨PySem.W.mg_of X G yNoPage, vENoPage⟩
  have XNoRoom : XTxt K mg "NoRoom" xNoRoom := ⟨PySem.W.mg_of X G yNoRoom, vENoRoom⟩
  have XTaken : XTxt K mg "Taken" xTaken := ⟨PySem.W.mg_of X G yTaken, vETaken⟩
  refine ⟨PySem.W.fnOf "law" "law" (defArgs sLaw) (defBody sLaw) (defScope sLaw) .none kV32 dc32 pm32 an32 cd32 ct32, fun s v => .of_eq rfl, fun base _ _ => ?_⟩
  have GR := ok_roomOf (P := l.prog) (w := w) (base := base) F10 XNoTask
  have GS := ok_second (P := l.prog) (w := w) (base := base) F11 XTaken
  have GA := ok_above (P := l.prog) (w := w) (base := base) F12 XNoRoom
  have GP := ok_pagesFrom (P := l.prog) (w := w) (base := base) F13 ST XNoPage
  have GU := ok_unmapped (P := l.prog) (w := w) (base := base) F14 XNoPage
  have GM := ok_toMap F15 XTaken GP ⟨PySem.W.mg_of X G a13, k13, b13⟩
  have GD := ok_toDrop F16 GP ⟨PySem.W.mg_of X G a13, k13, b13⟩ GU ⟨PySem.W.mg_of X G a14, k14, b14⟩
  have GO := ok_ofCells F17 ST XNoPage GP ⟨PySem.W.mg_of X G a13, k13, b13⟩ GU ⟨PySem.W.mg_of X G a14, k14, b14⟩
  have GWi := ok_within (P := l.prog) (w := w) (base := base) F18 ST
  have GWw := ok_with (P := l.prog) (w := w) (base := base) F19 ST
  have GC := ok_cellsOf (P := l.prog) (w := w) (base := base) (mg := mg) F20
  have GH := ok_held (P := l.prog) (w := w) (base := base) F9 T
  have GI := ok_init (P := l.prog) (w := w) (base := base) F1 T
  have GBe := ok_begin F2 T GS ⟨PySem.W.mg_of X G a11, k11, b11⟩
  have GCl := ok_close F3 T GR ⟨PySem.W.mg_of X G a10, k10, b10⟩
  have GMp := ok_map F4 T ST GR ⟨PySem.W.mg_of X G a10, k10, b10⟩ GM ⟨PySem.W.mg_of X G a15, k15, b15⟩ GA ⟨PySem.W.mg_of X G a12, k12, b12⟩ GH b9 ⟨a9, i9, k9⟩
  have GDr := ok_drop F5 T GR ⟨PySem.W.mg_of X G a10, k10, b10⟩ GD ⟨PySem.W.mg_of X G a16, k16, b16⟩
  have GPe := ok_peek F6 T GR ⟨PySem.W.mg_of X G a10, k10, b10⟩ GO ⟨PySem.W.mg_of X G a17, k17, b17⟩ GC ⟨PySem.W.mg_of X G a20, k20, b20⟩ GWi ⟨PySem.W.mg_of X G a18, k18, b18⟩
  have GPk := ok_poke F7 T GR ⟨PySem.W.mg_of X G a10, k10, b10⟩ GO ⟨PySem.W.mg_of X G a17, k17, b17⟩ GC ⟨PySem.W.mg_of X G a20, k20, b20⟩ GWw ⟨PySem.W.mg_of X G a19, k19, b19⟩
  have GCo := ok_copy F8 T GR ⟨PySem.W.mg_of X G a10, k10, b10⟩ GS ⟨PySem.W.mg_of X G a11, k11, b11⟩ GA ⟨PySem.W.mg_of X G a12, k12, b12⟩ GH b9 ⟨a9, i9, k9⟩
  have MT : MTxt mg := ⟨PySem.W.mg_none_of X G z_range, PySem.W.mg_none_of X G z_enumerate, PySem.W.mg_none_of X G z_sum, PySem.W.mg_none_of X G z_int, PySem.W.mg_none_of X G z_isinstance, PySem.W.mg_none_of X G z_min⟩
  have OT : OTx K mg (cl4of xNoTask xNoPage xNoRoom xTaken) := ⟨fun Z0 => match Z0 with | .noTask => ⟨uObNoTask, uBeNoTask, uGaNoTask, uGbNoTask, uCcNoTask, uCg, uCt⟩ | .noPage => ⟨uObNoPage, uBeNoPage, uGaNoPage, uGbNoPage, uCcNoPage, uCg, uCt⟩ | .noRoom => ⟨uObNoRoom, uBeNoRoom, uGaNoRoom, uGbNoRoom, uCcNoRoom, uCg, uCt⟩ | .taken => ⟨uObTaken, uBeTaken, uGaTaken, uGbTaken, uCcTaken, uCg, uCt⟩, PySem.W.mg_none_of X G z_ValueError, fun Z0 => match Z0 with | .noTask => vVNoTask | .noPage => vVNoPage | .noRoom => vVNoRoom | .taken => vVTaken, fun Z0 => match Z0 with | .noTask => PySem.W.mg_of X G yNoTask | .noPage => PySem.W.mg_of X G yNoPage | .noRoom => PySem.W.mg_of X G yNoRoom | .taken => PySem.W.mg_of X G yTaken, fun Z1 Z2 => match Z1, Z2 with | .noTask, .noTask => vNoTaskNoTask | .noTask, .noPage => vNoTaskNoPage | .noTask, .noRoom => vNoTaskNoRoom | .noTask, .taken => vNoTaskTaken | .noPage, .noTask => vNoPageNoTask | .noPage, .noPage => vNoPageNoPage | .noPage, .noRoom => vNoPageNoRoom | .noPage, .taken => vNoPageTaken | .noRoom, .noTask => vNoRoomNoTask | .noRoom, .noPage => vNoRoomNoPage | .noRoom, .noRoom => vNoRoomNoRoom | .noRoom, .taken => vNoRoomTaken | .taken, .noTask => vTakenNoTask | .taken, .noPage => vTakenNoPage | .taken, .noRoom => vTakenNoRoom | .taken, .taken => vTakenTaken⟩
  let KT : Kit l.prog w K mg base C (cl4of xNoTask xNoPage xNoRoom xTaken) := ⟨_, _, _, _, _, _, _, _, _, _, _, _, _, _, _, _, T.cl, GBe, b2, ⟨a2, i2, k2⟩, GCl, b3, ⟨a3, i3, k3⟩, GMp, b4, ⟨a4, i4, k4⟩, GDr, b5, ⟨a5, i5, k5⟩, GPe, b6, ⟨a6, i6, k6⟩, GPk, b7, ⟨a7, i7, k7⟩, GCo, b8, ⟨a8, i8, k8⟩, GH, b9, ⟨a9, i9, k9⟩⟩
  have GNu := ok_number (P := l.prog) (w := w) (base := base) (mg := mg) F21
  have GTs := ok_tasks (P := l.prog) (w := w) (base := base) (mg := mg) F22
  have GFa := ok_far (P := l.prog) (w := w) (base := base) (mg := mg) F27
  have GDo := ok_do F23 KT
  have GWo := fun hx : Addr => ok_word (e := hx) (P := l.prog) (w := w) (base := base) F24 MT OT
  have GTo := ok_told F25 (PySem.W.mg_of X G yKernelError) (fun Z0 => match Z0 with | .noTask => vMNoTask | .noPage => vMNoPage | .noRoom => vMNoRoom | .taken => vMTaken) GDo ⟨PySem.W.mg_of X G a23, k23, b23⟩ GWo ⟨PySem.W.mg_of X G a24, k24, b24⟩
  have GSt := ok_state F26 MT KT
  have GNc := ok_noCells F29 KT GTo ⟨PySem.W.mg_of X G a25, k25, b25⟩
  have GFu := ok_full F31 GTo ⟨PySem.W.mg_of X G a25, k25, b25⟩
  have GSm := ok_small F30 MT KT (PySem.W.mg_of X G aC) ⟨mkC, a1, i1, kcC⟩ GI b1 GTo ⟨PySem.W.mg_of X G a25, k25, b25⟩
  have GBa := ok_bad F28 GFa ⟨PySem.W.mg_of X G a27, k27, b27⟩
  exact ok_law F32 MT KT (PySem.W.mg_of X G aC) ⟨mkC, a1, i1, kcC⟩ GI b1 GNu ⟨PySem.W.mg_of X G a21, k21, b21⟩ GTs ⟨PySem.W.mg_of X G a22, k22, b22⟩ GTo ⟨PySem.W.mg_of X G a25, k25, b25⟩ GSt ⟨PySem.W.mg_of X G a26, k26, b26⟩ GBa ⟨PySem.W.mg_of X G a28, k28, b28⟩ GNc ⟨PySem.W.mg_of X G a29, k29, b29⟩ GSm ⟨PySem.W.mg_of X G a30, k30, b30⟩ GFu ⟨PySem.W.mg_of X G a31, k31, b31⟩
theorem walk {l : PySem.W.OpenLaw} {q : Program} {loose : List Str} {XP : (Str → Option Value) → Heap → Prop} {YP : World → Heap → Prop} {d : DefRec} {K : Params → PySem.W.Frag} (hn : l.most = some 63) (hdf : d.params.defaults = [])
    (hY : ∀ (w : World) (h : Heap), YP w h → (K w.params).In h)
    (F : ∀ (w : World) (mg : Str → Option Value) (fa : Addr) (h : Heap), (K w.params).In h → h.Ns mainGlobals mg → mg d.name = some (.ref fa) →
      ∃ fd : FuncData, (∀ (s : Shared) (u : Value), BindsTo s fd ⟨[u], []⟩ [("_law_script", u)]) ∧ ∀ base : Heap, (K w.params).In base → base.Ns mainGlobals mg → FnOk l.prog w (K w.params) mg base CX0 7 fa fd ["_law_script"] (spLaw (K w.params))) :
    PySem.W.WalkO q loose XP YP l.row.toRowW d [] (fun f vs => PySem.call f vs) :=
  L2.walk_of (n := 63) (k := 7) (x := "_law_script") (CX := fun _ => CX0) (sp := fun w => spLaw (K w.params)) hn (by decide) hdf ⟨rfl, by decide, by decide⟩ hY F (fun _ _ a ns hl _ hS => ⟨a, ns, rfl, hS, hl, fun _ => rfl⟩) fun _ _ _ _ _ z => z
end Rm
open PySem PySem.W PyProof.Rows
set_option maxRecDepth 100000 in
set_option maxHeartbeats 0 in
theorem PySem.Challenge.cw_ownroom_k21_plain_rooms_refused_holds : PySem.Challenge.rw_ownroom_k21_plain_rooms_refused.Holds := by
  w_on; o_law; k_head; (case hw => w_witness2)
  k_fill
  refine Rm.walk (l := PySem.Challenge.rw_ownroom_k21_plain_rooms_refused) rfl rfl (fun w h Y => PySem.W.kIn_of Y) ?F
  case F =>
    intro w mg fa h KX G hmg
    refine' Rm.all_mk KX G hmg ?aC ?a1 ?i1 ?l1 ?c1 ?k1 ?a2 ?i2 ?l2 ?c2 ?k2 ?a3 ?i3 ?l3 ?c3 ?k3 ?a4 ?i4 ?l4 ?c4 ?k4 ?a5 ?i5 ?l5 ?c5 ?k5 ?a6 ?i6 ?l6 ?c6 ?k6 ?a7 ?i7 ?l7 ?c7 ?k7 ?a8 ?i8 ?l8 ?c8 ?k8 ?a9 ?i9 ?l9 ?c9 ?k9 ?pgC ?hdC ?poC ?saC ?mkC ?kcC ?nC0 ?nC1 ?a10 ?l10 ?c10 ?k10 ?a11 ?l11 ?c11 ?k11 ?a12 ?l12 ?c12 ?k12 ?a13 ?l13 ?c13 ?k13 ?a14 ?l14 ?c14 ?k14 ?a15 ?l15 ?c15 ?k15 ?a16 ?l16 ?c16 ?k16 ?a17 ?l17 ?c17 ?k17 ?a18 ?l18 ?c18 ?k18 ?a19 ?l19 ?c19 ?k19 ?a20 ?l20 ?c20 ?k20 ?a21 ?l21 ?c21 ?k21 ?a22 ?l22 ?c22 ?k22 ?a23 ?l23 ?c23 ?k23 ?a24 ?l24 ?c24 ?k24 ?a25 ?l25 ?c25 ?k25 ?a26 ?l26 ?c26 ?k26 ?a27 ?l27 ?c27 ?k27 ?a28 ?l28 ?c28 ?k28 ?a29 ?l29 ?c29 ?k29 ?a30 ?l30 ?c30 ?k30 ?a31 ?l31 ?c31 ?k31 ?a32 ?l32 ?c32 ?k32 ?q0 ?q1 ?z_list ?z_len ?z_range ?z_enumerate ?z_int ?z_sum ?z_zip ?z_isinstance ?z_min ?z_ValueError ?yNoTask ?yNoPage ?yNoRoom ?yTaken ?yKernelError ?vENoTask ?vMNoTask ?vVNoTask ?vNoTaskNoTask ?vNoTaskNoPage ?vNoTaskNoRoom ?vNoTaskTaken ?uObNoTask ?uBeNoTask ?uGaNoTask ?uGbNoTask ?uCcNoTask ?vENoPage ?vMNoPage ?vVNoPage ?vNoPageNoTask ?vNoPageNoPage ?vNoPageNoRoom ?vNoPageTaken ?uObNoPage ?uBeNoPage ?uGaNoPage ?uGbNoPage ?uCcNoPage ?vENoRoom ?vMNoRoom ?vVNoRoom ?vNoRoomNoTask ?vNoRoomNoPage ?vNoRoomNoRoom ?vNoRoomTaken ?uObNoRoom ?uBeNoRoom ?uGaNoRoom ?uGbNoRoom ?uCcNoRoom ?vETaken ?vMTaken ?vVTaken ?vTakenNoTask ?vTakenNoPage ?vTakenNoRoom ?vTakenTaken ?uObTaken ?uBeTaken ?uGaTaken ?uGbTaken ?uCcTaken ?uCg ?uCt
    (case aC => k_is)
    (case a1 => k_is)
    (case i1 => k_is)
    (case l1 => k_is)
    (case c1 => k_is)
    (case k1 => k_is)
    (case a2 => k_is)
    (case i2 => k_is)
    (case l2 => k_is)
    (case c2 => k_is)
    (case k2 => k_is)
    (case a3 => k_is)
    (case i3 => k_is)
    (case l3 => k_is)
    (case c3 => k_is)
    (case k3 => k_is)
    (case a4 => k_is)
    (case i4 => k_is)
    (case l4 => k_is)
    (case c4 => k_is)
    (case k4 => k_is)
    (case a5 => k_is)
    (case i5 => k_is)
    (case l5 => k_is)
    (case c5 => k_is)
    (case k5 => k_is)
    (case a6 => k_is)
    (case i6 => k_is)
    (case l6 => k_is)
    (case c6 => k_is)
    (case k6 => k_is)
    (case a7 => k_is)
    (case i7 => k_is)
    (case l7 => k_is)
    (case c7 => k_is)
    (case k7 => k_is)
    (case a8 => k_is)
    (case i8 => k_is)
    (case l8 => k_is)
    (case c8 => k_is)
    (case k8 => k_is)
    (case a9 => k_is)
    (case i9 => k_is)
    (case l9 => k_is)
    (case c9 => k_is)
    (case k9 => k_is)
    (case pgC => k_is)
    (case hdC => k_is)
    (case poC => k_is)
    (case saC => k_is)
    (case mkC => k_is)
    (case kcC => k_is)
    (case nC0 => k_is)
    (case nC1 => k_is)
    (case a10 => k_is)
    (case l10 => k_is)
    (case c10 => k_is)
    (case k10 => k_is)
    (case a11 => k_is)
    (case l11 => k_is)
    (case c11 => k_is)
    (case k11 => k_is)
    (case a12 => k_is)
    (case l12 => k_is)
    (case c12 => k_is)
    (case k12 => k_is)
    (case a13 => k_is)
    (case l13 => k_is)
    (case c13 => k_is)
    (case k13 => k_is)
    (case a14 => k_is)
    (case l14 => k_is)
    (case c14 => k_is)
    (case k14 => k_is)
    (case a15 => k_is)
    (case l15 => k_is)
    (case c15 => k_is)
    (case k15 => k_is)
    (case a16 => k_is)
    (case l16 => k_is)
    (case c16 => k_is)
    (case k16 => k_is)
    (case a17 => k_is)
    (case l17 => k_is)
    (case c17 => k_is)
    (case k17 => k_is)
    (case a18 => k_is)
    (case l18 => k_is)
    (case c18 => k_is)
    (case k18 => k_is)
    (case a19 => k_is)
    (case l19 => k_is)
    (case c19 => k_is)
    (case k19 => k_is)
    (case a20 => k_is)
    (case l20 => k_is)
    (case c20 => k_is)
    (case k20 => k_is)
    (case a21 => k_is)
    (case l21 => k_is)
    (case c21 => k_is)
    (case k21 => k_is)
    (case a22 => k_is)
    (case l22 => k_is)
    (case c22 => k_is)
    (case k22 => k_is)
    (case a23 => k_is)
    (case l23 => k_is)
    (case c23 => k_is)
    (case k23 => k_is)
    (case a24 => k_is)
    (case l24 => k_is)
    (case c24 => k_is)
    (case k24 => k_is)
    (case a25 => k_is)
    (case l25 => k_is)
    (case c25 => k_is)
    (case k25 => k_is)
    (case a26 => k_is)
    (case l26 => k_is)
    (case c26 => k_is)
    (case k26 => k_is)
    (case a27 => k_is)
    (case l27 => k_is)
    (case c27 => k_is)
    (case k27 => k_is)
    (case a28 => k_is)
    (case l28 => k_is)
    (case c28 => k_is)
    (case k28 => k_is)
    (case a29 => k_is)
    (case l29 => k_is)
    (case c29 => k_is)
    (case k29 => k_is)
    (case a30 => k_is)
    (case l30 => k_is)
    (case c30 => k_is)
    (case k30 => k_is)
    (case a31 => k_is)
    (case l31 => k_is)
    (case c31 => k_is)
    (case k31 => k_is)
    (case a32 => k_is)
    (case l32 => k_is)
    (case c32 => k_is)
    (case k32 => k_is)
    (case q0 => k_is)
    (case q1 => k_is)
    (case z_list => k_is)
    (case z_len => k_is)
    (case z_range => k_is)
    (case z_enumerate => k_is)
    (case z_int => k_is)
    (case z_sum => k_is)
    (case z_zip => k_is)
    (case z_isinstance => k_is)
    (case z_min => k_is)
    (case z_ValueError => k_is)
    (case yNoTask => k_is)
    (case yNoPage => k_is)
    (case yNoRoom => k_is)
    (case yTaken => k_is)
    (case yKernelError => k_is)
    (case vENoTask => k_exc)
    (case vMNoTask => kts_exm)
    (case vVNoTask => kit_is)
    (case vNoTaskNoTask => kit_is)
    (case vNoTaskNoPage => kit_is)
    (case vNoTaskNoRoom => kit_is)
    (case vNoTaskTaken => kit_is)
    (case uObNoTask => k_is)
    (case uBeNoTask => k_is)
    (case uGaNoTask => k_is)
    (case uGbNoTask => k_is)
    (case uCcNoTask => k_is)
    (case vENoPage => k_exc)
    (case vMNoPage => kts_exm)
    (case vVNoPage => kit_is)
    (case vNoPageNoTask => kit_is)
    (case vNoPageNoPage => kit_is)
    (case vNoPageNoRoom => kit_is)
    (case vNoPageTaken => kit_is)
    (case uObNoPage => k_is)
    (case uBeNoPage => k_is)
    (case uGaNoPage => k_is)
    (case uGbNoPage => k_is)
    (case uCcNoPage => k_is)
    (case vENoRoom => k_exc)
    (case vMNoRoom => kts_exm)
    (case vVNoRoom => kit_is)
    (case vNoRoomNoTask => kit_is)
    (case vNoRoomNoPage => kit_is)
    (case vNoRoomNoRoom => kit_is)
    (case vNoRoomTaken => kit_is)
    (case uObNoRoom => k_is)
    (case uBeNoRoom => k_is)
    (case uGaNoRoom => k_is)
    (case uGbNoRoom => k_is)
    (case uCcNoRoom => k_is)
    (case vETaken => k_exc)
    (case vMTaken => kts_exm)
    (case vVTaken => kit_is)
    (case vTakenNoTask => kit_is)
    (case vTakenNoPage => kit_is)
    (case vTakenNoRoom => kit_is)
    (case vTakenTaken => kit_is)
    (case uObTaken => k_is)
    (case uBeTaken => k_is)
    (case uGaTaken => k_is)
    (case uGbTaken => k_is)
    (case uCcTaken => k_is)
    (case uCg => k_is)
    (case uCt => k_is)
