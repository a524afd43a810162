import PyProof.Rows.All
import Wide.All
import OpenK.AllK
import Wide.FinOn
import Lean
import PyProof.EqAt
import PyProof.EqKinds
import PyProof.TupleCall
import PySem.Challenge.RW_ownroom_k28_each_fall_of_a_commit
set_option Elab.async false
set_option linter.all false
set_option maxRecDepth 100000
namespace L2
open PySem PySem.Spec PyProof.Rows

/-- a key: an int or a str -/
abbrev Key := Sum Int Str
def keyIs : Key → Value → Bool
  | .inl k, v => Value.isInt k v
  | .inr x, v => Value.isStrOf x v
def keyH (w : World) : Key → Int
  | .inl k => hashInt k
  | .inr x => hashStr w x
theorem keyIs_shape : ∀ {k : Key} {v : Value}, keyIs k v = true → (∃ i t, k = Sum.inl i ∧ v = Value.int i t) ∨ (∃ x t, k = Sum.inr x ∧ v = Value.str x t)
  | .inl i, v, h => by
    obtain ⟨t, e⟩ := Value.isInt_shape (k := i) (v := v) h
    exact .inl ⟨i, t, rfl, e⟩
  | .inr x, v, h => by
    obtain ⟨t, e⟩ := Value.isStrOf_shape (x := x) (v := v) h
    exact .inr ⟨x, t, rfl, e⟩
theorem keyIs_int (i : Int) (t : Tok) : keyIs (.inl i) (.int i t) = true := by simp [keyIs, Value.isInt]
theorem keyIs_str (x : Str) (t : Tok) : keyIs (.inr x) (.str x t) = true := by simp [keyIs, Value.isStrOf]
theorem key_ll (a b : Int) : decide ((Sum.inl a : Key) = Sum.inl b) = (a == b) := by
  by_cases e : a = b
  · subst e; simp
  · have h : ¬ (Sum.inl a : Key) = Sum.inl b := fun q => e (Sum.inl.inj q)
    rw [decide_eq_false h]
    exact (beq_eq_false_iff_ne.mpr e).symm
theorem key_rr (a b : Str) : decide ((Sum.inr a : Key) = Sum.inr b) = decide (a = b) := by
  by_cases e : a = b
  · subst e; simp
  · have h : ¬ (Sum.inr a : Key) = Sum.inr b := fun q => e (Sum.inr.inj q)
    rw [decide_eq_false h, decide_eq_false e]
theorem key_lr (a : Int) (b : Str) : decide ((Sum.inl a : Key) = Sum.inr b) = false := decide_eq_false (fun q => nomatch q)
theorem key_rl (a : Str) (b : Int) : decide ((Sum.inr a : Key) = Sum.inl b) = false := decide_eq_false (fun q => nomatch q)

def mixKind (prog : Program) (w : World) : PySem.KeyKind prog w Key where
  is := keyIs
  hash := keyH w
  inj := fun v a b ha hb => by
    rcases keyIs_shape ha with ⟨i, t, rfl, rfl⟩ | ⟨x, t, rfl, rfl⟩
    · rcases keyIs_shape hb with ⟨j, u, rfl, e⟩ | ⟨y, u, rfl, e⟩
      · injection e with e1 _; rw [e1]
      · exact nomatch e
    · rcases keyIs_shape hb with ⟨j, u, rfl, e⟩ | ⟨y, u, rfl, e⟩
      · exact nomatch e
      · injection e with e1 _; rw [e1]
  byValue := fun k v h => by
    rcases keyIs_shape h with ⟨i, t, rfl, rfl⟩ | ⟨x, t, rfl, rfl⟩ <;> rfl
  pyHash := fun hv h => by
    rcases keyIs_shape hv with ⟨i, t, rfl, rfl⟩ | ⟨x, t, rfl, rfl⟩
    · exact wpAny_pyHash_int h
    · exact wpAny_pyHash_str h
  eqBool := fun hu hv h => by
    rcases keyIs_shape hu with ⟨i, t, rfl, rfl⟩ | ⟨x, t, rfl, rfl⟩
    · rcases keyIs_shape hv with ⟨j, u, rfl, rfl⟩ | ⟨y, u, rfl, rfl⟩
      · rw [key_ll] at h; exact wpAny_eqBool_int h
      · rw [key_lr] at h; exact SeqAt.EqAt.int_str i t y u _ _ _ _ h
    · rcases keyIs_shape hv with ⟨j, u, rfl, rfl⟩ | ⟨y, u, rfl, rfl⟩
      · rw [key_rl] at h; exact SeqAt.EqAt.str_int x t j u _ _ _ _ h
      · rw [key_rr] at h; exact wpAny_eqBool_str h
  «strs» := fun k x t v h => by
    rcases keyIs_shape h with ⟨i, u, rfl, e⟩ | ⟨y, u, rfl, e⟩
    · exact nomatch e
    · injection e with e1 _
      subst e1
      cases v <;> rfl

theorem mixKind_int (prog : Program) (w : World) (i : Int) (t : Tok) : (mixKind prog w).is (.inl i) (.int i t) = true := keyIs_int i t
theorem mixKind_str (prog : Program) (w : World) (x : Str) (t : Tok) : (mixKind prog w).is (.inr x) (.str x t) = true := keyIs_str x t
end L2

namespace L2
open PySem PySem.Spec PyProof.Rows

/-- a value, without the heap -/
inductive V where
  | non | bl (b : Bool) | int (i : Int) | str (x : Str) | byt (b : Array UInt8) | flt (b : UInt64) | ref (a : Addr) | ty (n : String)
  deriving DecidableEq

def RelV : V → Value → Prop
  | .non, u => u = Value.none
  | .bl b, u => u = Value.bool b
  | .int i, u => ∃ t, u = Value.int i t
  | .str x, u => ∃ t, u = Value.str x t
  | .byt b, u => ∃ t, u = Value.bytes b t
  | .flt b, u => ∃ t, u = Value.float b t
  | .ref a, u => u = Value.ref a
  | .ty n, u => u = Value.type n

abbrev Vals : List V → List Value → Prop := Paired RelV
theorem Vals.length {xs : List V} {us : List Value} (r : Vals xs us) : xs.length = us.length := Paired.length r
theorem Vals.get : ∀ {xs : List V} {us : List Value} {i : Nat} {x : V}, Vals xs us → xs[i]? = some x → ∃ u, us[i]? = some u ∧ RelV x u
  | _, _, _, _, .nil, e => by simp at e
  | _, _, 0, _, .cons r _, e => by simp at e; subst e; exact ⟨_, rfl, r⟩
  | _, _, i + 1, x, .cons _ t, e => by
    obtain ⟨u, h1, h2⟩ := Vals.get (i := i) (x := x) t (by simpa using e)
    exact ⟨u, by simpa using h1, h2⟩
theorem Vals.set {x : V} {u : Value} (r : RelV x u) : ∀ {xs : List V} {us : List Value} (i : Nat), Vals xs us → Vals (xs.set i x) (us.set i u)
  | _, _, _, .nil => .nil
  | _, _, 0, .cons _ t => .cons r t
  | _, _, i + 1, .cons q t => .cons q (Vals.set r i t)
theorem Vals.append : ∀ {xs ys : List V} {us ws : List Value}, Vals xs us → Vals ys ws → Vals (xs ++ ys) (us ++ ws)
  | _, _, _, _, .nil, s => s
  | _, _, _, _, .cons r t, s => .cons r (Vals.append t s)
theorem Vals.take : ∀ {xs : List V} {us : List Value} (n : Nat), Vals xs us → Vals (xs.take n) (us.take n)
  | _, _, 0, _ => .nil
  | _, _, _ + 1, .nil => .nil
  | _, _, n + 1, .cons r t => .cons r (Vals.take n t)
theorem Vals.drop : ∀ {xs : List V} {us : List Value} (n : Nat), Vals xs us → Vals (xs.drop n) (us.drop n)
  | _, _, 0, r => r
  | _, _, _ + 1, .nil => .nil
  | _, _, n + 1, .cons _ t => Vals.drop n t
def RelO : Option V → Option Value → Prop
  | some v, some u => RelV v u
  | none, none => True
  | _, _ => False
def KV {κ : Type} : List (κ × V) → List (κ × Value) → Prop := Paired fun (p : κ × V) (q : κ × Value) => p.1 = q.1 ∧ RelV p.2 q.2

/-- a key of a dict (00_mix): an int or a text -/
def kV : Key → V
  | .inl i => .int i
  | .inr x => .str x

/-- what stands at a tracked address -/
inductive HO where
  /-- a list -/
  | lst (xs : List V)
  /-- a tuple (never changes) -/
  | tup (xs : List V)
  /-- a dict whose keys are ints and texts; one whose keys are tuples of ints and texts (the empty one is both) -/
  | dK (kvs : List (Key × V)) | dT (kvs : List (List Key × V))
  /-- a set of ints: its members, its size -/
  | set (S : Int → Bool) (n : Nat)
  /-- an instance of the class at C, its dict at dx, its attributes -/
  | ins (C dx : Addr) (fs : List (Str × V))
  /-- the dict of the instance at x -/
  | own (x : Addr)
  /-- the dict of an exception -/
  | xd (fs : List (Str × V))
  /-- a bound method, f of x -/
  | met (f x : Addr)
  /-- a range object lo, lo + 1, .. below hi -/
  | rng (lo hi : Int)
  /-- a thing that is known to the object (the script; a dict while a loop walks it): read, never written while it is so -/
  | frz (o : Obj) (u : HO)
  /-- a code object's table -/
  | tbl (ps : Array Value)
  /-- any other thing, by what is true of its one object (a def of one's own: SetO a S n := HO.ext fun h => ..) -/
  | ext (φ : Heap → Prop)

abbrev Hp := Addr → Option HO
def upd (H : Hp) (a : Addr) (o : HO) : Hp := fun b => if b = a then some o else H b
theorem upd_same {H : Hp} {a : Addr} {o : HO} : upd H a o a = some o := by unfold upd; rw [if_pos rfl]
theorem upd_ne {H : Hp} {a b : Addr} {o : HO} (h : b ≠ a) : upd H a o b = H b := by unfold upd; rw [if_neg h]
/-- two objects of different content stand apart -/
theorem ne_of {H : Hp} {a b : Addr} {o u : HO} (h : H a = some o) (h' : H b = some u) (d : o ≠ u) : a ≠ b := by
  intro e; subst e; rw [h] at h'; exact d (Option.some.inj h')
theorem ne_of_none {H : Hp} {a b : Addr} {o : HO} (h : H a = some o) (h' : H b = none) : a ≠ b := by
  intro e; subst e; rw [h] at h'; cases h'

section
variable (P : Program) (w : World)
def ObjOk (H : Hp) (h : Heap) (a : Addr) : HO → Prop
  | .lst xs => xs.length ≤ sizeLine ∧ ∃ (its : List Value) (n : Nat), Vals xs its ∧ h.get? a = some { cls := .type "list", data := .seq its.toArray n }
  | .tup xs => xs.length ≤ sizeLine ∧ ∃ its : List Value, Vals xs its ∧ IsTup h a its.toArray
  | .dK kvs => kvs.length ≤ sizeLine ∧ (a == sysModules) = false ∧ ∃ vs, KV kvs vs ∧ h.DictOf (mixKind P w) a vs
  | .dT kvs => kvs.length ≤ sizeLine ∧ (a == sysModules) = false ∧ ∃ xs : List (List Key × Addr × Value),
      Paired (fun (p : List Key × V) (q : List Key × Addr × Value) => p.1 = q.1 ∧ H q.2.1 = some (.tup (p.1.map kV)) ∧ RelV p.2 q.2.2) kvs xs ∧
      ∃ o es ep, h.get? a = some o ∧ o.ExactDict ∧ o.data = .dict es ep ∧ es.toList = xs.map (entryOfKey (tupleKind (mixKind P w))) ∧ (xs.map (·.1)).Nodup
  | .set S n => h.SetOf (intKind P w) a S n
  | .ins C dx fs => H dx = some (.own a) ∧ fs.length ≤ 1000 ∧ dx ≠ a ∧ h.get? a = some (PySem.W.instObj C dx) ∧
      ∃ mA, h.Ns1 dx mA ∧ (∀ f, RelO (fs.lookup f) (mA f)) ∧ PySem.Within mA (fs.map (·.1))
  | .own _ => ∃ o, h.get? a = some o
  | .xd fs => ∃ mA, h.Ns1 a mA ∧ ∀ f, RelO (fs.lookup f) (mA f)
  | .rng lo hi => ∃ t u v, h.get? a = some { cls := .type "range", data := .fields #[.int lo t, .int hi u, .int 1 v] }
  | .frz o u => h.get? a = some o ∧ ObjOk H h a u
  | .tbl ps => h.get? a = some { cls := .none, data := .fields ps }
  | .met f x => h.get? a = some (PySem.W.methodObj (.ref f) (.ref x))
  | .ext φ => φ h ∧ (∃ o, h.get? a = some o) ∧ ∀ h1 h2 : Heap, φ h1 → (∀ o, h1.get? a = some o → h2.get? a = some o) → φ h2
/-- the abstract heap is held -/
def HOk (H : Hp) (h : Heap) : Prop := ∀ a o, H a = some o → ObjOk P w H h a o
end

section
variable {P : Program} {w : World} {H H' : Hp} {h h' : Heap} {a : Addr} {o : HO}
theorem ObjOk.lt (x : ObjOk P w H h a o) : a < h.objs.size := by
  cases o with
  | lst xs => obtain ⟨_, _, _, _, e⟩ := x; exact Heap.lt_size e
  | tup xs => obtain ⟨_, _, _, p⟩ := x; exact p.lt
  | dK kvs => obtain ⟨_, _, _, _, o, _, _, e, _⟩ := x; exact Heap.lt_size e
  | dT kvs => obtain ⟨_, _, _, _, o, _, _, e, _⟩ := x; exact Heap.lt_size e
  | set S n => obtain ⟨o, _, _, _, e, _⟩ := x; exact Heap.lt_size e
  | ins C dx fs => obtain ⟨_, _, _, e, _⟩ := x; exact Heap.lt_size e
  | own y => obtain ⟨_, e⟩ := x; exact Heap.lt_size e
  | xd fs => obtain ⟨_, ⟨_, _, _, e, _⟩, _⟩ := x; exact Heap.lt_size e
  | rng lo hi => obtain ⟨_, _, _, e⟩ := x; exact Heap.lt_size e
  | frz ob u => obtain ⟨e, _⟩ := x; exact Heap.lt_size e
  | tbl ps => exact Heap.lt_size (show h.get? a = some _ from x)
  | met f y => exact Heap.lt_size (show h.get? a = some _ from x)
  | ext φ => obtain ⟨_, ⟨_, e⟩, _⟩ := x; exact Heap.lt_size e
theorem Paired.mapP {α β : Type} {F G : α → β → Prop} : ∀ {l₁ : List α} {l₂ : List β}, Paired F l₁ l₂ → (∀ a b, F a b → G a b) → Paired G l₁ l₂
  | _, _, .nil, _ => .nil
  | _, _, .cons r t, f => .cons (f _ _ r) (Paired.mapP t f)
/-- what an object's description leans on: its own object, its own dict, the tuples -/
theorem ObjOk.stay (x : ObjOk P w H h a o) (k : ∀ b u, (b = a ∨ H b = some (.own a)) → h.get? b = some u → h'.get? b = some u)
    (ho : ∀ b, H b = some (.own a) → H' b = some (.own a)) (ht : ∀ b xs, H b = some (.tup xs) → H' b = some (.tup xs)) : ObjOk P w H' h' a o := by
  induction o with
  | lst xs => obtain ⟨z, its, n, r, e⟩ := x; exact ⟨z, its, n, r, k _ _ (.inl rfl) e⟩
  | tup xs => obtain ⟨z, its, r, ob, e, c⟩ := x; exact ⟨z, its, r, ob, k _ _ (.inl rfl) e, c⟩
  | dK kvs => obtain ⟨z, y, vs, r, ob, es, ep, e, c⟩ := x; exact ⟨z, y, vs, r, ob, es, ep, k _ _ (.inl rfl) e, c⟩
  | dT kvs =>
    obtain ⟨z, y, xs, r, ob, es, ep, e, c⟩ := x
    exact ⟨z, y, xs, Paired.mapP r fun p q z => ⟨z.1, ht _ _ z.2.1, z.2.2⟩, ob, es, ep, k _ _ (.inl rfl) e, c⟩
  | set S n => obtain ⟨ob, es, ep, t, e, c⟩ := x; exact ⟨ob, es, ep, t, k _ _ (.inl rfl) e, c⟩
  | ins C dx fs =>
    obtain ⟨d, z, ne, e, mA, ⟨od, es, ep, e2, c⟩, r⟩ := x
    exact ⟨ho _ d, z, ne, k _ _ (.inl rfl) e, mA, ⟨od, es, ep, k _ _ (.inr d) e2, c⟩, r⟩
  | own y => obtain ⟨ob, e⟩ := x; exact ⟨ob, k _ _ (.inl rfl) e⟩
  | xd fs => obtain ⟨mA, ⟨od, es, ep, e, c⟩, r⟩ := x; exact ⟨mA, ⟨od, es, ep, k _ _ (.inl rfl) e, c⟩, r⟩
  | rng lo hi => obtain ⟨t, u, v, e⟩ := x; exact ⟨t, u, v, k _ _ (.inl rfl) e⟩
  | frz ob u ih => obtain ⟨e, q⟩ := x; exact ⟨k _ _ (.inl rfl) e, ih q⟩
  | tbl ps =>
    have e : h.get? a = some { cls := .none, data := .fields ps } := x
    show h'.get? a = some { cls := .none, data := .fields ps }
    exact k a _ (.inl rfl) e
  | met f y =>
    have e : h.get? a = some (PySem.W.methodObj (.ref f) (.ref y)) := x
    show h'.get? a = some (PySem.W.methodObj (.ref f) (.ref y))
    exact k a _ (.inl rfl) e
  | ext φ => obtain ⟨p, ⟨o, e⟩, st⟩ := x; exact ⟨st _ _ p fun o q => k _ _ (.inl rfl) q, ⟨o, k _ _ (.inl rfl) e⟩, st⟩
theorem HOk.lt (x : HOk P w H h) (e : H a = some o) : a < h.objs.size := (x a o e).lt
theorem HOk.fresh (x : HOk P w H h) (e : h.objs.size ≤ a) : H a = none := by
  cases q : H a with
  | none => rfl
  | some u => exact absurd (Nat.lt_of_lt_of_le (x.lt q) e) (Nat.lt_irrefl _)
/-- every object of the heap is kept -/
theorem HOk.kept (x : HOk P w H h) (k : ∀ b u, h.get? b = some u → h'.get? b = some u) : HOk P w H h' := fun a o e =>
  (x a o e).stay (fun b u _ q => k b u q) (fun _ q => q) fun _ _ q => q
/-- a new object is laid and tracked -/
theorem HOk.laid (x : HOk P w H h) (k : ∀ b u, h.get? b = some u → h'.get? b = some u) (hp : h.objs.size ≤ a) (new : ObjOk P w (upd H a o) h' a o) : HOk P w (upd H a o) h' := fun b u e => by
  have hn := x.fresh hp
  by_cases hb : b = a
  · subst hb; rw [upd_same] at e; cases e; exact new
  · rw [upd_ne hb] at e
    exact (x b u e).stay (fun c v _ q => k c v q) (fun c q => by rw [upd_ne (ne_of_none q hn)]; exact q) fun c xs q => by rw [upd_ne (ne_of_none q hn)]; exact q
end

/-- what may be read as u: it is u, or a known u -/
def Rd (H : Hp) (a : Addr) (u : HO) : Prop := H a = some u ∨ ∃ o, H a = some (.frz o u)
theorem Rd.ok {P : Program} {w : World} {H : Hp} {h : Heap} {a : Addr} {u : HO} (r : Rd H a u) (x : HOk P w H h) : ObjOk P w H h a u := by
  rcases r with r | ⟨o, r⟩
  · exact x a u r
  · obtain ⟨_, q⟩ := x a _ r
    exact q
/-- what may be written -/
def Mut : Option HO → Prop
  | some (.lst _) => True
  | some (.dK _) => True
  | some (.dT _) => True
  | some (.set _ _) => True
  | some (.ins _ _ _) => True
  | some (.ext _) => True
  | _ => False
section
variable {P : Program} {w : World} {H : Hp} {h h' : Heap} {x e : Addr} {o' : HO}
/-- the object at e is changed: x itself, or the dict of the instance x -/
theorem HOk.write (ok : HOk P w H h) (mu : Mut (H x)) (he : e = x ∨ H e = some (.own x)) (k : ∀ b u, b ≠ e → h.get? b = some u → h'.get? b = some u) (heo : ∃ u, h'.get? e = some u)
    (new : ObjOk P w (upd H x o') h' x o') : HOk P w (upd H x o') h' := fun b u q => by
  have nown : ∀ c y, H c = some (.own y) → c ≠ x := fun c y r z => by subst z; rw [r] at mu; exact mu
  have ntup : ∀ c xs, H c = some (.tup xs) → c ≠ x := fun c xs r z => by subst z; rw [r] at mu; exact mu
  by_cases hb : b = x
  · subst hb; rw [upd_same] at q; cases q; exact new
  · rw [upd_ne hb] at q
    by_cases hbe : b = e
    · have q' : H b = some (.own x) := by
        rcases he with z | z
        · exact absurd (hbe.trans z) hb
        · rw [hbe]; exact z
      rw [q] at q'; cases q'
      obtain ⟨v, hv⟩ := heo
      exact ⟨v, by rw [hbe]; exact hv⟩
    · refine (ok b u q).stay (fun c v hc r => k c v ?_ r) (fun c r => by rw [upd_ne (nown c b r)]; exact r) fun c xs r => by rw [upd_ne (ntup c xs r)]; exact r
      rcases hc with rfl | hc
      · exact hbe
      · rintro rfl
        rcases he with z | z
        · exact nown c b hc z
        · rw [hc] at z; cases z; exact hb rfl
end

structure Un (fs ex : List Addr) (H H' : Hp) (h h' : Heap) : Prop where
  keep : ∀ b o, h.get? b = some o → H b = none → b ∉ fs → b ∉ ex → h'.get? b = some o
  slot : ∀ b o, h.get? b = some o → H b = none → b ∈ fs → b ∉ ex → ∃ sl, h'.get? b = some { o with slots := sl }
  free : ∀ b o, h.get? b = some o → H b = none → b ∉ ex → H' b = none
  there : ∀ b o, h.get? b = some o → b ∉ ex → ∃ o', h'.get? b = some o'
  tups : ∀ b xs, H b = some (.tup xs) → H' b = some (.tup xs)
  frzs : ∀ b o u, H b = some (.frz o u) → H' b = some (.frz o u)
  tbls : ∀ b ps, H b = some (.tbl ps) → ∃ more, H' b = some (.tbl (ps ++ more))
section
variable {fs fs' ex ex' : List Addr} {H H1 H2 : Hp} {h h1 h2 h' : Heap} {a x e : Addr} {o : HO}
theorem Un.any (u : Un fs ex H H1 h h1) {b : Addr} {ob : Obj} (q : h.get? b = some ob) (n : H b = none) (hx : b ∉ ex) : ∃ sl, h1.get? b = some { ob with slots := sl } := by
  by_cases hb : b ∈ fs
  · exact u.slot b ob q n hb hx
  · exact ⟨ob.slots, u.keep b ob q n hb hx⟩
theorem Un.kept (k : ∀ b u, h.get? b = some u → h'.get? b = some u) : Un fs ex H H h h' :=
  ⟨fun b ob q _ _ _ => k b ob q, fun b ob q _ _ _ => ⟨ob.slots, k b ob q⟩, fun _ _ _ n _ => n, fun b ob q _ => ⟨ob, k b ob q⟩, fun _ _ q => q, fun _ _ _ q => q, fun _ ps q => ⟨#[], by rw [q]; simp⟩⟩
theorem Un.refl : Un fs ex H H h h := Un.kept fun _ _ q => q
theorem Un.laid (k : ∀ b u, h.get? b = some u → h'.get? b = some u) (hp : h.objs.size ≤ a) (hn : H a = none) : Un fs ex H (upd H a o) h h' where
  keep := fun b u q _ _ _ => k b u q
  slot := fun b u q _ _ _ => ⟨u.slots, k b u q⟩
  free := fun b u q n _ => by rw [upd_ne (Nat.ne_of_lt (Nat.lt_of_lt_of_le (Heap.lt_size q) hp))]; exact n
  there := fun b u q _ => ⟨u, k b u q⟩
  tups := fun b xs q => by rw [upd_ne (ne_of_none q hn)]; exact q
  frzs := fun b u xs q => by rw [upd_ne (ne_of_none q hn)]; exact q
  tbls := fun b ps q => ⟨#[], by rw [upd_ne (ne_of_none q hn), q]; simp⟩
theorem Un.write (mu : Mut (H x)) (he : e = x ∨ H e = some (.own x)) (k : ∀ b u, b ≠ e → h.get? b = some u → h'.get? b = some u) (heo : ∃ u, h'.get? e = some u) : Un fs ex H (upd H x o) h h' := by
  have hx : ∀ b, H b = none → b ≠ x := fun b n z => by subst z; rw [n] at mu; exact mu
  have hb : ∀ b, H b = none → b ≠ e := fun b n z => by
    subst z
    rcases he with r | r
    · exact hx b n r
    · rw [n] at r; cases r
  have hm : ∀ b u, H b = some u → ¬ Mut (some u) → b ≠ x := fun b u q nm z => by subst z; rw [q] at mu; exact nm mu
  refine ⟨fun b u q n _ _ => k b u (hb b n) q, fun b u q n _ _ => ⟨u.slots, k b u (hb b n) q⟩, fun b u q n _ => by rw [upd_ne (hx b n)]; exact n, fun b u q _ => ?_,
    fun b xs q => by rw [upd_ne (hm b _ q fun z => z)]; exact q, fun b u xs q => by rw [upd_ne (hm b _ q fun z => z)]; exact q, fun b ps q => ⟨#[], by rw [upd_ne (hm b _ q fun z => z), q]; simp⟩⟩
  by_cases hbe : b = e
  · subst hbe; exact heo
  · exact ⟨u, k b u hbe q⟩
end

def trk (h : Heap) (H : Hp) : List Addr := (List.range h.objs.size).filter fun a => (H a).isSome
def hidT (h : Heap) (H : Hp) : Heap := PySem.W.hideAll h (trk h H)
theorem hidT_size (h : Heap) (H : Hp) : (hidT h H).objs.size = h.objs.size := PySem.W.hideAll_size _ _
theorem hidT_get {h : Heap} {H : Hp} {b : Addr} {o : Obj} (e : h.get? b = some o) (n : H b = none) : (hidT h H).get? b = some o :=
  PySem.W.hideAll_get _ e fun hm => by
    have q : (H b).isSome = true := (List.mem_filter.mp hm).2
    rw [n] at q; simp at q
theorem of_hidT {h : Heap} {H : Hp} {b : Addr} {o : Obj} (e : (hidT h H).get? b = some o) : h.get? b = some o ∧ H b = none := by
  have e' : h.get? b = some o := PySem.W.of_hideAll (trk h H) e
  refine ⟨e', ?_⟩
  cases q : H b with
  | none => rfl
  | some x =>
    have hm : b ∈ trk h H := List.mem_filter.mpr ⟨List.mem_range.mpr (Heap.lt_size e'), by simp [q]⟩
    have z : (hidT h H).get? b = none := PySem.W.hideAll_none (trk h H) hm
    rw [z] at e; cases e

end L2

namespace L2
open PySem PySem.Spec PyProof.Rows

/-- the module's facts, over the base: the heap at the law's entry without what is tracked there -/
structure Mod (K : PySem.W.Frag) (mg : Str → Option Value) (base : Heap) : Prop where
  kin : K.In base
  glob : base.Ns mainGlobals mg
  blt : ∃ mb, base.Ns builtinsNs mb ∧ ∀ x : Str, x ≠ "__name__" → mb x = bootBuiltins x
  nolimit : base.NoLimit

/-- the context: a def's body (or a comprehension's block) running. base: fixed through the whole law; s₀, H₀: the entry; outer: the frames whose slots others may change (a def's callers); stack: all frames that run;
   ex: iterators that were made ahead of the entry and are walked here (a comprehension's); fn: the names whose cells were made at the entry (a def: all; a comprehension's block: its own); calm: not within an except suite; pn: pins that every state bears; xe: what is wanted of an exception that leaves the code -/
structure Cx where
  prog : Program
  w : World
  K : PySem.W.Frag
  mg : Str → Option Value
  base : Heap
  A : Around
  N : List Str
  s₀ : Shared
  H₀ : Hp
  env : Env
  outer : List Env
  stack : List Env
  ex : List Addr
  fn : Str → Bool
  calm : Bool
  pn : List (Addr × Obj)
  xe : Value → Shared → Prop
/-- the callers' frames -/
def frs (l : List Env) : List Addr := l.filterMap (·.frame)
abbrev Cx.fs (X : Cx) : List Addr := frs X.outer

def Vis (sc : Scope) (x : Str) : Prop := sc.names.lookup x = some .local ∨ sc.names.lookup x = some .cell ∨ sc.names.lookup x = some .free
def Loc (sc : Scope) (x : Str) : Prop := sc.names.lookup x = some .local ∨ sc.names.lookup x = some .cell
def Look (env : Env) (h : Heap) (m : Str → Option Value) (x : Str) (u : Value) : Prop :=
  (env.kindOf x = some .local ∧ m x = some u) ∨ ((env.kindOf x = some .cell ∨ env.kindOf x = some .free) ∧ ∃ c, env.cells.lookup x = some c ∧ h.IsCell c (some u))

structure Cx.Ok (X : Cx) : Prop where
  mod : Mod X.K X.mg X.base
  kind : X.env.scope.kind = .function
  glob : X.env.globals = mainGlobals
  blt : X.env.builtins = builtinsNs
  above : X.s₀.heap.objs.size ≤ X.env.locals
  inj : ∀ x y c, X.env.cells.lookup x = some c → X.env.cells.lookup y = some c → x = y
  has : ∀ x, (X.env.kindOf x = some .cell ∨ X.env.kindOf x = some .free) → ∃ c, X.env.cells.lookup x = some c
  cab : ∀ x c, X.fn x = true → X.env.cells.lookup x = some c → X.s₀.heap.objs.size ≤ c
  hd : X.calm = true → X.A.handled = none
  frames : X.A.frames = some X.stack
  stk : X.stack = X.outer ∨ (X.stack = X.env :: X.outer ∧ X.env.frame = some X.env.locals)
  exf : ∀ b ∈ X.ex, b ≠ X.env.locals ∧ ∀ x c, X.env.cells.lookup x = some c → c ≠ b
  bs : ∀ b o, X.base.get? b = some o → X.s₀.heap.get? b = some o ∧ X.H₀ b = none
  bsz : X.base.objs.size ≤ X.s₀.heap.objs.size
  noex : ∀ b o, X.base.get? b = some o → b ∉ X.ex
  exfs : ∀ b ∈ X.ex, b ∉ X.fs
  funs : X.s₀.heap.FunFrames X.base X.outer
  frf : ∀ b ∈ X.fs, X.H₀ b = none

structure Inv (X : Cx) (pins : List (Addr × Obj)) (σ : List (Option V)) (H : Hp) (s : Shared) : Prop where
  ok : X.Ok
  os : s.os = X.s₀.os
  bare : AllBare s.gens
  base : Un X.fs X.ex X.H₀ H X.s₀.heap s.heap
  loc : ∃ m, s.heap.Ns X.env.locals m ∧ ∀ (i : Nat) (x : Str) (v : V), X.N[i]? = some x → σ[i]? = some (some v) → Vis X.env.scope x → ∃ u, RelV v u ∧ Look X.env s.heap m x u
  cell : ∀ x c, X.env.cells.lookup x = some c → ∃ v, s.heap.IsCell c v
  free : H X.env.locals = none
  freeC : ∀ x c, X.env.cells.lookup x = some c → H c = none
  pin : ∀ p ∈ X.pn ++ pins, s.heap.get? p.1 = some p.2 ∧ H p.1 = none ∧ p.1 ≠ X.env.locals ∧ p.1 ∉ X.fs ∧ ∀ v, p.2.data ≠ .cell v
  hok : HOk X.prog X.w H s.heap
  len : σ.length = X.N.length

section
variable {X : Cx} {pins : List (Addr × Obj)} {σ : List (Option V)} {H H' : Hp} {s : Shared} {h' : Heap}

theorem Cx.Ok.nofr (ok : X.Ok) {b : Addr} {o : Obj} (e : X.base.get? b = some o) : b ∉ X.fs := fun hb => by
  have := (ok.funs.mem hb).1
  rw [e] at this; cases this
theorem Inv.bs (I : Inv X pins σ H s) : ∀ b o, X.base.get? b = some o → s.heap.get? b = some o ∧ H b = none := fun b o e =>
  ⟨I.base.keep b o (I.ok.bs b o e).1 (I.ok.bs b o e).2 (I.ok.nofr e) (I.ok.noex b o e), I.base.free b o (I.ok.bs b o e).1 (I.ok.bs b o e).2 (I.ok.noex b o e)⟩
theorem Inv.bk (I : Inv X pins σ H s) : ∀ b o, X.base.get? b = some o → s.heap.get? b = some o := fun b o e => (I.bs b o e).1
theorem Inv.mod (I : Inv X pins σ H s) : Mod X.K X.mg X.base := I.ok.mod
theorem Inv.kIn (I : Inv X pins σ H s) : X.K.In s.heap := I.ok.mod.kin.keeps I.bk
theorem Inv.lt (I : Inv X pins σ H s) : X.env.locals < s.heap.objs.size := let ⟨_, hn, _⟩ := I.loc; hn.lt
theorem Inv.sz (I : Inv X pins σ H s) : X.s₀.heap.objs.size ≤ s.heap.objs.size := Nat.le_trans I.ok.above (Nat.le_of_lt I.lt)
theorem Inv.nofs (I : Inv X pins σ H s) {a : Addr} (h : s.heap.objs.size ≤ a) : a ∉ X.fs := fun hb => by
  obtain ⟨_, o, ho, _⟩ := I.ok.funs.mem hb
  exact absurd (Nat.lt_of_lt_of_le (Heap.lt_size ho) (Nat.le_trans I.sz h)) (Nat.lt_irrefl _)
theorem Inv.cne (I : Inv X pins σ H s) : ∀ x c, X.env.cells.lookup x = some c → c ≠ X.env.locals := fun x c e z => by
  obtain ⟨v, o, ho, hd⟩ := I.cell x c e
  obtain ⟨m, ⟨o', es, ep, ho', hd', _⟩, _⟩ := I.loc
  rw [z, ho'] at ho; cases ho; rw [hd'] at hd; cases hd
theorem Inv.funs (I : Inv X pins σ H s) : s.heap.FunFrames X.base X.outer := by
  have all : ∀ (l : List Env), (∀ b ∈ frs l, b ∈ X.fs) → X.s₀.heap.FunFrames X.base l → s.heap.FunFrames X.base l := by
    intro l
    induction l with
    | nil => intro _ _; trivial
    | cons env r ih =>
      intro hs hl
      obtain ⟨hk, ⟨L, o, hf, hn, ho, hd⟩, hr⟩ := hl
      have hL : L ∈ X.fs := hs L (by unfold frs; rw [List.filterMap_cons, hf]; exact List.mem_cons_self)
      obtain ⟨sl, e⟩ := I.base.slot L o ho (I.ok.frf L hL) hL fun z => I.ok.exfs L z hL
      exact ⟨hk, ⟨L, _, hf, hn, e, hd⟩, ih (fun b hb => hs b (by unfold frs; rw [List.filterMap_cons, hf]; exact List.mem_cons_of_mem _ hb)) hr⟩
  exact all X.outer (fun _ hb => hb) I.ok.funs

/-- the frames that run, for a call -/
theorem Inv.stack (I : Inv X pins σ H s) : s.heap.FunFrames X.base X.stack := by
  rcases I.ok.stk with e | ⟨e, hf⟩
  · rw [e]; exact I.funs
  · rw [e]
    obtain ⟨m, hn, _⟩ := I.loc
    refine .cons (by rw [I.ok.kind]; decide) hf hn ?_ I.funs
    exact Heap.get?_none_of_le (Nat.le_trans I.ok.bsz I.ok.above)
theorem Inv.stkSub (I : Inv X pins σ H s) : ∀ b ∈ frs X.stack, b ∈ X.env.locals :: X.fs := fun b hb => by
  rcases I.ok.stk with e | ⟨e, hf⟩
  · rw [e] at hb; exact List.mem_cons_of_mem _ hb
  · rw [e] at hb
    unfold frs at hb
    rw [List.filterMap_cons, hf] at hb
    exact hb
theorem Inv.stkFree (I : Inv X pins σ H s) : ∀ b ∈ frs X.stack, H b = none := fun b hb => by
  rcases List.mem_cons.mp (I.stkSub b hb) with e | hb
  · rw [e]; exact I.free
  · obtain ⟨_, o, ho, _⟩ := I.ok.funs.mem hb
    exact I.base.free b o ho (I.ok.frf b hb) fun z => I.ok.exfs b z hb

/-- THE STEP: the untracked objects but the frame and the records at ch are kept (the callers' frames up to slots), the frame's map is kept, the new abstract heap is held -/
theorem Inv.step {g' : Array GenState} {t' : Nat} {d' : Drawn} {ch : List Addr} (I : Inv X pins σ H s)
    (hch : ∀ b ∈ ch, (b ∈ X.ex ∨ X.s₀.heap.objs.size ≤ b) ∧ b ≠ X.env.locals ∧ (∀ x c, X.env.cells.lookup x = some c → c ≠ b) ∧ ∀ p ∈ X.pn ++ pins, p.1 ≠ b)
    (keep : ∀ b o, b ≠ X.env.locals → b ∉ X.fs → b ∉ ch → s.heap.get? b = some o → H b = none → h'.get? b = some o)
    (slot : ∀ b o, b ≠ X.env.locals → b ∈ X.fs → b ∉ ch → s.heap.get? b = some o → H b = none → ∃ sl, h'.get? b = some { o with slots := sl }) (free : ∀ b o, b ∉ ch → s.heap.get? b = some o → H b = none → H' b = none)
    (there : ∀ b o, b ∉ ch → s.heap.get? b = some o → ∃ o', h'.get? b = some o')
    (tups : ∀ b xs, H b = some (.tup xs) → H' b = some (.tup xs)) (frzs : ∀ b o u, H b = some (.frz o u) → H' b = some (.frz o u)) (tbls : ∀ b ps, H b = some (.tbl ps) → ∃ more, H' b = some (.tbl (ps ++ more)))
    (ns : ∀ m, s.heap.Ns X.env.locals m → h'.Ns X.env.locals m) (hok : HOk X.prog X.w H' h') (hg : AllBare g') :
    Inv X pins σ H' { s with heap := h', gens := g', drawn := d', toks := t' } := by
  have neL : ∀ b o, X.s₀.heap.get? b = some o → b ≠ X.env.locals := fun b o e => Nat.ne_of_lt (Nat.lt_of_lt_of_le (Heap.lt_size e) I.ok.above)
  have neC : ∀ b o, X.s₀.heap.get? b = some o → b ∉ X.ex → b ∉ ch := fun b o e hx hb => by
    rcases (hch b hb).1 with z | z
    · exact hx z
    · exact absurd (Nat.lt_of_lt_of_le (Heap.lt_size e) z) (Nat.lt_irrefl _)
  have cellK : ∀ x c, X.env.cells.lookup x = some c → ∀ v, s.heap.IsCell c v → h'.IsCell c v := fun x c e v ⟨o, ho, hd⟩ => by
    have nch : c ∉ ch := fun z => (hch c z).2.2.1 x c e rfl
    by_cases hc : c ∈ X.fs
    · obtain ⟨sl, q⟩ := slot c o (I.cne x c e) hc nch ho (I.freeC x c e)
      exact ⟨_, q, hd⟩
    · exact ⟨o, keep c o (I.cne x c e) hc nch ho (I.freeC x c e), hd⟩
  refine ⟨I.ok, I.os, hg, ⟨fun b o e n hb hx => ?_, fun b o e n hb hx => ?_, fun b o e n hx => ?_, fun b o e hx => ?_, fun b xs e => tups b xs (I.base.tups b xs e), fun b o xs e => frzs b o xs (I.base.frzs b o xs e), fun b ps e => ?_⟩, ?_, fun x c e => ?_, ?_, fun x c e => ?_, fun p hp => ?_, hok, I.len⟩
  · exact keep b o (neL b o e) hb (neC b o e hx) (I.base.keep b o e n hb hx) (I.base.free b o e n hx)
  · obtain ⟨sl, e1⟩ := I.base.slot b o e n hb hx
    obtain ⟨sl', e2⟩ := slot b _ (neL b o e) hb (neC b o e hx) e1 (I.base.free b o e n hx)
    exact ⟨sl', e2⟩
  · obtain ⟨o', e1⟩ := I.base.there b o e hx
    exact free b o' (neC b o e hx) e1 (I.base.free b o e n hx)
  · obtain ⟨o', e1⟩ := I.base.there b o e hx
    exact there b o' (neC b o e hx) e1
  · obtain ⟨m1, e1⟩ := I.base.tbls b ps e
    obtain ⟨m2, e2⟩ := tbls b _ e1
    exact ⟨m1 ++ m2, by rw [e2, Array.append_assoc]⟩
  · obtain ⟨m, hn, hl⟩ := I.loc
    refine ⟨m, ns m hn, fun i x v e1 e2 e3 => ?_⟩
    obtain ⟨u, r, l⟩ := hl i x v e1 e2 e3
    refine ⟨u, r, ?_⟩
    rcases l with l | ⟨k, c, e, z⟩
    · exact .inl l
    · exact .inr ⟨k, c, e, cellK x c e _ z⟩
  · obtain ⟨v, z⟩ := I.cell x c e
    exact ⟨v, cellK x c e v z⟩
  · obtain ⟨m, ⟨o, _, _, ho, _⟩, _⟩ := I.loc
    exact free _ o (fun z => (hch _ z).2.1 rfl) ho I.free
  · obtain ⟨v, o, ho, hd⟩ := I.cell x c e
    exact free c o (fun z => (hch c z).2.2.1 x c e rfl) ho (I.freeC x c e)
  · obtain ⟨e, n, ne, nf, d⟩ := I.pin p hp
    have nch : p.1 ∉ ch := fun z => (hch p.1 z).2.2.2 p hp rfl
    exact ⟨keep p.1 p.2 ne nf nch e n, free p.1 p.2 nch e n, ne, nf, d⟩
/-- .. where the frame's own object is kept too -/
theorem Inv.un {t' : Nat} (I : Inv X pins σ H s) (u : Un X.fs [] H H' s.heap h') (hok : HOk X.prog X.w H' h') : Inv X pins σ H' { s with heap := h', toks := t' } := by
  obtain ⟨m, ⟨o, es, ep, ho, r⟩, _⟩ := id I.loc
  obtain ⟨sl, hL⟩ := u.any ho I.free (by simp)
  exact I.step (g' := s.gens) (d' := s.drawn) (ch := []) (fun _ z => nomatch z) (fun b o _ hb _ e n => u.keep b o e n hb (by simp)) (fun b o _ hb _ e n => u.slot b o e n hb (by simp)) (fun b o _ e n => u.free b o e n (by simp)) (fun b o _ e => u.there b o e (by simp)) u.tups u.frzs u.tbls (fun m' hm => by
    obtain ⟨o', es', ep', ho', r'⟩ := hm
    rw [ho] at ho'; cases ho'
    exact ⟨_, es', ep', hL, r'⟩) hok I.bare
/-- behind a call (or a comprehension's block): the slots of this frame may have changed too, the records at ch may have turned -/
theorem Inv.call {g' : Array GenState} {t' : Nat} {d' : Drawn} {ch : List Addr} (I : Inv X pins σ H s) (u : Un (frs X.stack) ch H H' s.heap h') (hok : HOk X.prog X.w H' h') (hg : AllBare g')
    (hch : ∀ b ∈ ch, (b ∈ X.ex ∨ X.s₀.heap.objs.size ≤ b) ∧ b ≠ X.env.locals ∧ (∀ x c, X.env.cells.lookup x = some c → c ≠ b) ∧ ∀ p ∈ X.pn ++ pins, p.1 ≠ b) :
    Inv X pins σ H' { s with heap := h', gens := g', drawn := d', toks := t' } := by
  obtain ⟨m, ⟨o, es, ep, ho, r⟩, _⟩ := id I.loc
  obtain ⟨sl, hL⟩ := u.any ho I.free fun z => (hch _ z).2.1 rfl
  exact I.step (ch := ch) hch (fun b o hL hb hc e n => u.keep b o e n (fun z => (List.mem_cons.mp (I.stkSub b z)).elim hL hb) hc) (fun b o _ _ hc e n => u.any e n hc) (fun b o hc e n => u.free b o e n hc) (fun b o hc e => u.there b o e hc) u.tups u.frzs u.tbls (fun m' hm => by
    obtain ⟨o', es', ep', ho', r'⟩ := hm
    rw [ho] at ho'; cases ho'
    exact ⟨_, es', ep', hL, r'⟩) hok hg
/-- an untracked record of ours (an iterator) has turned -/
theorem Inv.turned {t' : Nat} {it : Addr} (I : Inv X pins σ H s) (k : ∀ b o, b ≠ it → s.heap.get? b = some o → h'.get? b = some o) (hn : H it = none) (hL : it ≠ X.env.locals)
    (h1 : it ∈ X.ex ∨ X.s₀.heap.objs.size ≤ it) (h2 : ∀ x c, X.env.cells.lookup x = some c → c ≠ it) (h3 : ∀ p ∈ X.pn ++ pins, p.1 ≠ it) : Inv X pins σ H { s with heap := h', toks := t' } := by
  have nit : ∀ b u, H b = some u → b ≠ it := fun b u e z => by rw [z, hn] at e; cases e
  refine I.step (g' := s.gens) (d' := s.drawn) (ch := [it]) (fun b hb => ?_) (fun b o _ _ hc e _ => k b o (fun z => hc (by simp [z])) e) (fun b o _ _ hc e _ => ⟨o.slots, k b o (fun z => hc (by simp [z])) e⟩) (fun _ _ _ _ n => n)
    (fun b o hc e => ⟨o, k b o (fun z => hc (by simp [z])) e⟩) (fun _ _ e => e) (fun _ _ _ e => e) (fun b ps e => ⟨#[], by rw [e]; simp⟩) (fun m hm => ?_) (fun b u e => ?_) I.bare
  · have e : b = it := by simpa using hb
    subst e
    exact ⟨h1, hL, h2, h3⟩
  · obtain ⟨o, es, ep, ho, r⟩ := hm
    exact ⟨o, es, ep, k _ o (Ne.symm hL) ho, r⟩
  · refine (I.hok b u e).stay (fun c v hc q => k c v ?_ q) (fun _ q => q) fun _ _ q => q
    rcases hc with z | z
    · rw [z]; exact nit b u e
    · exact nit c _ z
theorem Inv.tok (I : Inv X pins σ H s) (t : Nat) : Inv X pins σ H { s with toks := t } := I.un (h' := s.heap) (t' := t) Un.refl I.hok
/-- all objects kept -/
theorem Inv.kept {t' : Nat} (I : Inv X pins σ H s) (k : ∀ b u, s.heap.get? b = some u → h'.get? b = some u) : Inv X pins σ H { s with heap := h', toks := t' } := I.un (Un.kept k) (I.hok.kept k)
/-- a new object laid and tracked -/
theorem Inv.laid {a : Addr} {o : HO} {t' : Nat} (I : Inv X pins σ H s) (k : ∀ b u, s.heap.get? b = some u → h'.get? b = some u) (hp : s.heap.objs.size ≤ a) (new : ObjOk X.prog X.w (upd H a o) h' a o) :
    Inv X pins σ (upd H a o) { s with heap := h', toks := t' } := I.un (Un.laid k hp (I.hok.fresh hp)) (I.hok.laid k hp new)
/-- an object written -/
theorem Inv.write {x e : Addr} {o : HO} {t' : Nat} (I : Inv X pins σ H s) (mu : Mut (H x)) (he : e = x ∨ H e = some (.own x)) (k : ∀ b u, b ≠ e → s.heap.get? b = some u → h'.get? b = some u) (heo : ∃ u, h'.get? e = some u)
    (new : ObjOk X.prog X.w (upd H x o) h' x o) : Inv X pins σ (upd H x o) { s with heap := h', toks := t' } := I.un (Un.write mu he k heo) (I.hok.write mu he k heo new)
theorem Inv.pins_of {pins' : List (Addr × Obj)} (I : Inv X pins σ H s) (h : ∀ p ∈ pins', s.heap.get? p.1 = some p.2 ∧ H p.1 = none ∧ p.1 ≠ X.env.locals ∧ p.1 ∉ X.fs ∧ ∀ v, p.2.data ≠ .cell v) : Inv X pins' σ H s :=
  ⟨I.ok, I.os, I.bare, I.base, I.loc, I.cell, I.free, I.freeC, fun p hp => (List.mem_append.mp hp).elim (fun z => I.pin p (List.mem_append_left _ z)) (h p), I.hok, I.len⟩

theorem nodup_ix {N : List Str} (hN : N.Nodup) {i j : Nat} {x : Str} (a : N[i]? = some x) (b : N[j]? = some x) : i = j := by
  obtain ⟨h1, e1⟩ := List.getElem?_eq_some_iff.mp a
  obtain ⟨h2, e2⟩ := List.getElem?_eq_some_iff.mp b
  exact (List.getElem_inj hN).mp (e1.trans e2.symm)

/-- a name is stored; what changed -/
theorem store_ok2 {M : Model} {A : Around} {E : Value → Shared → Prop} {i : Nat} {x : Str} {v : V} {u : Value} {Q : Unit → Shared → Prop} (I : Inv X pins σ H s) (hN : X.N.Nodup) (hi : X.N[i]? = some x) (hx : Loc X.env.scope x) (r : RelV v u)
    (h : ∀ s', Inv X pins (σ.set i (some v)) H s' → (∃ a, Heap.SameBut a s.heap s'.heap ∧ (a = X.env.locals ∨ X.env.cells.lookup x = some a)) → Q () s') (hf : X.fn x = true ∨ X.env.scope.names.lookup x = some .local := by first | exact .inl rfl | exact .inr rfl | assumption) : wpAny M A (storeName X.env x u) Q E s := by
  obtain ⟨m, hn, hl⟩ := id I.loc
  have hcls : (X.env.scope.kind == .class || (X.env.scope.kind == .module && X.env.locals != X.env.globals)) = false := by rw [I.ok.kind]; rfl
  have hiσ : i < σ.length := by rw [I.len]; exact (List.getElem?_eq_some_iff.mp hi).1
  have cne := I.cne
  have tracked : ∀ {a : Addr} {h' : Heap}, (∃ o, s.heap.get? a = some o ∧ H a = none) → Heap.SameBut a s.heap h' → HOk X.prog X.w H h' := fun {a h'} ha hs b ob e => by
    obtain ⟨_, _, hfree⟩ := ha
    refine (I.hok b ob e).stay (fun c w' hc q => (hs.2 c ?_).trans q) (fun _ q => q) fun _ _ q => q
    rintro rfl
    rcases hc with rfl | hc
    · rw [hfree] at e; cases e
    · rw [hfree] at hc; cases hc
  rcases hx with hk | hk
  · refine wpAny_storeName_local hk hn (fun h' hn' hs => ?_) hcls
    obtain ⟨oL, _, _, hoL, _⟩ := id hn
    refine h _ ⟨I.ok, I.os, I.bare, ⟨fun b o e n hb hx => ?_, fun b o e n hb hx => ?_, I.base.free, fun b o e hx => ?_, I.base.tups, I.base.frzs, I.base.tbls⟩, ⟨_, hn', fun j y v' e1 e2 e3 => ?_⟩, fun y c e => ?_, I.free, I.freeC, fun p hp => ?_, tracked ⟨oL, hoL, I.free⟩ hs, by simpa using I.len⟩ ⟨_, hs, .inl rfl⟩
    · exact (hs.2 b (Nat.ne_of_lt (Nat.lt_of_lt_of_le (Heap.lt_size e) I.ok.above))).trans (I.base.keep b o e n hb hx)
    · obtain ⟨sl, e1⟩ := I.base.slot b o e n hb hx
      exact ⟨sl, (hs.2 b (Nat.ne_of_lt (Nat.lt_of_lt_of_le (Heap.lt_size e) I.ok.above))).trans e1⟩
    · obtain ⟨o', e1⟩ := I.base.there b o e hx
      exact ⟨o', (hs.2 b (Nat.ne_of_lt (Nat.lt_of_lt_of_le (Heap.lt_size e) I.ok.above))).trans e1⟩
    · by_cases hj : j = i
      · subst hj
        rw [hi] at e1; cases e1
        rw [List.getElem?_set_self hiσ] at e2
        cases e2
        exact ⟨u, r, .inl ⟨hk, by simp⟩⟩
      · rw [List.getElem?_set_ne (Ne.symm hj)] at e2
        obtain ⟨u', r', q⟩ := hl j y v' e1 e2 e3
        refine ⟨u', r', ?_⟩
        rcases q with ⟨k, e⟩ | ⟨k, c, e, z⟩
        · refine .inl ⟨k, ?_⟩
          have : y ≠ x := fun e => hj (nodup_ix hN e1 (e ▸ hi))
          simp [this, e]
        · exact .inr ⟨k, c, e, z.sameBut hs (cne y c e)⟩
    · obtain ⟨w', z⟩ := I.cell y c e
      exact ⟨w', z.sameBut hs (cne y c e)⟩
    · obtain ⟨e, n, ne, nf, d⟩ := I.pin p hp
      exact ⟨(hs.2 p.1 ne).trans e, n, ne, nf, d⟩
  · have hfn : X.fn x = true := by
      rcases hf with z | z
      · exact z
      · rw [z] at hk; cases hk
    obtain ⟨c, hc⟩ := I.ok.has x (.inl hk)
    obtain ⟨w', z⟩ := I.cell x c hc
    refine wpAny_storeName_cell I.ok.kind hk hc z (fun h' hc' hs => ?_)
    obtain ⟨oc, hoc, hocd⟩ := id z
    refine h { s with heap := h' } ⟨I.ok, I.os, I.bare, ⟨fun b o e n hb hx => ?_, fun b o e n hb hx => ?_, I.base.free, fun b o e hx => ?_, I.base.tups, I.base.frzs, I.base.tbls⟩, ⟨m, hn.sameBut hs (Ne.symm (cne x c hc)), fun j y v' e1 e2 e3 => ?_⟩, fun y c' e => ?_, I.free, I.freeC, fun p hp => ?_, tracked ⟨oc, hoc, I.freeC x c hc⟩ hs, by simpa using I.len⟩ ⟨c, hs, .inr hc⟩
    · exact (hs.2 b (Nat.ne_of_lt (Nat.lt_of_lt_of_le (Heap.lt_size e) (I.ok.cab x c hfn hc)))).trans (I.base.keep b o e n hb hx)
    · obtain ⟨sl, e1⟩ := I.base.slot b o e n hb hx
      exact ⟨sl, (hs.2 b (Nat.ne_of_lt (Nat.lt_of_lt_of_le (Heap.lt_size e) (I.ok.cab x c hfn hc)))).trans e1⟩
    · obtain ⟨o', e1⟩ := I.base.there b o e hx
      exact ⟨o', (hs.2 b (Nat.ne_of_lt (Nat.lt_of_lt_of_le (Heap.lt_size e) (I.ok.cab x c hfn hc)))).trans e1⟩
    · by_cases hj : j = i
      · subst hj
        rw [hi] at e1; cases e1
        rw [List.getElem?_set_self hiσ] at e2
        cases e2
        exact ⟨u, r, .inr ⟨.inl hk, c, hc, hc'⟩⟩
      · rw [List.getElem?_set_ne (Ne.symm hj)] at e2
        obtain ⟨u', r', q⟩ := hl j y v' e1 e2 e3
        refine ⟨u', r', ?_⟩
        rcases q with q | ⟨k, c', e, z'⟩
        · exact .inl q
        · refine .inr ⟨k, c', e, z'.sameBut hs ?_⟩
          rintro rfl
          exact hj (nodup_ix hN e1 (I.ok.inj _ _ _ e hc ▸ hi))
    · by_cases hcc : c' = c
      · subst hcc; exact ⟨_, hc'⟩
      · obtain ⟨w2, z2⟩ := I.cell y c' e
        exact ⟨w2, z2.sameBut hs hcc⟩
    · obtain ⟨e, n, ne, nf, d⟩ := I.pin p hp
      refine ⟨(hs.2 p.1 ?_).trans e, n, ne, nf, d⟩
      intro q
      rw [q, hoc] at e
      have q' : oc = p.2 := Option.some.inj e
      exact d w' (by rw [← q']; exact hocd)
theorem store_ok {M : Model} {A : Around} {E : Value → Shared → Prop} {i : Nat} {x : Str} {v : V} {u : Value} {Q : Unit → Shared → Prop} (I : Inv X pins σ H s) (hN : X.N.Nodup) (hi : X.N[i]? = some x) (hx : Loc X.env.scope x) (r : RelV v u)
    (h : ∀ s', Inv X pins (σ.set i (some v)) H s' → Q () s') (hf : X.fn x = true ∨ X.env.scope.names.lookup x = some .local := by first | exact .inl rfl | exact .inr rfl | assumption) : wpAny M A (storeName X.env x u) Q E s :=
  store_ok2 I hN hi hx r (fun s' I' _ => h s' I') hf
/-- behind a call or a block, the state as it is -/
theorem Inv.call' {s' : Shared} {ch : List Addr} (I : Inv X pins σ H s) (ho : s'.os = s.os) (u : Un (frs X.stack) ch H H' s.heap s'.heap) (hok : HOk X.prog X.w H' s'.heap) (hg : AllBare s'.gens)
    (hch : ∀ b ∈ ch, (b ∈ X.ex ∨ X.s₀.heap.objs.size ≤ b) ∧ b ≠ X.env.locals ∧ (∀ x c, X.env.cells.lookup x = some c → c ≠ b) ∧ ∀ p ∈ X.pn ++ pins, p.1 ≠ b) : Inv X pins σ H' s' := by
  obtain ⟨h', g', d', t', o'⟩ := s'
  have e : o' = s.os := ho
  subst e
  exact I.call (g' := g') (t' := t') (d' := d') u hok hg hch
end

/-- an exception: its class, its own dict's address (where it has one), the abstract heap behind it -/
abbrev XK := Value → Option Addr → Hp → Prop
abbrev St := List (Option V)
abbrev VK := V → Hp → Prop
/-- an expression's reading; a test's; an argument list's -/
abbrev TE := St → Hp → VK → Prop
abbrev TT := St → Hp → (Bool → Hp → Prop) → Prop
abbrev TA := St → Hp → (List V → Hp → Prop) → Prop
/-- what is wanted behind a statement -/
structure Ends where
  nx : St → Hp → Prop
  rt : VK
  bk : St → Hp → Prop := fun _ _ => False
  ct : St → Hp → Prop := fun _ _ => False
abbrev TS := Ends → St → Hp → Prop

def EP (X : Cx) (pins : List (Addr × Obj)) (σ : St) (Q : VK) (u : Value) (s' : Shared) : Prop := ∃ v H', Inv X pins σ H' s' ∧ RelV v u ∧ Q v H'
def TP (X : Cx) (pins : List (Addr × Obj)) (σ : St) (Q : Bool → Hp → Prop) (b : Bool) (s' : Shared) : Prop := ∃ H', Inv X pins σ H' s' ∧ Q b H'
def AP (X : Cx) (pins : List (Addr × Obj)) (σ : St) (Q : List V → Hp → Prop) (us : List Value) (s' : Shared) : Prop := ∃ vs H', Inv X pins σ H' s' ∧ Vals vs us ∧ Q vs H'
def SP (X : Cx) (pins : List (Addr × Obj)) (D : Ends) (f : Flow) (s' : Shared) : Prop :=
  match f with
  | .next => ∃ σ' H', Inv X pins σ' H' s' ∧ D.nx σ' H'
  | .brk => ∃ σ' H', Inv X pins σ' H' s' ∧ D.bk σ' H'
  | .cont => ∃ σ' H', Inv X pins σ' H' s' ∧ D.ct σ' H'
  | .ret u => ∃ v σ' H', Inv X pins σ' H' s' ∧ RelV v u ∧ D.rt v H'

def PE (X : Cx) (e : Expr) (t : TE) : Prop :=
  ∀ (pins : List (Addr × Obj)) (s : Shared) (σ : St) (H : Hp) (Q : VK), Inv X pins σ H s → t σ H Q → wpAny (model X.prog X.w) X.A (eval e X.env) (EP X pins σ Q) X.xe s
def PT (X : Cx) (e : Expr) (t : TT) : Prop :=
  ∀ (pins : List (Addr × Obj)) (s : Shared) (σ : St) (H : Hp) (Q : Bool → Hp → Prop), Inv X pins σ H s → t σ H Q → wpAny (model X.prog X.w) X.A (isTrue e X.env (eval e X.env)) (TP X pins σ Q) X.xe s
/-- a test whatever its 'whole' is (and, or) -/
def PW (X : Cx) (e : Expr) (t : TT) : Prop :=
  ∀ (whole : Sem Value) (pins : List (Addr × Obj)) (s : Shared) (σ : St) (H : Hp) (Q : Bool → Hp → Prop), Inv X pins σ H s → t σ H Q → wpAny (model X.prog X.w) X.A (isTrue e X.env whole) (TP X pins σ Q) X.xe s
theorem PW.pt {X : Cx} {e : Expr} {t : TT} (h : PW X e t) : PT X e t := h _
/-- an argument list (no star), from the left -/
def PA (X : Cx) (es : List Expr) (t : TA) : Prop :=
  ∀ (pos : Pos) (pins : List (Addr × Obj)) (s : Shared) (σ : St) (H : Hp) (Q : List V → Hp → Prop), Inv X pins σ H s → t σ H Q → wpAny (model X.prog X.w) X.A (spliced (backTo pos (starEach es X.env))) (AP X pins σ Q) X.xe s
def PS (X : Cx) (st : Stmt) (t : TS) : Prop :=
  ∀ (pins : List (Addr × Obj)) (s : Shared) (σ : St) (H : Hp) (D : Ends), Inv X pins σ H s → t D σ H → wpAny (model X.prog X.w) X.A (exec st X.env) (SP X pins D) X.xe s
def PSs (X : Cx) (st : List Stmt) (t : TS) : Prop :=
  ∀ (pins : List (Addr × Obj)) (s : Shared) (σ : St) (H : Hp) (D : Ends), Inv X pins σ H s → t D σ H → wpAny (model X.prog X.w) X.A (execs st X.env) (SP X pins D) X.xe s
/-- weaken the end -/
theorem thn {α : Type} {t : Sem α} {Q Q' : α → Shared → Prop} {M : Model} {A : Around} {E : Value → Shared → Prop} {s : Shared} (h : wpAny M A t Q E s) (hQ : ∀ a s, Q a s → Q' a s) : wpAny M A t Q' E s := wpAny_mono h hQ fun _ _ x => x
end L2

namespace L2
open PySem PySem.Spec PyProof.Rows
section
variable {X : Cx}

def tVar (i : Nat) : TE := fun σ H Q => ∃ v, σ[i]? = some (some v) ∧ Q v H
def tC (v : V) : TE := fun _ H Q => Q v H
theorem pe_var {i : Nat} {x : Str} {pos : Pos} (hN : X.N[i]? = some x) (hv : Vis X.env.scope x) (hd : (x == ("__debug__" : Str)) = false := by decide) (hcd : (x == ("__classdict__" : Str)) = false := by decide) : PE X (.Name x pos) (tVar i) := by
  intro pins s σ H Q I h
  obtain ⟨v, e, h⟩ := h
  obtain ⟨m, hn, hl⟩ := I.loc
  obtain ⟨u, r, l⟩ := hl i x v hN e hv
  have fin : EP X pins σ Q u s := ⟨v, H, I, r, h⟩
  rcases l with ⟨hk, hm⟩ | ⟨hk, c, hc, hcell⟩
  · exact wpAny_Name (wpAny_loadName_local I.ok.kind hk hn hm fin) hd
  · rcases hk with hk | hk
    · exact wpAny_Name (wpAny_loadName_cell I.ok.kind hk hc hcell fin) hd
    · exact wpAny_Name (wpAny_loadName_free I.ok.kind hk hc hcell fin hcd) hd
theorem pe_int {i j pos} : PE X (.Constant (.int i) j pos) (tC (.int i)) := fun _ _ _ H _ I h => wpAny_Constant_int ⟨.int i, H, I.tok _, ⟨_, rfl⟩, h⟩
theorem pe_bl {b j pos} : PE X (.Constant (.bool b) j pos) (tC (.bl b)) := fun _ _ _ H _ I h => Constant_bool ⟨.bl b, H, I, rfl, h⟩
theorem pe_non {j pos} : PE X (.Constant .none j pos) (tC .non) := fun _ _ _ H _ I h => Constant_none ⟨.non, H, I, rfl, h⟩
theorem pe_str {x j pos} : PE X (.Constant (.str x) j pos) (tC (.str x)) := fun _ _ _ H _ I h => Calls.Constant_str ⟨.str x, H, I.tok _, ⟨_, rfl⟩, h⟩

/-- a global name of the def -/
def Gl (X : Cx) (x : Str) : Prop := X.env.kindOf x = some .globalImplicit
theorem ld_glob {E : Value → Shared → Prop} {pins : List (Addr × Obj)} {s : Shared} {σ : St} {H : Hp} {x : Str} {u : Value} {pos : Pos} {Q : Value → Shared → Prop} (I : Inv X pins σ H s) (hg : Gl X x) (hm : X.mg x = some u) (h : Q u s)
    (hd : (x == ("__debug__" : Str)) = false := by decide) : wpAny (model X.prog X.w) X.A (eval (.Name x pos) X.env) Q E s :=
  Calls.Name_function_global I.ok.kind hg (Calls.loadGlobal_global (by rw [I.ok.glob]; exact I.mod.glob.keeps I.bk) hm h) hd
theorem ld_blt {E : Value → Shared → Prop} {pins : List (Addr × Obj)} {s : Shared} {σ : St} {H : Hp} {x : Str} {u : Value} {pos : Pos} {Q : Value → Shared → Prop} (I : Inv X pins σ H s) (hg : Gl X x) (hm : X.mg x = none) (hv : bootBuiltins x = some u) (h : Q u s)
    (hn : x ≠ "__name__" := by decide) (hd : (x == ("__debug__" : Str)) = false := by decide) : wpAny (model X.prog X.w) X.A (eval (.Name x pos) X.env) Q E s := by
  obtain ⟨mb, h1, h2⟩ := I.mod.blt
  exact Calls.Name_function_global I.ok.kind hg (Calls.loadGlobal_builtin (by rw [I.ok.glob]; exact I.mod.glob.keeps I.bk) hm (by rw [I.ok.blt]; exact h1.keeps I.bk) ((h2 x hn).trans hv) h) hd
/-- a module's constant, a class, a function, as a value -/
theorem pe_glob {x : Str} {v : V} {u : Value} {pos : Pos} (hg : Gl X x) (hm : X.mg x = some u) (r : RelV v u) (hd : (x == ("__debug__" : Str)) = false := by decide) : PE X (.Name x pos) (tC v) :=
  fun _ _ _ H _ I h => ld_glob I hg hm ⟨v, H, I, r, h⟩ hd
theorem pe_bltn {x : Str} {v : V} {u : Value} {pos : Pos} (hg : Gl X x) (hm : X.mg x = none) (hv : bootBuiltins x = some u) (r : RelV v u) (hn : x ≠ "__name__" := by decide) (hd : (x == ("__debug__" : Str)) = false := by decide) : PE X (.Name x pos) (tC v) :=
  fun _ _ _ H _ I h => ld_blt I hg hm hv ⟨v, H, I, r, h⟩ hn hd

variable {a b : Expr} {ta tb : TE} {pos : Pos}
/-- a comparison as a value, as a test -/
def tB (t : TE) : TT := fun σ H Q => t σ H fun x H1 => ∃ c, x = .bl c ∧ Q c H1
/-- an expression whose value is a bool, as a test -/
theorem pt_val {e : Expr} {t : TE} (h : PE X e t) (he : ∀ whole, isTrue e X.env whole = (do let v ← whole; standAt e.pos; holding [v] (truthy v)) := by intro _; rfl) : PT X e (tB t) := by
  intro pins s σ H Q I hw
  refine isTrue_plain (thn (h pins s σ H _ I hw) fun v s1 ⟨x, H1, I1, r1, q1⟩ => ?_) (he _)
  obtain ⟨d, rfl, q⟩ := q1
  cases r1
  exact wpAny_truthy_bool ⟨H1, I1, q⟩

variable {tA tB' : TT} {rest : List Expr}
def tAnd (t u : TT) : TT := fun σ H Q => t σ H fun c H1 => if c = true then u σ H1 Q else Q false H1
def tOr (t u : TT) : TT := fun σ H Q => t σ H fun c H1 => if c = true then Q true H1 else u σ H1 Q
def tNot (t : TT) : TT := fun σ H Q => t σ H fun c H1 => Q (!c) H1
theorem pw_and1 (ha : PT X a tA) : PW X (.BoolOp .And [a] pos) tA := by
  intro wh pins s σ H Q I h
  refine isTrue_and (thn (ha pins s σ H Q I h) fun c s1 e => ?_)
  cases c with
  | true => exact isTrue_and_nil e
  | false => exact e
theorem pw_or1 (ha : PT X a tA) : PW X (.BoolOp .Or [a] pos) tA := by
  intro wh pins s σ H Q I h
  refine isTrue_or (thn (ha pins s σ H Q I h) fun c s1 e => ?_)
  cases c with
  | false => exact isTrue_or_nil e
  | true => exact e
theorem pw_and (ha : PT X a tA) (hb : PW X (.BoolOp .And (b :: rest) pos) tB') : PW X (.BoolOp .And (a :: b :: rest) pos) (tAnd tA tB') := by
  intro wh pins s σ H Q I h
  refine isTrue_and (thn (ha pins s σ H _ I h) fun c s1 ⟨H1, I1, q1⟩ => ?_)
  cases c with
  | true => exact hb wh pins s1 σ H1 Q I1 q1
  | false => exact ⟨H1, I1, q1⟩
theorem pw_or (ha : PT X a tA) (hb : PW X (.BoolOp .Or (b :: rest) pos) tB') : PW X (.BoolOp .Or (a :: b :: rest) pos) (tOr tA tB') := by
  intro wh pins s σ H Q I h
  refine isTrue_or (thn (ha pins s σ H _ I h) fun c s1 ⟨H1, I1, q1⟩ => ?_)
  cases c with
  | true => exact ⟨H1, I1, q1⟩
  | false => exact hb wh pins s1 σ H1 Q I1 q1
theorem pt_not (ha : PT X a tA) : PT X (.UnaryOp .Not a pos) (tNot tA) := by
  intro pins s σ H Q I h
  exact isTrue_not (ha pins s σ H (fun c H1 => Q (!c) H1) I h)
/-- .. as values (bools) -/
def tAndV (ta tb : TE) : TE := fun σ H Q => ta σ H fun x H1 => ∃ c, x = .bl c ∧ if c = true then tb σ H1 Q else Q (.bl false) H1
def tNotV (ta : TE) : TE := fun σ H Q => ta σ H fun x H1 => ∃ c, x = .bl c ∧ Q (.bl (!c)) H1
theorem pe_one {op} {t : TE} (h : PE X a t) : PE X (.BoolOp op [a] pos) t := fun pins s σ H Q I hw => BoolOp_one (h pins s σ H Q I hw)
theorem pe_and (ha : PE X a ta) (hb : PE X (.BoolOp .And (b :: rest) pos) tb) : PE X (.BoolOp .And (a :: b :: rest) pos) (tAndV ta tb) := by
  intro pins s σ H Q I h
  refine BoolOp_and (thn (ha pins s σ H _ I h) fun v s1 ⟨x, H1, I1, r1, q1⟩ => ?_)
  obtain ⟨c, rfl, q1⟩ := q1
  cases r1
  refine wpAny_truthy_bool ?_
  cases c with
  | true => exact hb pins s1 σ H1 Q I1 q1
  | false => exact ⟨.bl false, H1, I1, rfl, q1⟩
theorem pe_not (ha : PE X a ta) : PE X (.UnaryOp .Not a pos) (tNotV ta) := by
  intro pins s σ H Q I h
  refine UnaryOp_ (thn (ha pins s σ H _ I h) fun v s1 ⟨x, H1, I1, r1, q1⟩ => ?_)
  obtain ⟨c, rfl, q1⟩ := q1
  cases r1
  exact not_of (wpAny_truthy_bool ⟨.bl (!c), H1, I1, rfl, q1⟩)
end
end L2

namespace L2
open PySem PySem.Spec PyProof.Rows

def SqL (K : PySem.W.Frag) (H : Hp) (a : Addr) (xs : List V) : Prop :=
  Rd H a (.lst xs) ∨
    ∃ (o : Obj) (its : Array Value) (n : Nat), K.lookup a = some o ∧ o.cls = .type "list" ∧ o.dict = none ∧ o.data = .seq its n ∧ its.size ≤ sizeLine ∧ Vals xs its.toList
def SqT (K : PySem.W.Frag) (H : Hp) (a : Addr) (xs : List V) : Prop :=
  Rd H a (.tup xs) ∨
    ∃ (o : Obj) (its : Array Value) (n : Nat), K.lookup a = some o ∧ o.cls = .type "tuple" ∧ o.data = .seq its n ∧ its.size ≤ sizeLine ∧ Vals xs its.toList
def absV : Value → Option V
  | .none => some .non
  | .bool b => some (.bl b)
  | .int i _ => some (.int i)
  | .str x _ => some (.str x)
  | .bytes b _ => some (.byt b)
  | .float b _ => some (.flt b)
  | .ref a => some (.ref a)
  | .type n => some (.ty n)
  | _ => none
theorem RelV.abs {x : V} {u : Value} (r : RelV x u) : absV u = some x := by
  cases x with
  | non => cases r; rfl
  | bl _ => cases r; rfl
  | int _ => obtain ⟨t, rfl⟩ := r; rfl
  | str _ => obtain ⟨t, rfl⟩ := r; rfl
  | byt _ => obtain ⟨t, rfl⟩ := r; rfl
  | flt _ => obtain ⟨t, rfl⟩ := r; rfl
  | ref _ => cases r; rfl
  | ty _ => cases r; rfl
theorem RelV.inj {x y : V} {u : Value} (r : RelV x u) (q : RelV y u) : x = y := Option.some.inj (r.abs.symm.trans q.abs)
theorem Vals.inj : ∀ {xs ys : List V} {us : List Value}, Vals xs us → Vals ys us → xs = ys
  | _, _, _, .nil, .nil => rfl
  | _, _, _, .cons r t, .cons r' t' => by rw [r.inj r', Vals.inj t t']
section
variable {X : Cx} {pins : List (Addr × Obj)} {σ : St} {H : Hp} {s : Shared} {a : Addr} {xs ys : List V}
theorem SqL.of {K : PySem.W.Frag} (h : H a = some (.lst xs)) : SqL K H a xs := .inl (.inl h)
theorem SqT.of {K : PySem.W.Frag} (h : H a = some (.tup xs)) : SqT K H a xs := .inl (.inl h)
theorem Inv.list (I : Inv X pins σ H s) (h : SqL X.K H a xs) : ∃ its : List Value, Vals xs its ∧ PlainL s.heap a its.toArray ∧ xs.length ≤ sizeLine := by
  rcases h with h | ⟨o, its, n, hk, hc, hd, hs, hz, r⟩
  · obtain ⟨z, its, n, r, e⟩ := h.ok I.hok
    exact ⟨its, r, ⟨_, n, e, rfl, rfl, rfl⟩, z⟩
  · refine ⟨its.toList, r, ⟨o, n, I.kIn a o hk, hc, hd, by simpa using hs⟩, ?_⟩
    have e := r.length
    simp only [Array.length_toList] at e
    omega
theorem Inv.tuple (I : Inv X pins σ H s) (h : SqT X.K H a xs) : ∃ its : List Value, Vals xs its ∧ IsTup s.heap a its.toArray ∧ xs.length ≤ sizeLine := by
  rcases h with h | ⟨o, its, n, hk, hc, hs, hz, r⟩
  · obtain ⟨z, its, r, p⟩ := h.ok I.hok
    exact ⟨its, r, p, z⟩
  · refine ⟨its.toList, r, ⟨o, I.kIn a o hk, hc, n, by simpa using hs⟩, ?_⟩
    have e := r.length
    simp only [Array.length_toList] at e
    omega
theorem Inv.list_inj (I : Inv X pins σ H s) (h : SqL X.K H a xs) (h' : SqL X.K H a ys) : xs = ys := by
  obtain ⟨its, r, ⟨o, n, e, _, _, d⟩, _⟩ := I.list h
  obtain ⟨its', r', ⟨o', n', e', _, _, d'⟩, _⟩ := I.list h'
  rw [e] at e'; cases e'
  rw [d] at d'
  injection d' with d1 _
  have : its = its' := by simpa using congrArg Array.toList d1
  subst this
  exact r.inj r'
end

abbrev Cx.wish (X : Cx) (E : Value → Shared → Prop) : Cx := { X with xe := E }
/-- no exception leaves -/
abbrev Cx.nox (X : Cx) : Cx := X.wish fun _ _ => False
theorem Cx.Ok.wish {X : Cx} (ok : X.Ok) (E : Value → Shared → Prop) : (X.wish E).Ok :=
  ⟨ok.mod, ok.kind, ok.glob, ok.blt, ok.above, ok.inj, ok.has, ok.cab, ok.hd, ok.frames, ok.stk, ok.exf, ok.bs, ok.bsz, ok.noex, ok.exfs, ok.funs, ok.frf⟩
theorem Cx.Ok.unwish {X : Cx} {E : Value → Shared → Prop} (ok : (X.wish E).Ok) : X.Ok :=
  ⟨ok.mod, ok.kind, ok.glob, ok.blt, ok.above, ok.inj, ok.has, ok.cab, ok.hd, ok.frames, ok.stk, ok.exf, ok.bs, ok.bsz, ok.noex, ok.exfs, ok.funs, ok.frf⟩
section
variable {X : Cx} {pins : List (Addr × Obj)} {σ : St} {H : Hp} {s : Shared} {E : Value → Shared → Prop}
theorem Inv.wish (I : Inv X pins σ H s) (E : Value → Shared → Prop) : Inv (X.wish E) pins σ H s := ⟨I.ok.wish E, I.os, I.bare, I.base, I.loc, I.cell, I.free, I.freeC, I.pin, I.hok, I.len⟩
theorem Inv.unwish (I : Inv (X.wish E) pins σ H s) : Inv X pins σ H s := ⟨I.ok.unwish, I.os, I.bare, I.base, I.loc, I.cell, I.free, I.freeC, I.pin, I.hok, I.len⟩
theorem SP.unwish {D : Ends} {f : Flow} {s' : Shared} (h : SP (X.wish E) pins D f s') : SP X pins D f s' := by
  cases f with
  | next => obtain ⟨σ', H', I, q⟩ := h; exact ⟨σ', H', I.unwish, q⟩
  | brk => obtain ⟨σ', H', I, q⟩ := h; exact ⟨σ', H', I.unwish, q⟩
  | cont => obtain ⟨σ', H', I, q⟩ := h; exact ⟨σ', H', I.unwish, q⟩
  | ret u => obtain ⟨v, σ', H', I, r, q⟩ := h; exact ⟨v, σ', H', I.unwish, r, q⟩
theorem PSs.nox {st : List Stmt} {t : TS} (h : PSs X.nox st t) : PSs X st t := fun pins s σ H D I hw =>
  wpAny_mono (h pins s σ H D (I.wish _) hw) (fun _ _ q => q.unwish) fun _ _ z => False.elim z
end

section
variable {X : Cx} {st : Stmt} {rest : List Stmt} {t u : TS} {e : Expr} {te : TE} {pos : Pos}
def tNext : TS := fun D σ H => D.nx σ H
def tSeq (t u : TS) : TS := fun D σ H => t { D with nx := u D } σ H
theorem pss_nil : PSs X [] tNext := fun _ _ σ H _ I h => wpAny_execs_nil ⟨σ, H, I, h⟩
theorem pss_cons (h1 : PS X st t) (h2 : PSs X rest u) : PSs X (st :: rest) (tSeq t u) := by
  intro pins s σ H D I h
  refine wpAny_execs_cons (thn (h1 pins s σ H { D with nx := u D } I h) fun f s1 q => ?_)
  cases f with
  | next =>
    obtain ⟨σ', H', I', q⟩ := q
    exact h2 pins s1 σ' H' D I' q
  | ret v => exact q
  | brk => exact q
  | cont => exact q
theorem pss_one (h1 : PS X st t) : PSs X [st] t := by
  intro pins s σ H D I h
  refine wpAny_execs_cons (thn (h1 pins s σ H D I h) fun f s1 q => ?_)
  cases f with
  | next => exact wpAny_execs_nil q
  | ret v => exact q
  | brk => exact q
  | cont => exact q
/-- in a def's body nothing is shown -/
theorem Inv.quiet {pins : List (Addr × Obj)} {σ : St} {H : Hp} {s : Shared} (I : Inv X pins σ H s) : interactive X.env = false := by simp [interactive, I.ok.kind]
/-- an expression whose value is dropped -/
def tDrop (te : TE) : TS := fun D σ H => te σ H fun _ H1 => D.nx σ H1
theorem ps_expr (he : PE X e te) (hs : swapsWith e none pos.line X.env = pure false := by rfl) : PS X (.Expr e pos) (tDrop te) := by
  intro pins s σ H D I h
  exact wpAny_Expr_any (thn (he pins s σ H _ I h) fun v s1 ⟨x, H1, I1, r1, q1⟩ => ⟨σ, H1, I1, q1⟩) I.quiet hs
def tRet (te : TE) : TS := fun D σ H => te σ H D.rt
theorem ps_ret (he : PE X e te) : PS X (.Return (some e) pos) (tRet te) := by
  intro pins s σ H D I h
  exact wpAny_Return_some (thn (he pins s σ H _ I h) fun v s1 ⟨x, H1, I1, r1, q1⟩ => ⟨x, σ, H1, I1, r1, q1⟩)
def tIfS (c : TT) (t u : TS) : TS := fun D σ H => c σ H fun b H1 => if b = true then t D σ H1 else u D σ H1
theorem ps_if {c : Expr} {a b : List Stmt} {tc : TT} (hc : PT X c tc) (ha : PSs X a t) (hb : PSs X b u) : PS X (.If c a b pos) (tIfS tc t u) := by
  intro pins s σ H D I h
  refine wpAny_If (thn (hc pins s σ H _ I h) fun d s1 ⟨H1, I1, q1⟩ => ?_)
  cases d with
  | true => exact ha pins s1 σ H1 D I1 q1
  | false => exact hb pins s1 σ H1 D I1 q1
end

abbrev TG := V → St → Hp → (St → Hp → Prop) → Prop
abbrev TGs := List V → St → Hp → (St → Hp → Prop) → Prop
def PG (X : Cx) (target : Expr) (t : TG) : Prop :=
  ∀ (pins : List (Addr × Obj)) (s : Shared) (σ : St) (H : Hp) (v : V) (u : Value) (Q : St → Hp → Prop), Inv X pins σ H s → RelV v u → t v σ H Q →
    wpAny (model X.prog X.w) X.A (assign target X.env u) (fun _ s' => ∃ σ' H', Inv X pins σ' H' s' ∧ Q σ' H') X.xe s
/-- several targets, one after another -/
def PGs (X : Cx) (ts : List Expr) (t : TGs) : Prop :=
  ∀ (pins : List (Addr × Obj)) (s : Shared) (σ : St) (H : Hp) (vs : List V) (us : List Value) (Q : St → Hp → Prop), Inv X pins σ H s → Vals vs us → t vs σ H Q →
    wpAny (model X.prog X.w) X.A (assignInOrder ((assignEach ts X.env).map (·.2)) us) (fun _ s' => ∃ σ' H', Inv X pins σ' H' s' ∧ Q σ' H') X.xe s
/-- o[i] = v, by values -/
abbrev TSet := V → V → V → Hp → (Hp → Prop) → Prop
def PSet (X : Cx) (t : TSet) : Prop :=
  ∀ (pins : List (Addr × Obj)) (s : Shared) (σ : St) (H : Hp) (o i v : V) (ov iv u : Value) (Q : Hp → Prop), Inv X pins σ H s → RelV o ov → RelV i iv → RelV v u → t o i v H Q →
    wpAny (model X.prog X.w) X.A (setItem ov iv u) (fun _ s' => ∃ H', Inv X pins σ H' s' ∧ Q H') X.xe s
section
variable {X : Cx} {pos : Pos}
def gName (i : Nat) : TG := fun v σ H Q => Q (σ.set i (some v)) H
theorem pg_name {i : Nat} {x : Str} (hN : X.N.Nodup) (hi : X.N[i]? = some x) (hx : Loc X.env.scope x) (hf : X.fn x = true ∨ X.env.scope.names.lookup x = some .local := by first | exact .inl rfl | exact .inr rfl | assumption) : PG X (.Name x pos) (gName i) := by
  intro pins s σ H v u Q I r h
  exact wpAny_assign_Name (store_ok I hN hi hx r (fun s' I' => ⟨_, H, I', h⟩) hf)
def gNil : TGs := fun vs σ H Q => vs = [] ∧ Q σ H
def gCons (t : TG) (u : TGs) : TGs := fun vs σ H Q => ∃ v r, vs = v :: r ∧ t v σ H fun σ' H' => u r σ' H' Q
theorem pgs_nil : PGs X [] gNil := by
  intro pins s σ H vs us Q I r h
  obtain ⟨e, h⟩ := h
  subst e
  cases r
  exact assignInOrder_nil ⟨σ, H, I, h⟩
theorem pgs_cons {e : Expr} {es : List Expr} {t : TG} {u : TGs} (h1 : PG X e t) (h2 : PGs X es u)
    (hs : (assignEach (e :: es) X.env).map (·.2) = assign e X.env :: (assignEach es X.env).map (·.2) := by rfl) : PGs X (e :: es) (gCons t u) := by
  intro pins s σ H vs us Q I r h
  obtain ⟨v, vr, e1, h⟩ := h
  subst e1
  cases r with
  | cons r rr =>
    rw [hs]
    refine assignInOrder_cons (thn (h1 pins s σ H _ _ _ I r h) fun _ s1 ⟨σ1, H1, I1, q1⟩ => ?_)
    exact h2 pins s1 σ1 H1 _ _ Q I1 rr q1
/-- (a, b, ..) = a tuple of that length -/
def gTup (K : PySem.W.Frag) (n : Nat) (t : TGs) : TG := fun v σ H Q => ∃ a xs, v = .ref a ∧ SqT K H a xs ∧ xs.length = n ∧ t xs σ H Q
theorem pg_tup {es : List Expr} {k : Nat} {t : TGs} {n : Nat} (hc : X.calm = true) (h : PGs X es t)
    (hn : (assignEach es X.env).length = n := by rfl) (hst : (assignEach es X.env).findIdx? (·.1) = none := by rfl) : PG X (.Tuple es k pos) (gTup X.K n t) := by
  intro pins s σ H v u Q I r hw
  obtain ⟨a, xs, e1, hq, hl, hw⟩ := hw
  subst e1
  cases r
  obtain ⟨its, rv, ht, hz⟩ := I.tuple hq
  refine assign_Tuple_tuple (I.ok.hd hc) ht (by simp [hn, ← hl, rv.length]) hst fun h' hx => ?_
  have I1 : Inv X pins σ H { s with heap := h' } := I.kept (t' := s.toks) fun b o e => hx b o (Nat.ne_of_lt (Heap.lt_size e)) e
  exact h pins _ σ H xs _ Q I1 (by simpa using rv) hw
/-- o[i] = .. -/
def gSub (to ti : TE) (t : TSet) : TG := fun v σ H Q => to σ H fun o H1 => ti σ H1 fun i H2 => t o i v H2 fun H3 => Q σ H3
theorem pg_sub {o i : Expr} {to ti : TE} {t : TSet} (ho : PE X o to) (hi : PE X i ti) (hs : PSet X t)
    (ha : ∀ v, assign (.Subscript o i pos) X.env v = (do
      let ov ← holding [v] (eval o X.env)
      let iv ← holding [v, ov] (eval i X.env)
      standAt pos
      holding [v, ov, iv] (setItem ov iv v)
      release [v, ov, iv] []) := by intro _; rfl) : PG X (.Subscript o i pos) (gSub to ti t) := by
  intro pins s σ H v u Q I r h
  rw [ha]
  refine wpAny_bind (wpAny_holding (thn (ho pins s σ H _ I h) fun ov s1 ⟨x, H1, I1, r1, q1⟩ => ?_))
  refine wpAny_bind (wpAny_holding (thn (hi pins s1 σ H1 _ I1 q1) fun iv s2 ⟨y, H2, I2, r2, q2⟩ => ?_))
  refine wpAny_bind (wpAny_standAt (wpAny_bind (wpAny_holding (thn (hs pins s2 σ H2 x y v ov iv u _ I2 r1 r2 r q2) fun _ s3 ⟨H3, I3, q3⟩ => ?_))))
  exact wpAny_release ⟨σ, H3, I3, q3⟩
/-- target = value -/
def tAsg (te : TE) (g : TG) : TS := fun D σ H => te σ H fun x H1 => g x σ H1 D.nx
theorem ps_asg {tg e : Expr} {te : TE} {g : TG} (he : PE X e te) (hg : PG X tg g) (hs : swapsWithSole [tg] e pos.line X.env = pure false := by rfl) (hw : swappedStores [tg] e X.env = pure none := by rfl)
    (h1 : (assignEach [tg] X.env).map (·.2) = [assign tg X.env] := by rfl) : PS X (.Assign [tg] e pos) (tAsg te g) := by
  intro pins s σ H D I h
  refine wpAny_Assign_stores (thn (he pins s σ H _ I h) fun v s1 ⟨x, H1, I1, r1, q1⟩ => ?_) hs hw
  rw [h1]
  exact thn (hg pins s1 σ H1 x v _ I1 r1 q1) fun _ s2 q => q
/-- name = value -/
theorem ps_set {i : Nat} {x : Str} {e : Expr} {te : TE} {pos' : Pos} (hN : X.N.Nodup) (hi : X.N[i]? = some x) (hx : Loc X.env.scope x) (he : PE X e te) (hs : swapsWith e (some (.Name x pos')) pos.line X.env = pure false := by rfl) (hf : X.fn x = true ∨ X.env.scope.names.lookup x = some .local := by first | exact .inl rfl | exact .inr rfl | assumption) :
    PS X (.Assign [.Name x pos'] e pos) (tAsg te (gName i)) := by
  intro pins s σ H D I h
  refine wpAny_Assign_Name (thn (he pins s σ H _ I h) fun v s1 ⟨y, H1, I1, r1, q1⟩ => ?_) hs
  exact store_ok I1 hN hi hx r1 (fun s2 I2 => ⟨_, H1, I2, q1⟩) hf
end

section
variable {X : Cx} {pos : Pos}
end

/-- at turn i: it yields x (the heap may grow), or it stops -/
structure It where
  go : Nat → Hp → Prop
  yld : Nat → Hp → V → Hp → Prop
  stop : Nat → Hp → Prop
/-- the iterator's own objects may turn: they are not the frame's, not pinned, younger than the entry (or a comprehension's own) -/
def FpOk (X : Cx) (pins : List (Addr × Obj)) (H : Hp) (b : Addr) : Prop :=
  H b = none ∧ b ≠ X.env.locals ∧ b ∉ X.fs ∧ (b ∈ X.ex ∨ X.s₀.heap.objs.size ≤ b) ∧ (∀ x c, X.env.cells.lookup x = some c → c ≠ b) ∧ ∀ p ∈ X.pn ++ pins, p.1 ≠ b
theorem Inv.fpOk {X : Cx} {pins : List (Addr × Obj)} {σ : St} {H H' : Hp} {s : Shared} {b : Addr} (I : Inv X pins σ H s) (hb : s.heap.objs.size ≤ b) (hn : H' b = none) : FpOk X pins H' b := by
  refine ⟨hn, Nat.ne_of_gt (Nat.lt_of_lt_of_le I.lt hb), I.nofs hb, .inr (Nat.le_trans I.sz hb), fun x c e z => ?_, fun p hp z => ?_⟩
  · obtain ⟨v, q⟩ := I.cell x c e
    exact absurd (Nat.lt_of_lt_of_le q.lt (by rw [z]; exact hb)) (Nat.lt_irrefl _)
  · exact absurd (Nat.lt_of_lt_of_le (Heap.lt_size (I.pin p hp).1) (by rw [z]; exact hb)) (Nat.lt_irrefl _)
structure Turn (P : Program) (w : World) (K : PySem.W.Frag) (tg : Expr) (J : It) (fp : List Addr) (it : Addr) (tn : Nat → Heap → Prop) : Prop where
  mem : it ∈ fp
  obj : ∀ i h, tn i h → ∀ b ∈ fp, ∃ o, h.get? b = some o ∧ ∀ v, o.data ≠ .cell v
  keep : ∀ i h h', tn i h → (∀ b ∈ fp, ∀ o, h.get? b = some o → h'.get? b = some o) → tn i h'
  item : ∀ (X : Cx), X.prog = P → X.w = w → X.K = K → X.calm = true → ∀ (i : Nat) (pins : List (Addr × Obj)) (s : Shared) (σ : St) (H : Hp) (E : Value → Shared → Prop), Inv X pins σ H s → (∀ b ∈ fp, FpOk X pins H b) → tn i s.heap → J.go i H →
    wpAny (model P w) X.A (pyNext (.ref it)) (fun r s1 => ∃ u, r = some u ∧
      wpAny (model P w) X.A (letOwnedTupleGo tg (.ref it) u) (fun _ s2 => ∃ x H', Inv X pins σ H' s2 ∧ RelV x u ∧ J.yld i H x H' ∧ tn (i + 1) s2.heap ∧ ∀ b ∈ fp, H' b = none) E s1) E s
  done : ∀ (X : Cx), X.prog = P → X.w = w → X.K = K → X.calm = true → ∀ (i : Nat) (pins : List (Addr × Obj)) (s : Shared) (σ : St) (H : Hp) (E : Value → Shared → Prop), Inv X pins σ H s → (∀ b ∈ fp, FpOk X pins H b) → tn i s.heap → J.stop i H →
    wpAny (model P w) X.A (pyNext (.ref it)) (fun r s1 => r = none ∧ Inv X pins σ H s1) E s
  self : ∀ (A : Around) (i : Nat) (s : Shared) (Q : Value → Shared → Prop) (E : Value → Shared → Prop), tn i s.heap → Q (.ref it) s → wpAny (model P w) A (pyIter (.ref it)) Q E s
abbrev TI := St → Hp → (It → Hp → Prop) → Prop
/-- an iterator has come -/
def PIE (X : Cx) (pins : List (Addr × Obj)) (σ : St) (tg : Expr) (R : It → Hp → Prop) (itv : Value) (s2 : Shared) : Prop :=
  ∃ (it : Addr) (fp : List Addr) (tn : Nat → Heap → Prop) (J : It) (H' : Hp), itv = .ref it ∧ Inv X pins σ H' s2 ∧ Turn X.prog X.w X.K tg J fp it tn ∧ tn 0 s2.heap ∧ (∀ b ∈ fp, FpOk X pins H' b) ∧ R J H'
def PI (X : Cx) (tg iter : Expr) (wi : TI) : Prop :=
  ∀ (pins : List (Addr × Obj)) (s : Shared) (σ : St) (H : Hp) (R : It → Hp → Prop), Inv X pins σ H s → wi σ H R →
    wpAny (model X.prog X.w) X.A (eval iter X.env) (fun v s1 => wpAny (model X.prog X.w) X.A (pyIter v) (PIE X pins σ tg R) X.xe s1) X.xe s

/-- the step ahead of the store is nothing for an iterator that keeps no tuple -/
theorem go_of {M : Model} {A : Around} {E : Value → Shared → Prop} {s : Shared} {tg : Expr} {it : Addr} {u : Value} {o : Obj} {n : String} {vs : Array Value} {Q : Unit → Shared → Prop} (ho : s.heap.get? it = some o) (hc : o.cls = .type n) (hd : o.data = .fields vs)
    (hn : ["enumerate", "zip", "dict_itemiterator", "dict_reverseitemiterator", "odict_iterator", "itertools.zip_longest", "itertools.pairwise"].contains n = false) (hQ : Q () s) : wpAny M A (letOwnedTupleGo tg (.ref it) u) Q E s := by
  unfold letOwnedTupleGo
  cases tg <;> first
    | exact wpAny_pure hQ
    | (cases u <;> first
        | exact wpAny_pure hQ
        | (refine wpAny_bind (wpAny_load ho ?_)
           rw [hc, hd]
           show wpAny M A (if (["enumerate", "zip", "dict_itemiterator", "dict_reverseitemiterator", "odict_iterator", "itertools.zip_longest", "itertools.pairwise"].contains n && vs[0]? == some (rawInt _)) = true then _ else _) Q E s
           rw [if_neg (by intro h; rw [hn, Bool.false_and] at h; cases h)]
           exact wpAny_pure hQ))

/-- the list at a, as it stands at each turn (a loop may append to it) -/
def Itl (K : PySem.W.Frag) (a : Addr) : It :=
  ⟨fun i H => ∃ xs x, SqL K H a xs ∧ xs[i]? = some x, fun i H x H' => H' = H ∧ ∀ xs, SqL K H a xs → xs[i]? = some x, fun i H => ∃ xs, SqL K H a xs ∧ xs.length ≤ i⟩
/-- lo, lo + 1, .. (n of them) -/
def Itr (lo : Int) (n : Nat) : It := ⟨fun i _ => i < n, fun i H x H' => H' = H ∧ x = .int (lo + i), fun i _ => n ≤ i⟩
theorem turn_list {P : Program} {w : World} {K : PySem.W.Frag} {tg : Expr} (a it : Addr) : Turn P w K tg (Itl K a) [it] it (fun i h => h.IsListIter it a i) where
  mem := by simp
  obj := fun i h st b hb => by
    have e : b = it := by simpa using hb
    subst e
    obtain ⟨o, e, c, d⟩ := st
    exact ⟨o, e, fun v z => by rw [d] at z; cases z⟩
  keep := fun i h h' st k => st.at fun o e => k it (by simp) o e
  item := by
    intro X hP hw hK hc i pins s σ H E I hf st hg
    subst hP hw hK
    obtain ⟨xs, x, hq, hx⟩ := hg
    obtain ⟨its, rv, p, hz⟩ := I.list hq
    obtain ⟨u, hu, ru⟩ := rv.get hx
    obtain ⟨f0, f1, f2, f3, f4, f5⟩ := hf it (by simp)
    refine wpAny_pyNext_list_item st p.isList (x := u) (by simpa using hu) fun h' st' sb => ?_
    have I1 : Inv X pins σ H { s with heap := h' } := I.turned (t' := s.toks) (fun b o hb e => (sb.2 b hb).trans e) f0 f1 f3 f4 f5
    obtain ⟨o, e, c, d⟩ := id st'
    exact ⟨u, rfl, go_of (s := { s with heap := h' }) e c d (by decide) ⟨x, H, I1, ru, ⟨rfl, fun ys hy => by rw [I.list_inj hy hq]; exact hx⟩, st', fun b hb => (hf b hb).1⟩⟩
  done := by
    intro X hP hw hK hc i pins s σ H E I hf st hg
    subst hP hw hK
    obtain ⟨xs, hq, hx⟩ := hg
    obtain ⟨its, rv, p, hz⟩ := I.list hq
    obtain ⟨f0, f1, f2, f3, f4, f5⟩ := hf it (by simp)
    have hl := rv.length
    exact wpAny_pyNext_list_end (I.ok.hd hc) st p.isList (by simp; omega) fun h' eb => ⟨rfl, I.turned (t' := s.toks) (fun b o hb e => eb b o hb e) f0 f1 f3 f4 f5⟩
  self := fun _ _ _ _ _ st h => wpAny_pyIter_listiter st h
theorem turn_range {P : Program} {w : World} {K : PySem.W.Frag} {tg : Expr} (it : Addr) (lo : Int) (n : Nat) : Turn P w K tg (Itr lo n) [it] it (fun i h => IsRangeIter h it (lo + (i : Nat) * 1) ((n : Int) - (i : Nat)) 1) where
  mem := by simp
  obj := fun i h st b hb => by
    have e : b = it := by simpa using hb
    subst e
    exact ⟨_, st, fun v z => by
      have z' : Data.fields _ = Data.cell v := z
      cases z'⟩
  keep := fun i h h' st k => k it (by simp) _ st
  item := by
    intro X hP hw hK hc i pins s σ H E I hf st hg
    subst hP hw hK
    obtain ⟨f0, f1, f2, f3, f4, f5⟩ := hf it (by simp)
    have W := Walks.range (prog := X.prog) (w := X.w) (I.ok.hd hc) it lo 1 n
    refine W.item i s _ _ hg st fun v h' tk hv st' kk => ?_
    obtain ⟨t, rfl⟩ := hv
    have I1 : Inv X pins σ H { s with heap := h', toks := tk } := I.turned (fun b o hb e => kk b o (by simpa using hb) e) f0 f1 f3 f4 f5
    refine ⟨_, rfl, go_of (s := { s with heap := h', toks := tk }) (n := "range_iterator") st' rfl rfl (by decide) ⟨.int (lo + i), H, I1, ⟨t, ?_⟩, ⟨rfl, rfl⟩, st', fun b hb => (hf b hb).1⟩⟩
    rw [Int.mul_one]
  done := by
    intro X hP hw hK hc i pins s σ H E I hf st hg
    subst hP hw hK
    obtain ⟨f0, f1, f2, f3, f4, f5⟩ := hf it (by simp)
    exact wpAny_pyNext_range_end (I.ok.hd hc) st (by have : n ≤ i := hg; omega) fun h' eb => ⟨rfl, I.turned (t' := s.toks) (fun b o hb e => eb b o hb e) f0 f1 f3 f4 f5⟩
  self := fun _ _ _ _ _ st h => wpAny_pyIter_rangeiter st h
end L2

namespace L2
open PySem PySem.Spec PyProof.Rows
section
variable {X : Cx} {tg : Expr}
def iList (K : PySem.W.Frag) (tl : TE) : TI := fun σ H R => tl σ H fun x H1 => ∃ a, x = .ref a ∧ (∃ xs, SqL K H1 a xs) ∧ R (Itl K a) H1
theorem pi_list {l : Expr} {tl : TE} (hl : PE X l tl) : PI X tg l (iList X.K tl) := by
  intro pins s σ H R I h
  refine thn (hl pins s σ H _ I h) fun v s1 ⟨x, H1, I1, r1, q1⟩ => ?_
  obtain ⟨a, e, ⟨xs, hq⟩, q⟩ := q1
  subst e
  cases r1
  obtain ⟨its, rv, p, hz⟩ := I1.list hq
  refine wpAny_pyIter_list p.isList ?_
  refine ⟨s1.heap.objs.size, [s1.heap.objs.size], _, _, H1, rfl, I1.kept (t' := s1.toks) fun b o e => Heap.get?_push_of_some _ e, turn_list a _, ⟨_, Heap.get?_push_size _ rfl, rfl, rfl⟩, fun b hb => ?_, q⟩
  have e : b = s1.heap.objs.size := by simpa using hb
  subst e
  exact I1.fpOk (Nat.le_refl _) (I1.hok.fresh (Nat.le_refl _))
/-- a range object just made, walked -/
theorem range_it {pins : List (Addr × Obj)} {σ : St} {H : Hp} {s : Shared} {R : It → Hp → Prop} {E : Value → Shared → Prop} {lo hi : Int} {t u v : Tok} {tk : Nat} (I : Inv X pins σ H s) (h1 : -(2 ^ 62) ≤ lo) (h2 : lo < 2 ^ 62) (h3 : -(2 ^ 62) ≤ hi) (h4 : hi < 2 ^ 62)
    (q : R (Itr lo (hi - lo).toNat) H) : wpAny (model X.prog X.w) X.A (pyIter (.ref s.heap.objs.size)) (PIE X pins σ tg R) E { s with heap := s.heap.push { cls := .type "range", data := .fields #[.int lo t, .int hi u, .int 1 v] }, toks := tk } := by
  refine wpAny_pyIter_range (IsRange.new ..) (small_one h1 h2 h3 h4) ?_
  have I1 : Inv X pins σ H { s with heap := s.heap.push { cls := .type "range", data := .fields #[.int lo t, .int hi u, .int 1 v] }, toks := tk } := I.kept fun b o e => Heap.get?_push_of_some _ e
  refine ⟨(s.heap.push { cls := .type "range", data := .fields #[.int lo t, .int hi u, .int 1 v] }).objs.size, [(s.heap.push { cls := .type "range", data := .fields #[.int lo t, .int hi u, .int 1 v] }).objs.size], _, _, H, rfl,
    I1.kept (t' := tk) fun b o e => Heap.get?_push_of_some _ e, turn_range _ lo (hi - lo).toNat, ?_, fun b hb => ?_, q⟩
  · have e1 : lo + ((0 : Nat) : Int) * 1 = lo := by simp
    have e2 : (((hi - lo).toNat : Nat) : Int) - ((0 : Nat) : Int) = Builtin.Range.rangeSize lo hi 1 := by rw [rangeSize_one]; split <;> omega
    show IsRangeIter _ _ (lo + ((0 : Nat) : Int) * 1) ((((hi - lo).toNat : Nat) : Int) - ((0 : Nat) : Int)) 1
    rw [e1, e2]
    exact Heap.get?_push_size _ rfl
  · have e : b = (s.heap.push { cls := .type "range", data := .fields #[.int lo t, .int hi u, .int 1 v] }).objs.size := by simpa using hb
    subst e
    exact I1.fpOk (Nat.le_refl _) (I1.hok.fresh (Nat.le_refl _))
def iRng1 (ta : TA) : TI := fun σ H R => ta σ H fun vs H1 => ∃ j : Int, vs = [.int j] ∧ -(2 ^ 62) ≤ j ∧ j < 2 ^ 62 ∧ R (Itr 0 j.toNat) H1
def iRng2 (ta : TA) : TI := fun σ H R => ta σ H fun vs H1 => ∃ i j : Int, vs = [.int i, .int j] ∧ (-(2 ^ 62) ≤ i ∧ i < 2 ^ 62 ∧ -(2 ^ 62) ≤ j ∧ j < 2 ^ 62) ∧ R (Itr i (j - i).toNat) H1
theorem pi_range1 {a : Expr} {ta : TA} {p pos : Pos} (hg : Gl X "range") (hm : X.mg "range" = none) (ha : PA X [a] ta) (hs : starEach [a] X.env = [(false, eval a X.env)] := by rfl) : PI X tg (.Call (.Name "range" p) [a] [] pos) (iRng1 ta) := by
  intro pins s σ H R I h
  refine Call_ (ld_blt I hg hm boot_range (PyProof.Rows.callWith_type1 (thn (ha pos pins s σ H _ I h) fun us s1 ⟨vs, H1, I1, r1, q1⟩ => ?_) hs rfl))
  obtain ⟨j, e, q1, q2, q⟩ := q1
  subst e
  cases r1 with
  | cons r rr =>
    cases rr
    obtain ⟨t, rfl⟩ := r
    exact call_range_1 (range_it I1 (by omega) (by omega) q1 q2 (by simpa using q))
theorem pi_range2 {a b : Expr} {ta : TA} {p pos : Pos} (hg : Gl X "range") (hm : X.mg "range" = none) (ha : PA X [a, b] ta) (hs : starEach [a, b] X.env = [(false, eval a X.env), (false, eval b X.env)] := by rfl) (hs2 : starEach [b] X.env = [(false, eval b X.env)] := by rfl) :
    PI X tg (.Call (.Name "range" p) [a, b] [] pos) (iRng2 ta) := by
  intro pins s σ H R I h
  refine Call_ (ld_blt I hg hm boot_range (PyProof.Rows.callWith_type1 (thn (ha pos pins s σ H _ I h) fun us s1 ⟨vs, H1, I1, r1, q1⟩ => ?_) (by rw [hs, hs2]) (by rw [hs2]; rfl)))
  obtain ⟨i, j, e, ⟨q1, q2, q3, q4⟩, q⟩ := q1
  subst e
  cases r1 with
  | cons r rr =>
    cases rr with
    | cons r' rr =>
      cases rr
      obtain ⟨t, rfl⟩ := r
      obtain ⟨t', rfl⟩ := r'
      exact call_range_2 (range_it I1 q1 q2 q3 q4 q)

/-- W: the invariant by the turn and a measure; N: what the body is to reach -/
def tFor (wi : TI) (g : TG) (tb : TS) : TS := fun D σ H => wi σ H fun J H1 => ∃ W : Nat → Nat → St → Hp → Prop, (∃ m, W 0 m σ H1) ∧ ∀ i m σ H, W i m σ H →
  (J.stop i H ∧ D.nx σ H) ∨ (J.go i H ∧ ∃ N : St → Hp → Prop, (∀ σ' H', N σ' H' → ∃ m', m' < m ∧ W (i + 1) m' σ' H') ∧ ∀ x H', J.yld i H x H' → g x σ H' fun σ2 H2 => tb { D with nx := N, ct := N, bk := D.nx } σ2 H2)
/-- the records at fp as they stand -/
def pinsAt (fp : List Addr) (h : Heap) : List (Addr × Obj) := fp.filterMap fun b => (h.get? b).map fun o => (b, o)
theorem mem_pinsAt {fp : List Addr} {h : Heap} {b : Addr} {o : Obj} (hb : b ∈ fp) (e : h.get? b = some o) : (b, o) ∈ pinsAt fp h := List.mem_filterMap.mpr ⟨b, hb, by rw [e]; rfl⟩
theorem of_pinsAt {fp : List Addr} {h : Heap} {p : Addr × Obj} (hp : p ∈ pinsAt fp h) : p.1 ∈ fp ∧ h.get? p.1 = some p.2 := by
  obtain ⟨b, hb, e⟩ := List.mem_filterMap.mp hp
  cases q : h.get? b with
  | none => rw [q] at e; cases e
  | some o =>
    rw [q] at e
    have e' : (b, o) = p := Option.some.inj e
    subst e'
    exact ⟨hb, q⟩
theorem Inv.pinned {pins : List (Addr × Obj)} {σ : St} {H : Hp} {s : Shared} {fp : List Addr} (I : Inv X pins σ H s) (hf : ∀ b ∈ fp, FpOk X pins H b) (ho : ∀ b ∈ fp, ∃ o, s.heap.get? b = some o ∧ ∀ v, o.data ≠ .cell v) : Inv X (pins ++ pinsAt fp s.heap) σ H s :=
  I.pins_of fun p hp => (List.mem_append.mp hp).elim (fun z => I.pin p (List.mem_append_right _ z)) fun z => by
    obtain ⟨hb, e⟩ := of_pinsAt z
    obtain ⟨f0, f1, f2, _⟩ := hf p.1 hb
    obtain ⟨o, e', d⟩ := ho p.1 hb
    rw [e] at e'; cases e'
    exact ⟨e, f0, f1, f2, d⟩
theorem Inv.unpinned {pins pl : List (Addr × Obj)} {σ : St} {H : Hp} {s : Shared} (I : Inv X (pins ++ pl) σ H s) : Inv X pins σ H s := I.pins_of fun p hp => I.pin p (List.mem_append_right _ (List.mem_append_left _ hp))
theorem ps_for {iter : Expr} {body : List Stmt} {wi : TI} {g : TG} {tb : TS} {pos : Pos} (hp : PassesOwn (model X.prog X.w) X.A X.env X.xe) (hc : X.calm = true) (hi : PI X tg iter wi) (hg : PG X tg g) (hb : PSs X body tb)
    (hs : ∀ x, foldedSetIterable iter X.env x = pure x := by intro _; rfl) : PS X (.For tg iter body [] pos) (tFor wi g tb) := by
  intro pins s σ H D I h
  refine wpAny_For (thn (hi pins s σ H _ I h) fun v s1 h1 => thn h1 fun itv s2 h2 => ?_) hs
  obtain ⟨it, fp, tn, J, H2, e, I2, T, st2, f2, W, ⟨m0, w0⟩, turn⟩ := h2
  subst e
  -- what stays true of the iterator's objects through the loop
  have stat : ∀ {H' : Hp}, (∀ b ∈ fp, H' b = none) → ∀ b ∈ fp, FpOk X pins H' b := fun hn b hb => ⟨hn b hb, (f2 b hb).2⟩
  refine codeAny_forLoop_any (fun n s' => ∃ i σ' H', Inv X pins σ' H' s' ∧ tn i s'.heap ∧ (∀ b ∈ fp, H' b = none) ∧ W i n σ' H') ?_ m0 ⟨0, σ, H2, I2, st2, fun b hb => (f2 b hb).1, w0⟩
  rintro n s3 ⟨i, σ3, H3, I3, st3, fr3, w3⟩
  rcases turn i n σ3 H3 w3 with ⟨stop, qn⟩ | ⟨go, N, hN, step⟩
  · refine wpAny_passesOwn hp (thn (T.done X rfl rfl rfl hc i pins s3 σ3 H3 X.xe I3 (stat fr3) st3 stop) fun r s4 ⟨hr, I4⟩ => ?_)
    subst hr
    exact wpAny_execs_nil ⟨σ3, H3, I4, qn⟩
  · refine wpAny_passesOwn hp (thn (T.item X rfl rfl rfl hc i pins s3 σ3 H3 X.xe I3 (stat fr3) st3 go) fun r s4 ⟨u, hr, h4⟩ => ?_)
    subst hr
    refine wpAny_passesOwn hp (thn h4 fun _ s5 ⟨x, H5, I5, r5, y5, st5, fr5⟩ => ?_)
    have I5' := I5.pinned (stat fr5) (T.obj _ _ st5)
    refine wpAny_passesOwn hp (thn (hg _ s5 σ3 H5 x u _ I5' r5 (step x H5 y5)) fun _ s6 ⟨σ6, H6, I6, q6⟩ => ?_)
    refine wpAny_passesOwn hp (thn (hb _ s6 σ6 H6 _ I6 q6) fun f s7 q7 => ?_)
    have again : ∀ {σ7 : St} {H7 : Hp}, Inv X (pins ++ pinsAt fp s5.heap) σ7 H7 s7 → N σ7 H7 → ∃ m, m < n ∧ ∃ i σ' H', Inv X pins σ' H' s7 ∧ tn i s7.heap ∧ (∀ b ∈ fp, H' b = none) ∧ W i m σ' H' := fun {σ7 H7} I7 n7 => by
      obtain ⟨m', hm, w7⟩ := hN σ7 H7 n7
      refine ⟨m', hm, i + 1, σ7, H7, I7.unpinned, T.keep _ _ _ st5 fun b hb o e => (I7.pin (b, o) (List.mem_append_right _ (List.mem_append_right _ (mem_pinsAt hb e)))).1, fun b hb => ?_, w7⟩
      obtain ⟨o, e, d⟩ := T.obj _ _ st5 b hb
      exact (I7.pin (b, o) (List.mem_append_right _ (List.mem_append_right _ (mem_pinsAt hb e)))).2.1
    cases f with
    | next => obtain ⟨σ7, H7, I7, n7⟩ := q7; exact again I7 n7
    | cont => obtain ⟨σ7, H7, I7, n7⟩ := q7; exact again I7 n7
    | brk => obtain ⟨σ7, H7, I7, q7⟩ := q7; exact ⟨σ7, H7, I7.unpinned, q7⟩
    | ret v => obtain ⟨x7, σ7, H7, I7, r7, q7⟩ := q7; exact ⟨x7, σ7, H7, I7.unpinned, r7, q7⟩
end

/-- over a list that the body leaves as it is -/
theorem for_list {K : PySem.W.Frag} {a : Addr} {xs : List V} {g : TG} {tb : TS} {D : Ends} {σ : St} {H : Hp} (Pv : Nat → St → Hp → Prop) (h0 : Pv 0 σ H) (hl : ∀ i σ H, i ≤ xs.length → Pv i σ H → SqL K H a xs)
    (hs : ∀ i x σ H, xs[i]? = some x → Pv i σ H → g x σ H fun σ2 H2 => tb { D with nx := Pv (i + 1), ct := Pv (i + 1), bk := D.nx } σ2 H2) (hd : ∀ σ H, Pv xs.length σ H → D.nx σ H) :
    ∃ W : Nat → Nat → St → Hp → Prop, (∃ m, W 0 m σ H) ∧ ∀ i m σ H, W i m σ H →
      ((Itl K a).stop i H ∧ D.nx σ H) ∨ ((Itl K a).go i H ∧ ∃ N : St → Hp → Prop, (∀ σ' H', N σ' H' → ∃ m', m' < m ∧ W (i + 1) m' σ' H') ∧ ∀ x H', (Itl K a).yld i H x H' → g x σ H' fun σ2 H2 => tb { D with nx := N, ct := N, bk := D.nx } σ2 H2) := by
  refine ⟨fun i m σ H => m = xs.length - i ∧ i ≤ xs.length ∧ Pv i σ H, ⟨xs.length, by simp, Nat.zero_le _, h0⟩, ?_⟩
  rintro i m σ H ⟨rfl, hi, p⟩
  have q := hl i σ H hi p
  by_cases hlt : i < xs.length
  · refine .inr ⟨⟨xs, xs[i], q, by simp [hlt]⟩, Pv (i + 1), fun σ' H' p' => ⟨xs.length - (i + 1), by omega, rfl, hlt, p'⟩, fun x H' y => ?_⟩
    obtain ⟨e, y⟩ := y
    subst e
    exact hs i x σ _ (y xs q) p
  · have e : i = xs.length := by omega
    subst e
    exact .inl ⟨⟨xs, q, Nat.le_refl _⟩, hd σ H p⟩
theorem for_range {lo : Int} {n : Nat} {g : TG} {tb : TS} {D : Ends} {σ : St} {H : Hp} (Pv : Nat → St → Hp → Prop) (h0 : Pv 0 σ H)
    (hs : ∀ i σ H, i < n → Pv i σ H → g (.int (lo + i)) σ H fun σ2 H2 => tb { D with nx := Pv (i + 1), ct := Pv (i + 1), bk := D.nx } σ2 H2) (hd : ∀ σ H, Pv n σ H → D.nx σ H) :
    ∃ W : Nat → Nat → St → Hp → Prop, (∃ m, W 0 m σ H) ∧ ∀ i m σ H, W i m σ H →
      ((Itr lo n).stop i H ∧ D.nx σ H) ∨ ((Itr lo n).go i H ∧ ∃ N : St → Hp → Prop, (∀ σ' H', N σ' H' → ∃ m', m' < m ∧ W (i + 1) m' σ' H') ∧ ∀ x H', (Itr lo n).yld i H x H' → g x σ H' fun σ2 H2 => tb { D with nx := N, ct := N, bk := D.nx } σ2 H2) := by
  refine ⟨fun i m σ H => m = n - i ∧ i ≤ n ∧ Pv i σ H, ⟨n, by simp, Nat.zero_le _, h0⟩, ?_⟩
  rintro i m σ H ⟨rfl, hi, p⟩
  by_cases hlt : i < n
  · refine .inr ⟨hlt, Pv (i + 1), fun σ' H' p' => ⟨n - (i + 1), by omega, rfl, hlt, p'⟩, fun x H' y => ?_⟩
    obtain ⟨e, y⟩ := y
    subst e y
    exact hs i σ _ hlt p
  · have e : i = n := by omega
    subst e
    exact .inl ⟨Nat.le_refl _, hd σ H p⟩
end L2

namespace L2
open PySem PySem.Spec PyProof.Rows

abbrev R2 := V → V → Hp → VK → Prop
/-- a two-place operation on values: f is binaryOp op, inplaceOp op or compareOp op -/
def OpR (X : Cx) (f : Value → Value → Sem Value) (r : R2) : Prop :=
  ∀ (pins : List (Addr × Obj)) (s : Shared) (σ : St) (H : Hp) (x y : V) (v u : Value) (Q : VK), Inv X pins σ H s → RelV x v → RelV y u → r x y H Q →
    wpAny (model X.prog X.w) X.A (f v u) (EP X pins σ Q) X.xe s
/-- a call of a value that is known (a builtin, a type) with values -/
def CallR (X : Cx) (f : Value) (r : List V → Hp → VK → Prop) : Prop :=
  ∀ (pins : List (Addr × Obj)) (s : Shared) (σ : St) (H : Hp) (xs : List V) (us : List Value) (Q : VK), Inv X pins σ H s → Vals xs us → r xs H Q →
    wpAny (model X.prog X.w) X.A (call f us) (EP X pins σ Q) X.xe s
def tOp (r : R2) (ta tb : TE) : TE := fun σ H Q => ta σ H fun x H1 => tb σ H1 fun y H2 => r x y H2 Q
/-- ints in, under C, and a value out -/
def rI (C : Int → Int → Prop) (g : Int → Int → V) : R2 := fun x y H Q => ∃ i j, x = .int i ∧ y = .int j ∧ C i j ∧ Q (g i j) H
def rI0 (g : Int → Int → V) : R2 := fun x y H Q => ∃ i j, x = .int i ∧ y = .int j ∧ Q (g i j) H
section
variable {X : Cx} {a b c : Expr} {ta tb tc : TE} {pos : Pos}

theorem binT (ha : PE X a ta) (hb : PE X b tb) {pins : List (Addr × Obj)} {s : Shared} {σ : St} {H : Hp} {R : V → V → Hp → Prop} (I : Inv X pins σ H s)
    (h : ta σ H fun x H1 => tb σ H1 fun y H2 => R x y H2) {Q : Value → Shared → Prop} {f : Value → Value → Sem Value}
    (hf : ∀ v u s2 x y H2, Inv X pins σ H2 s2 → RelV x v → RelV y u → R x y H2 → wpAny (model X.prog X.w) X.A (f v u) Q X.xe s2) :
    wpAny (model X.prog X.w) X.A (eval a X.env) (fun v s₁ => wpAny (model X.prog X.w) X.A (eval b X.env) (fun u s₂ => wpAny (model X.prog X.w) X.A (f v u) Q X.xe s₂) X.xe s₁) X.xe s := by
  refine thn (ha pins s σ H _ I h) fun v s1 ⟨x, H1, I1, r1, q1⟩ => ?_
  refine thn (hb pins s1 σ H1 _ I1 q1) fun u s2 ⟨y, H2, I2, r2, q2⟩ => ?_
  exact hf v u s2 x y H2 I2 r1 r2 q2

theorem pe_op {op : Operator} {r : R2} (ho : OpR X (binaryOp op) r) (ha : PE X a ta) (hb : PE X b tb) : PE X (.BinOp a op b pos) (tOp r ta tb) := by
  intro pins s σ H Q I h
  exact wpAny_BinOp (binT ha hb I h fun v u s2 x y H2 I2 rx ry q => ho pins s2 σ H2 x y v u Q I2 rx ry q)
theorem opI {f : Value → Value → Sem Value} {C : Int → Int → Prop} {g : Int → Int → Int}
    (rule : ∀ (i j : Int) (t u : Tok) (s : Shared) (Q : Value → Shared → Prop) (E : Value → Shared → Prop), C i j → Q (.int (g i j) s.toks) { s with toks := s.toks + 1 } → wpAny (model X.prog X.w) X.A (f (.int i t) (.int j u)) Q E s) :
    OpR X f (rI C fun i j => .int (g i j)) := by
  intro pins s σ H x y v u Q I rx ry h
  obtain ⟨i, j, rfl, rfl, hc, q⟩ := h
  obtain ⟨t, rfl⟩ := rx
  obtain ⟨t', rfl⟩ := ry
  exact rule i j t t' s _ _ hc ⟨.int (g i j), H, I.tok _, ⟨_, rfl⟩, q⟩
theorem opI0 {f : Value → Value → Sem Value} {g : Int → Int → Int}
    (rule : ∀ (i j : Int) (t u : Tok) (s : Shared) (Q : Value → Shared → Prop) (E : Value → Shared → Prop), Q (.int (g i j) s.toks) { s with toks := s.toks + 1 } → wpAny (model X.prog X.w) X.A (f (.int i t) (.int j u)) Q E s) :
    OpR X f (rI0 fun i j => .int (g i j)) := by
  intro pins s σ H x y v u Q I rx ry h
  obtain ⟨i, j, rfl, rfl, q⟩ := h
  obtain ⟨t, rfl⟩ := rx
  obtain ⟨t', rfl⟩ := ry
  exact rule i j t t' s _ _ ⟨.int (g i j), H, I.tok _, ⟨_, rfl⟩, q⟩
theorem opB0 {f : Value → Value → Sem Value} {g : Int → Int → Bool}
    (rule : ∀ (i j : Int) (t u : Tok) (s : Shared) (Q : Value → Shared → Prop) (E : Value → Shared → Prop), Q (.bool (g i j)) s → wpAny (model X.prog X.w) X.A (f (.int i t) (.int j u)) Q E s) :
    OpR X f (rI0 fun i j => .bl (g i j)) := by
  intro pins s σ H x y v u Q I rx ry h
  obtain ⟨i, j, rfl, rfl, q⟩ := h
  obtain ⟨t, rfl⟩ := rx
  obtain ⟨t', rfl⟩ := ry
  exact rule i j t t' s _ _ ⟨.bl (g i j), H, I, rfl, q⟩

def CDiv (i j : Int) : Prop := 0 < j ∧ j < 1073741824
def CPow (i j : Int) : Prop := 0 ≤ j ∧ j ≤ 1000000 ∧ i.natAbs < 2 ^ 64
def CMul (i j : Int) : Prop := (-(2 ^ 64) < i ∧ i < 2 ^ 64) ∨ (-(2 ^ 64) < j ∧ j < 2 ^ 64)
theorem CMul.ok {i j : Int} (h : CMul i j) : IntMulOk i j := by
  rcases h with ⟨h1, h2⟩ | ⟨h1, h2⟩
  · exact .of_left (intBits_le_64 h1 h2)
  · exact .of_right (intBits_le_64 h1 h2)
theorem op_add : OpR X (binaryOp .Add) (rI0 fun i j => .int (i + j)) := opI0 fun _ _ _ _ _ _ _ q => add_int q
theorem op_sub : OpR X (binaryOp .Sub) (rI0 fun i j => .int (i - j)) := opI0 fun _ _ _ _ _ _ _ q => sub_int q
theorem op_mul : OpR X (binaryOp .Mult) (rI CMul fun i j => .int (i * j)) := opI fun _ _ _ _ _ _ _ hc q => mul_int q hc.ok
/-- // by a positive divisor -/
theorem op_fdiv : OpR X (binaryOp .FloorDiv) (rI CDiv fun i j => .int (i / j)) := opI fun i j _ _ _ _ _ hc q => by
  have h1 : (0 : Int) < j := hc.1
  have h2 : j < 1073741824 := hc.2
  exact floordiv_int (by omega) (by rw [Int.fdiv_eq_ediv_of_nonneg i (by omega)]; exact q) (.inl (PyProof.noPylong_small (by omega)))
/-- % by a positive divisor of any size -/
theorem op_mod : OpR X (binaryOp .Mod) (rI (fun _ j => 0 < j) fun i j => .int (i % j)) := opI fun i j _ _ _ _ _ hc q => by
  have h1 : (0 : Int) < j := hc
  exact mod_int' (by omega) (by rw [Int.fmod_eq_emod_of_nonneg i (by omega)]; exact q)
theorem op_pow : OpR X (binaryOp .Pow) (rI CPow fun i j => .int (i ^ j.toNat)) := opI fun _ _ _ _ _ _ _ hc q => pow_int_small hc.1 hc.2.1 hc.2.2 q
end

/-- the scalars that == tells apart as data does -/
def scal : V → V → Bool
  | .non, .non => true | .non, .int _ => true | .int _, .non => true | .non, .bl _ => true | .bl _, .non => true | .non, .str _ => true | .str _, .non => true
  | .int _, .int _ => true | .bl _, .bl _ => true | .str _, .str _ => true | .byt _, .byt _ => true
  | .int _, .str _ => true | .str _, .int _ => true | .bl _, .str _ => true | .str _, .bl _ => true
  | _, _ => false
def rEq : R2 := fun x y H Q => scal x y = true ∧ Q (.bl (decide (x = y))) H
def rNe : R2 := fun x y H Q => scal x y = true ∧ Q (.bl (!decide (x = y))) H

theorem dec_int {i j : Int} : decide (V.int i = V.int j) = (i == j) := by
  rw [Bool.eq_iff_iff]
  simp
theorem dec_bl {i j : Bool} : decide (V.bl i = V.bl j) = (i == j) := by
  rw [Bool.eq_iff_iff]
  simp
theorem dec_str {i j : Str} : decide (V.str i = V.str j) = (i == j) := by
  rw [Bool.eq_iff_iff]
  simp
theorem dec_byt {i j : Array UInt8} : decide (V.byt i = V.byt j) = (i.toList == j.toList) := by
  rw [Bool.eq_iff_iff]
  cases i
  cases j
  simp

section
variable {X : Cx} {a b c : Expr} {ta tb tc : TE} {pos : Pos}
theorem fin_bl {pins : List (Addr × Obj)} {σ : St} {H : Hp} {s : Shared} {Q : VK} {k k' : Bool} (I : Inv X pins σ H s) (q : Q (.bl k) H) (e : k = k') : EP X pins σ Q (.bool k') s := by
  subst e
  exact ⟨.bl k, H, I, rfl, q⟩
theorem op_eq : OpR X (compareOp .Eq) rEq := by
  intro pins s σ H x y v u Q I rx ry h
  obtain ⟨hs, q⟩ := h
  cases x with
  | non =>
    cases rx
    cases y with
    | non => cases ry; exact PySem.EqNone.eq_none_none (fin_bl I q (by simp))
    | bl j => cases ry; exact PySem.EqNone.eq_none_bool (fin_bl I q (by simp))
    | int j => obtain ⟨t', rfl⟩ := ry; exact PySem.EqNone.eq_none_int (fin_bl I q (by simp))
    | str j => obtain ⟨t', rfl⟩ := ry; exact PySem.EqNone.eq_none_str (fin_bl I q (by simp))
    | _ => exact absurd (show false = true from hs) Bool.false_ne_true
  | bl i =>
    cases rx
    cases y with
    | non => cases ry; exact PySem.EqNone.eq_bool_none (fin_bl I q (by simp))
    | bl j => cases ry; exact eq_bool (fin_bl I q dec_bl)
    | str j => obtain ⟨t', rfl⟩ := ry; exact PySem.EqMixed.eq_bool_str (fin_bl I q (by simp))
    | _ => exact absurd (show false = true from hs) Bool.false_ne_true
  | int i =>
    obtain ⟨t, rfl⟩ := rx
    cases y with
    | non => cases ry; exact PySem.EqNone.eq_int_none (fin_bl I q (by simp))
    | int j => obtain ⟨t', rfl⟩ := ry; exact eq_int (fin_bl I q dec_int)
    | str j => obtain ⟨t', rfl⟩ := ry; exact PySem.EqMixed.eq_int_str (fin_bl I q (by simp))
    | _ => exact absurd (show false = true from hs) Bool.false_ne_true
  | str i =>
    obtain ⟨t, rfl⟩ := rx
    cases y with
    | non => cases ry; exact PySem.EqNone.eq_str_none (fin_bl I q (by simp))
    | bl j => cases ry; exact PySem.EqMixed.eq_str_bool (fin_bl I q (by simp))
    | int j => obtain ⟨t', rfl⟩ := ry; exact PySem.EqMixed.eq_str_int (fin_bl I q (by simp))
    | str j => obtain ⟨t', rfl⟩ := ry; exact eq_str (fin_bl I q dec_str)
    | _ => exact absurd (show false = true from hs) Bool.false_ne_true
  | byt i =>
    obtain ⟨t, rfl⟩ := rx
    cases y with
    | byt j => obtain ⟨t', rfl⟩ := ry; exact PySem.W.eq_bytes (fin_bl I q dec_byt)
    | _ => exact absurd (show false = true from hs) Bool.false_ne_true
  | _ => cases y <;> exact absurd (show false = true from hs) Bool.false_ne_true
theorem op_ne : OpR X (compareOp .NotEq) rNe := by
  intro pins s σ H x y v u Q I rx ry h
  obtain ⟨hs, q⟩ := h
  cases x with
  | non =>
    cases rx
    cases y with
    | non => cases ry; exact PySem.EqNone.ne_none_none (fin_bl I q (by simp))
    | bl j => cases ry; exact PySem.EqNone.ne_none_bool (fin_bl I q (by simp))
    | int j => obtain ⟨t', rfl⟩ := ry; exact PySem.EqNone.ne_none_int (fin_bl I q (by simp))
    | str j => obtain ⟨t', rfl⟩ := ry; exact PySem.EqNone.ne_none_str (fin_bl I q (by simp))
    | _ => exact absurd (show false = true from hs) Bool.false_ne_true
  | bl i =>
    cases rx
    cases y with
    | non => cases ry; exact PySem.EqNone.ne_bool_none (fin_bl I q (by simp))
    | bl j => cases ry; exact ne_bool (fin_bl I q (congrArg not dec_bl))
    | str j => obtain ⟨t', rfl⟩ := ry; exact PySem.EqMixed.ne_bool_str (fin_bl I q (by simp))
    | _ => exact absurd (show false = true from hs) Bool.false_ne_true
  | int i =>
    obtain ⟨t, rfl⟩ := rx
    cases y with
    | non => cases ry; exact PySem.EqNone.ne_int_none (fin_bl I q (by simp))
    | int j => obtain ⟨t', rfl⟩ := ry; exact ne_int (fin_bl I q (congrArg not dec_int))
    | str j => obtain ⟨t', rfl⟩ := ry; exact PySem.EqMixed.ne_int_str (fin_bl I q (by simp))
    | _ => exact absurd (show false = true from hs) Bool.false_ne_true
  | str i =>
    obtain ⟨t, rfl⟩ := rx
    cases y with
    | non => cases ry; exact PySem.EqNone.ne_str_none (fin_bl I q (by simp))
    | bl j => cases ry; exact PySem.EqMixed.ne_str_bool (fin_bl I q (by simp))
    | int j => obtain ⟨t', rfl⟩ := ry; exact PySem.EqMixed.ne_str_int (fin_bl I q (by simp))
    | str j => obtain ⟨t', rfl⟩ := ry; exact ne_str (fin_bl I q (congrArg not dec_str))
    | _ => exact absurd (show false = true from hs) Bool.false_ne_true
  | byt i =>
    obtain ⟨t, rfl⟩ := rx
    cases y with
    | byt j => obtain ⟨t', rfl⟩ := ry; exact PySem.W.ne_bytes (fin_bl I q (congrArg not dec_byt))
    | _ => exact absurd (show false = true from hs) Bool.false_ne_true
  | _ => cases y <;> exact absurd (show false = true from hs) Bool.false_ne_true

theorem op_lt : OpR X (compareOp .Lt) (rI0 fun i j => .bl (decide (i < j))) := opB0 fun _ _ _ _ _ _ _ q => lt_int q
theorem op_ge : OpR X (compareOp .GtE) (rI0 fun i j => .bl (decide (j ≤ i))) := opB0 fun _ _ _ _ _ _ _ q => ge_int q
/-- is None, is not None: the right side a value none -/
theorem op_isN : OpR X (compareOp .Is) (fun x y H Q => y = .non ∧ Q (.bl (decide (x = .non))) H) := by
  intro pins s σ H x y v u Q I rx ry h
  obtain ⟨rfl, q⟩ := h
  cases ry
  refine is_none_gen (fin_bl I q ?_)
  cases x <;> first
    | (cases rx; rfl)
    | (obtain ⟨t, rfl⟩ := rx; rfl)
theorem op_notN : OpR X (compareOp .IsNot) (fun x y H Q => y = .non ∧ Q (.bl (!decide (x = .non))) H) := by
  intro pins s σ H x y v u Q I rx ry h
  obtain ⟨rfl, q⟩ := h
  cases ry
  refine isnot_none_gen (fin_bl I q ?_)
  cases x <;> first
    | (cases rx; rfl)
    | (obtain ⟨t, rfl⟩ := rx; rfl)

theorem nomark (b : Expr) {op : CmpOp} (h : op ≠ .In := by decide) (h2 : op ≠ .NotIn := by decide) : behindInMarks op b = false := by
  have e1 : (op == CmpOp.In) = false := by cases op <;> first | rfl | exact absurd rfl h
  have e2 : (op == CmpOp.NotIn) = false := by cases op <;> first | rfl | exact absurd rfl h2
  cases b <;> simp [behindInMarks, e1, e2]
/-- a comparison as a value; hm: nomark b, or (for in, not in) by with_unfolding_all rfl -/
theorem pe_cmpR {op : CmpOp} {r : R2} (ho : OpR X (compareOp op) r) (ha : PE X a ta) (hb : PE X b tb) (hm : behindInMarks op b = false) : PE X (.Compare a [op] [b] pos) (tOp r ta tb) := by
  intro pins s σ H Q I h
  exact wpAny_Compare1 (binT ha hb I h fun v u s2 x y H2 I2 rx ry q => ho pins s2 σ H2 x y v u Q I2 rx ry q) hm
/-- a reading of a value as a test -/
def tTest (t : TE) : TT := fun σ H Q => t σ H fun x H' => ∃ k, x = .bl k ∧ Q k H'
theorem pt_cmpR {op : CmpOp} {r : R2} (ho : OpR X (compareOp op) r) (ha : PE X a ta) (hb : PE X b tb) (hm : behindInMarks op b = false) : PT X (.Compare a [op] [b] pos) (tTest (tOp r ta tb)) := by
  intro pins s σ H Q I h
  refine wpAny_isTrue_Compare1 (thn (ha pins s σ H _ I h) fun v s1 ⟨x, H1, I1, r1, q1⟩ => thn (hb pins s1 σ H1 _ I1 q1) fun u s2 ⟨y, H2, I2, r2, q2⟩ =>
    thn (ho pins s2 σ H2 x y v u _ I2 r1 r2 q2) fun c s3 ⟨z, H3, I3, r3, k, e, q3⟩ => ?_) hm
  subst e
  cases r3
  exact wpAny_truthy_bool ⟨H3, I3, q3⟩
theorem line63 : (sizeLine : Nat) < 2 ^ 63 := by rw [sizeLine_eq]; decide
theorem vals1 {x : V} {us : List Value} (r : Vals [x] us) : ∃ u, us = [u] ∧ RelV x u := by
  cases r with
  | cons r1 r2 => cases r2; exact ⟨_, rfl, r1⟩
theorem vals2 {x y : V} {us : List Value} (r : Vals [x, y] us) : ∃ u w', us = [u, w'] ∧ RelV x u ∧ RelV y w' := by
  cases r with
  | cons r1 r2 =>
    cases r2 with
    | cons r3 r4 => cases r4; exact ⟨_, _, rfl, r1, r3⟩
theorem call_abs : CallR X (.builtin "abs") (fun xs H Q => ∃ i, xs = [.int i] ∧ Q (.int (if i < 0 then -i else i)) H) := by
  intro pins s σ H xs us Q I r h
  obtain ⟨i, rfl, q⟩ := h
  obtain ⟨u, rfl, t, rfl⟩ := vals1 r
  exact call_abs_int fun u tk => ⟨.int (if i < 0 then -i else i), H, I.tok _, ⟨_, rfl⟩, q⟩
theorem call_min2 (hc : X.calm = true) : CallR X (.builtin "min") (fun xs H Q => ∃ i j, xs = [.int i, .int j] ∧ Q (.int (if j < i then j else i)) H) := by
  intro pins s σ H xs us Q I r h
  obtain ⟨i, j, rfl, q⟩ := h
  obtain ⟨u, w', rfl, ⟨t, rfl⟩, ⟨t', rfl⟩⟩ := vals2 r
  refine min_two_ints (I.ok.hd hc) fun h' tk k => ⟨_, H, I.kept k, ?_, q⟩
  by_cases hj : j < i
  · rw [if_pos hj, if_pos hj]; exact ⟨_, rfl⟩
  · rw [if_neg hj, if_neg hj]; exact ⟨_, rfl⟩
theorem call_int1 : CallR X (.type "int") (fun xs H Q => (∃ i, xs = [.int i] ∧ Q (.int i) H) ∨ ∃ k, xs = [.bl k] ∧ Q (.int (if k then 1 else 0)) H) := by
  intro pins s σ H xs us Q I r h
  rcases h with ⟨i, rfl, q⟩ | ⟨k, rfl, q⟩
  · obtain ⟨u, rfl, t, rfl⟩ := vals1 r
    exact call_int_int ⟨.int i, H, I, ⟨_, rfl⟩, q⟩
  · obtain ⟨u, rfl, r1⟩ := vals1 r
    cases r1
    exact call_int_bool ⟨.int (if k then 1 else 0), H, I.tok _, ⟨_, rfl⟩, q⟩
end
end L2

namespace L2
open PySem PySem.Spec PyProof.Rows

structure ObjM (h : Heap) (x dx C : Addr) (mA : Str → Option Value) : Prop where
  obj : h.get? x = some (PySem.W.instObj C dx)
  ns : h.Ns1 dx mA
  ne : dx ≠ x

theorem lookIn_ns {h : Heap} {dx : Addr} {mA : Str → Option Value} (n : h.Ns1 dx mA) : ∃ od, h.get? dx = some od ∧ ∀ name, PySem.W.lookIn name od = some (mA name) := by
  obtain ⟨o, es, ep, ho, hd, hk, _, hm⟩ := n
  refine ⟨o, ho, fun name => ?_⟩
  have e := hm name
  unfold nsFind findBy at e
  rw [← Array.find?_toList] at e
  unfold PySem.W.lookIn
  rw [hd]
  dsimp only
  split
  · rename_i y q
    rw [q] at e
    exact congrArg some e
  · rename_i q
    rw [q] at e
    have a : es.toList.any (·.refKey) = false := by
      rw [List.any_eq_false]
      intro y hy
      obtain ⟨z, t, hkey⟩ := hk y (Array.mem_toList_iff.mp hy)
      simp [DictEntry.refKey, hkey]
    have a' : ¬ es.toList.any (·.refKey) = true := by rw [a]; exact Bool.false_ne_true
    rw [if_neg a']
    exact congrArg some e

theorem ObjM.look {h : Heap} {x dx C : Addr} {mA : Str → Option Value} (I : ObjM h x dx C mA) : ∃ od, PySem.W.InstAt h x (PySem.W.instObj C dx) C (some od) ∧ ∀ name, PySem.W.lookIn name od = some (mA name) :=
  let ⟨od, ho, hl⟩ := lookIn_ns I.ns
  ⟨od, ⟨I.obj, rfl, rfl, ho⟩, hl⟩

section
variable {prog : Program} {w : World} {A : Around} {E : Value → Shared → Prop} {s : Shared} {K : PySem.W.Frag} {x dx C f : Addr} {mA : Str → Option Value} {name : Str} {v : Value}

theorem get_map {expr : Bool} {Q : Value → Shared → Prop} (X : K.In s.heap) (I : ObjM s.heap x dx C mA) (hg : PySem.W.plainGet K C name = true) (hh : PySem.W.hasDictIn K C = true)
    (ha : PySem.W.findIn K (.ref C) name = some none) (hv : mA name = some v) (hv' : PySem.W.handedIn v = true) (h : Q v { s with toks := s.toks + 1 }) :
    wpAny (model prog w) A (getAttr (.ref x) name expr) Q E s := by
  obtain ⟨od, J, hl⟩ := I.look
  exact PySem.W.get_value X J (PySem.W.plainGet_of hg).1 (PySem.W.findObj_own hh ha rfl (by rw [hl, hv])) hv' h

theorem get_meth {pl : Sem Bool} {Q : Value × List Value → Shared → Prop} (X : K.In s.heap) (I : ObjM s.heap x dx C mA) (hg : PySem.W.plainGet K C name = true)
    (hf : PySem.W.findIn K (.ref C) name = some (some (.ref f))) (ht : PySem.W.isFn K (.ref f) = true) (hv : mA name = none) (h : Q (.ref f, [.ref x]) s) :
    wpAny (model prog w) A (getMethod (.ref x) name pl) Q E s := by
  obtain ⟨od, J, hl⟩ := I.look
  exact PySem.W.method_fn X J (PySem.W.plainGet_of hg).1 (PySem.W.plainGet_of hg).2 hf (beq_iff_eq.mp ht) (by show (PySem.W.lookIn name od).map (·.isSome) = some false; rw [hl, hv]; rfl) h

theorem set_map {ns : List Str} {Q : Unit → Shared → Prop} (X : K.In s.heap) (I : ObjM s.heap x dx C mA)
    (hs : PySem.W.findIn K (.ref C) "__setattr__" = some (some (.builtin "object.__setattr__"))) (hp : PySem.W.plainOver K C = true) (ht : PySem.W.takerIn K C name = some none) (hh : PySem.W.hasDictIn K C = true)
    (hw : PySem.Within mA ns) (hsz : ns.length ≤ sizeLine)
    (h : ∀ h', ObjM h' x dx C (fun y => if y = name then some v else mA y) → Heap.SameBut dx s.heap h' → Q () { s with heap := h', toks := s.toks + 2 }) :
    wpAny (model prog w) A (setAttr (.ref x) name v) Q E s := by
  obtain ⟨od, J, hl⟩ := I.look
  refine PySem.W.set_plain X J hs (PySem.W.osa_open (s := { s with toks := s.toks + 1 }) (r := none) X J hp ht fun b => ?_)
  obtain ⟨cd, hc, hd'⟩ := PySem.W.any_some hh
  have hx : s.heap.get? x = some ⟨.ref C, some dx, .plain, #[]⟩ := I.obj
  refine wpAny_bind (wpAny_pure (wpAny_bind (wpAny_bind (wpAny_loadPart hx (wpAny_bind (PySem.W.Looks.here (s := { s with toks := s.toks + 1 }) (PySem.W.looks_clsIn X hc) ?_))))))
  rw [hd']
  refine wpAny_pure (a := some dx) (wpAny_bind (wpAny_pure (wpAny_bind ?_)))
  refine wpAny_nsSet1 (s := { s with toks := s.toks + 1 }) I.ns fun h' hn2 hs2 => ?_
  obtain ⟨oD, esD, epD, hoD, hdD, hcD⟩ := hn2.count (PySem.Within.cons name v hw)
  refine wpAny_bind (wpAny_lookBehind hoD (by rw [hdD]; exact pastItsLine_dict (Nat.le_trans hcD (by rw [List.length_cons]; omega))) ?_)
  exact wpAny_pure (h _ ⟨(hs2.2 _ (Ne.symm I.ne)).trans I.obj, hn2, I.ne⟩ hs2)

/-- C(..): the dict at the heap's end, the instance behind it; then its __init__ -/
theorem make_map {R : Result → Shared → Prop} {vs : List Value} {kw : List (Str × Value)} (X : K.In s.heap) (hm : PySem.W.makesIn K C = true)
    (hi : PySem.W.findIn K (.ref C) "__init__" = some (some (.ref f))) (hf : PySem.W.typeIn K (.ref f) = some (.type "function"))
    (h : codeAny (model prog w) (A.under (.builtin "type.__call__" ⟨.ref C :: vs, kw⟩)) (.call (.ref f) ⟨.ref (s.heap.objs.size + 1) :: vs, kw⟩) (PySem.W.InitBack (s.heap.objs.size + 1) R)
      { s with heap := (s.heap.push PySem.W.emptyDict).push (PySem.W.instObj C s.heap.objs.size) }) :
    codeAny (model prog w) A (.call (.ref C) ⟨vs, kw⟩) R s := by
  obtain ⟨hh, g, d, t, os⟩ := s
  exact PySem.W.make_core (PySem.W.makes_of X hm) (PySem.W.looks_findIn X hi) (fun self => PySem.W.bind_fn X self hf) (.inl rfl) h
end

def putF (f : Str) (v : V) : List (Str × V) → List (Str × V)
  | [] => [(f, v)]
  | (g, x) :: r => if g = f then (g, v) :: r else (g, x) :: putF f v r
theorem lookup_putF (f g : Str) (v : V) : ∀ fs : List (Str × V), (putF f v fs).lookup g = if g = f then some v else fs.lookup g
  | [] => by
    show List.lookup g [(f, v)] = _
    by_cases h : g = f
    · have hb : (g == f) = true := beq_iff_eq.mpr h
      simp only [List.lookup, hb, if_pos h]
    · have hb : (g == f) = false := beq_eq_false_iff_ne.mpr h
      simp only [List.lookup, hb, if_neg h]
  | (k, x) :: r => by
    have ih := lookup_putF f g v r
    rw [show putF f v ((k, x) :: r) = (if k = f then (k, v) :: r else (k, x) :: putF f v r) from rfl]
    by_cases hk : k = f
    · rw [if_pos hk]
      by_cases h : g = k
      · have hb : (g == k) = true := beq_iff_eq.mpr h
        simp only [List.lookup, hb, if_pos (h.trans hk)]
      · have hb : (g == k) = false := beq_eq_false_iff_ne.mpr h
        simp only [List.lookup, hb, if_neg (fun e : g = f => h (e.trans hk.symm))]
    · rw [if_neg hk]
      by_cases h : g = k
      · have hb : (g == k) = true := beq_iff_eq.mpr h
        simp only [List.lookup, hb, if_neg (fun e : g = f => hk (h.symm.trans e))]
      · have hb : (g == k) = false := beq_eq_false_iff_ne.mpr h
        simp only [List.lookup, hb]
        exact ih
theorem keys_putF (f : Str) (v : V) : ∀ fs : List (Str × V), f ∈ (putF f v fs).map (·.1) ∧ ∀ g, g ∈ fs.map (·.1) → g ∈ (putF f v fs).map (·.1)
  | [] => ⟨by simp [putF], fun g h => by simp at h⟩
  | (k, x) :: r => by
    obtain ⟨i1, i2⟩ := keys_putF f v r
    rw [show putF f v ((k, x) :: r) = (if k = f then (k, v) :: r else (k, x) :: putF f v r) from rfl]
    by_cases hk : k = f
    · rw [if_pos hk]
      subst hk
      exact ⟨by simp, fun g h => by simpa using h⟩
    · rw [if_neg hk]
      refine ⟨?_, fun g h => ?_⟩
      · rw [List.map_cons]
        exact List.mem_cons_of_mem _ i1
      · rw [List.map_cons] at h ⊢
        rcases List.mem_cons.mp h with e | e
        · exact List.mem_cons.mpr (.inl e)
        · exact List.mem_cons_of_mem _ (i2 g e)
theorem length_putF (f : Str) (v : V) : ∀ fs : List (Str × V), (putF f v fs).length ≤ fs.length + 1
  | [] => by simp [putF]
  | (k, x) :: r => by
    have ih := length_putF f v r
    rw [show putF f v ((k, x) :: r) = (if k = f then (k, v) :: r else (k, x) :: putF f v r) from rfl]
    by_cases hk : k = f
    · rw [if_pos hk, List.length_cons, List.length_cons]; omega
    · rw [if_neg hk, List.length_cons, List.length_cons]; omega

theorem RelO.some_of {v : V} {o : Option Value} (r : RelO (some v) o) : ∃ u, o = some u ∧ RelV v u := by
  cases o with
  | none => exact (show False from r).elim
  | some u => exact ⟨u, rfl, r⟩
theorem RelO.none_of {o : Option Value} (r : RelO none o) : o = none := by
  cases o with
  | none => rfl
  | some u => exact (show False from r).elim
theorem handed_of {v : V} {u : Value} (r : RelV v u) : PySem.W.handedIn u = true := by
  cases v with
  | non => cases (show u = Value.none from r); rfl
  | bl b => cases (show u = Value.bool b from r); rfl
  | int i => obtain ⟨t, e⟩ := (show ∃ t, u = Value.int i t from r); cases e; rfl
  | str x => obtain ⟨t, e⟩ := (show ∃ t, u = Value.str x t from r); cases e; rfl
  | byt b => obtain ⟨t, e⟩ := (show ∃ t, u = Value.bytes b t from r); cases e; rfl
  | flt b => obtain ⟨t, e⟩ := (show ∃ t, u = Value.float b t from r); cases e; rfl
  | ref a => cases (show u = Value.ref a from r); rfl
  | ty n => cases (show u = Value.type n from r); rfl

section
variable {P : Program} {w : World} {H H' : Hp} {h h' : Heap} {a C dx : Addr} {fs fs' : List (Str × V)}
theorem ins_get (hok : HOk P w H h) (e : H a = some (.ins C dx fs)) : ∃ mA, ObjM h a dx C mA ∧ (∀ f, RelO (fs.lookup f) (mA f)) ∧ PySem.Within mA (fs.map (·.1)) ∧ fs.length ≤ 1000 ∧ H dx = some (.own a) := by
  obtain ⟨d, z, ne, ob, mA, n, r, q⟩ := (show ObjOk P w H h a (.ins C dx fs) from hok a _ e)
  exact ⟨mA, ⟨ob, n, ne⟩, r, q, z, d⟩
end

structure Cls (K : PySem.W.Frag) (C : Addr) : Prop where
  pg : PySem.W.plainGet K C Str.empty = true
  hd : PySem.W.hasDictIn K C = true
  po : PySem.W.plainOver K C = true
  sa : PySem.W.findIn K (.ref C) "__setattr__" = some (some (.builtin "object.__setattr__"))
theorem Cls.get {K : PySem.W.Frag} {C : Addr} (c : Cls K C) (f : Str) : PySem.W.plainGet K C f = true := c.pg
/-- no class of it has the name -/
def NoAttr (K : PySem.W.Frag) (C : Addr) (f : Str) : Prop := PySem.W.findIn K (.ref C) f = some none
theorem NoAttr.taker {K : PySem.W.Frag} {C : Addr} {f : Str} (n : NoAttr K C f) : PySem.W.takerIn K C f = some none := by
  unfold PySem.W.takerIn
  rw [show PySem.W.findIn K (.ref C) f = some none from n]
  rfl
/-- a method: a plain def of the class or of one above it -/
structure Meth (K : PySem.W.Frag) (C : Addr) (m : Str) (f : Addr) : Prop where
  at_ : PySem.W.findIn K (.ref C) m = some (some (.ref f))
  fn : PySem.W.isFn K (.ref f) = true
  kp : PySem.W.keepIn K (.ref f) = true

section
variable {X : Cx} {pins : List (Addr × Obj)} {σ : St} {H : Hp} {s : Shared} {a C dx : Addr} {fs : List (Str × V)} {f : Str} {v : V} {A : Around} {E : Value → Shared → Prop}

theorem getattr_ok {b : Bool} {Q : Value → Shared → Prop} (I : Inv X pins σ H s) (e : H a = some (.ins C dx fs)) (c : Cls X.K C) (n : NoAttr X.K C f) (l : fs.lookup f = some v)
    (h : ∀ u s', Inv X pins σ H s' → RelV v u → Q u s') : wpAny (model X.prog X.w) A (getAttr (.ref a) f b) Q E s := by
  obtain ⟨mA, O, r, _, _, _⟩ := ins_get I.hok e
  obtain ⟨u, hu, ru⟩ := RelO.some_of (v := v) (o := mA f) (by rw [← l]; exact r f)
  exact get_map I.kIn O (c.get f) c.hd n hu (handed_of ru) (h u _ (I.tok _) ru)

theorem getmeth_ok {m : Str} {g : Addr} {pl : Sem Bool} {Q : Value × List Value → Shared → Prop} (I : Inv X pins σ H s) (e : H a = some (.ins C dx fs)) (c : Cls X.K C) (k : Meth X.K C m g) (l : fs.lookup m = none)
    (h : Q (.ref g, [.ref a]) s) : wpAny (model X.prog X.w) A (getMethod (.ref a) m pl) Q E s := by
  obtain ⟨mA, O, r, _, _, _⟩ := ins_get I.hok e
  have hn : mA m = none := RelO.none_of (by rw [← l]; exact r m)
  exact get_meth I.kIn O (c.get m) k.at_ k.fn hn h

theorem setattr_ok {y : V} {u : Value} {Q : Unit → Shared → Prop} (I : Inv X pins σ H s) (e : H a = some (.ins C dx fs)) (c : Cls X.K C) (n : NoAttr X.K C f) (hl : fs.length < 1000) (ry : RelV y u)
    (h : ∀ s', Inv X pins σ (upd H a (.ins C dx (putF f y fs))) s' → Q () s') : wpAny (model X.prog X.w) A (setAttr (.ref a) f u) Q E s := by
  obtain ⟨mA, O, r, wi, _, ho⟩ := ins_get I.hok e
  have hz : (fs.map (·.1)).length ≤ sizeLine := by rw [List.length_map, sizeLine_eq]; omega
  refine set_map I.kIn O c.sa c.po n.taker c.hd wi hz fun h' O' sb => h _ ?_
  have hd : ∃ o, h'.get? dx = some o := let ⟨o, _, _, e', _⟩ := O'.ns; ⟨o, e'⟩
  refine I.write (x := a) (e := dx) (by rw [e]; exact True.intro) (.inr ho) (fun b q hb z => (sb.2 b hb).trans z) hd ?_
  refine ⟨by rw [upd_ne O.ne]; exact ho, ?_, O.ne, O'.obj, _, O'.ns, fun g => ?_, fun g hg => ?_⟩
  · have := length_putF f y fs; omega
  · show RelO ((putF f y fs).lookup g) (if g = f then some u else mA g)
    rw [lookup_putF]
    by_cases q : g = f
    · rw [if_pos q, if_pos q]; exact ry
    · rw [if_neg q, if_neg q]; exact r g
  · by_cases q : g = f
    · rw [q]; exact (keys_putF f y fs).1
    · refine (keys_putF f y fs).2 g (wi g fun z => hg ?_)
      show (if g = f then some u else mA g) = none
      rw [if_neg q]; exact z

/-- a new instance, tracked, without attributes -/
theorem Inv.made (I : Inv X pins σ H s) : Inv X pins σ (upd (upd H s.heap.objs.size (.own (s.heap.objs.size + 1))) (s.heap.objs.size + 1) (.ins C s.heap.objs.size []))
    { s with heap := (s.heap.push PySem.W.emptyDict).push (PySem.W.instObj C s.heap.objs.size) } := by
  have e1 : (s.heap.push PySem.W.emptyDict).get? s.heap.objs.size = some PySem.W.emptyDict := Heap.get?_push_size s.heap rfl
  have e2 : ((s.heap.push PySem.W.emptyDict).push (PySem.W.instObj C s.heap.objs.size)).get? (s.heap.objs.size + 1) = some (PySem.W.instObj C s.heap.objs.size) := by
    have := Heap.get?_push_size (s.heap.push PySem.W.emptyDict) (o := PySem.W.instObj C s.heap.objs.size) rfl
    rwa [Heap.size_push] at this
  have e3 : (s.heap.push PySem.W.emptyDict).Ns s.heap.objs.size (fun _ => none) := ⟨PySem.W.emptyDict, #[], _, e1, rfl, (fun e he => absurd he (by simp)), fun _ => rfl⟩
  have I1 := I.laid (a := s.heap.objs.size) (o := .own (s.heap.objs.size + 1)) (h' := s.heap.push PySem.W.emptyDict) (t' := s.toks) (fun b u q => Heap.get?_push_of_some _ q) (Nat.le_refl _) ⟨_, e1⟩
  refine I1.laid (a := s.heap.objs.size + 1) (o := .ins C s.heap.objs.size []) (t' := s.toks) (fun b u q => Heap.get?_push_of_some _ q) (Nat.le_of_eq (Heap.size_push _ _)) ?_
  have ne : s.heap.objs.size ≠ s.heap.objs.size + 1 := Nat.ne_of_lt (Nat.lt_succ_self _)
  refine ⟨by rw [upd_ne ne, upd_same], Nat.zero_le _, ne, e2, fun _ => none, (Heap.Ns1.of_empty e3).at fun o q => Heap.get?_push_of_some _ q, fun _ => True.intro, fun y hy => absurd rfl hy⟩

/-- e.f where nothing but the object is asked: through attributeBase (super) and the last hold -/
theorem attr_of {prog : Program} {w : World} {env : Env} {e : Expr} {f : Str} {pos : Pos} {s : Shared} {Q : Value → Shared → Prop} (hb : attributeBase e f env (eval e env) = eval e env)
    (h : wpAny (model prog w) A (eval e env) (fun o s₁ => wpAny (model prog w) A (getAttr o f true) Q E s₁) E s) : wpAny (model prog w) A (eval (.Attribute e f pos) env) Q E s :=
  Attribute_any_ h (by rw [arm_eval_Attribute, hb])
end

/-- e.f, an attribute of the instance -/
def tFld (K : PySem.W.Frag) (ta : TE) (f : Str) : TE := fun σ H Q => ta σ H fun x H1 => ∃ a C dx fs v, x = .ref a ∧ H1 a = some (.ins C dx fs) ∧ Cls K C ∧ NoAttr K C f ∧ fs.lookup f = some v ∧ Q v H1
/-- e.f = value -/
def sFld (K : PySem.W.Frag) (ta tv : TE) (f : Str) : TS := fun D σ H => tv σ H fun y H1 => ta σ H1 fun x H2 => ∃ a C dx fs, x = .ref a ∧ H2 a = some (.ins C dx fs) ∧ Cls K C ∧ NoAttr K C f ∧ fs.length < 1000 ∧
  D.nx σ (upd H2 a (.ins C dx (putF f y fs)))
/-- an augmented operator on two values -/
def InOp (X : Cx) (op : Operator) (rd : V → V → Hp → VK → Prop) : Prop :=
  ∀ (pins : List (Addr × Obj)) (s : Shared) (σ : St) (H : Hp) (x y : V) (u v : Value) (Q : VK), Inv X pins σ H s → RelV x u → RelV y v → rd x y H Q → wpAny (model X.prog X.w) X.A (inplaceOp op u v) (EP X pins σ Q) X.xe s
/-- e.f op= value -/
def sFldAug (K : PySem.W.Frag) (ta tv : TE) (rd : V → V → Hp → VK → Prop) (f : Str) : TS := fun D σ H => ta σ H fun x H1 => ∃ a C dx fs v, x = .ref a ∧ H1 a = some (.ins C dx fs) ∧ Cls K C ∧ NoAttr K C f ∧ fs.lookup f = some v ∧
  tv σ H1 fun y H2 => rd v y H2 fun z H3 => ∃ dx' fs', H3 a = some (.ins C dx' fs') ∧ fs'.length < 1000 ∧ D.nx σ (upd H3 a (.ins C dx' (putF f z fs')))

section
variable {X : Cx} {o e value : Expr} {f : Str} {pos pos' tpos : Pos} {ta tv : TE}
theorem pe_fld (he : PE X e ta) (hb : attributeBase e f X.env (eval e X.env) = eval e X.env) : PE X (.Attribute e f pos) (tFld X.K ta f) := by
  intro pins s σ H Q I h
  refine attr_of hb (thn (he pins s σ H _ I h) fun u s1 ⟨x, H1, I1, rx, a, C, dx, fs, v, ex, ea, c, n, l, q⟩ => ?_)
  subst ex
  obtain rfl : u = Value.ref a := rx
  exact getattr_ok I1 ea c n l fun u' s2 I2 ru => ⟨v, H1, I2, ru, q⟩
theorem ps_fld (ha : PE X o ta) (hv : PE X value tv) (hs : swapsWith value (some (.Attribute o f pos')) pos.line X.env = pure false) : PS X (.Assign [.Attribute o f pos'] value pos) (sFld X.K ta tv f) := by
  intro pins s σ H D I h
  refine plainObj_wpAny_Assign_Attribute (thn (hv pins s σ H _ I h) fun u s1 ⟨y, H1, I1, ry, q⟩ => thn (ha pins s1 σ H1 _ I1 q) fun ov s2 ⟨x, H2, I2, rx, a, C, dx, fs, ex, ea, c, n, l, q2⟩ => ?_) hs
  subst ex
  obtain rfl : ov = Value.ref a := rx
  exact setattr_ok I2 ea c n l ry fun s3 I3 => ⟨σ, _, I3, q2⟩
theorem ps_fldaug {op : Operator} {rd : V → V → Hp → VK → Prop} (ha : PE X o ta) (hv : PE X value tv) (hop : InOp X op rd) : PS X (.AugAssign (.Attribute o f tpos) op value pos) (sFldAug X.K ta tv rd f) := by
  intro pins s σ H D I h
  refine wpAny_AugAssign_AttributeAny (thn (ha pins s σ H _ I h) fun ov s1 ⟨x, H1, I1, rx, a, C, dx, fs, v, ex, ea, c, n, l, q⟩ => ?_)
  subst ex
  obtain rfl : ov = Value.ref a := rx
  refine getattr_ok I1 ea c n l fun u s2 I2 ru => thn (hv pins s2 σ H1 _ I2 q) fun w3 s3 ⟨y, H2, I3, ry, q3⟩ => thn (hop pins s3 σ H2 v y u w3 _ I3 ru ry q3) fun w4 s4 ⟨z, H3, I4, rz, dx', fs', ea', l', q4⟩ => ?_
  exact setattr_ok I4 ea' c n l' rz fun s5 I5 => ⟨σ, _, I5, q4⟩
def rAdd : V → V → Hp → VK → Prop := fun x y H Q => ∃ i j, x = .int i ∧ y = .int j ∧ Q (.int (i + j)) H
def rSub : V → V → Hp → VK → Prop := fun x y H Q => ∃ i j, x = .int i ∧ y = .int j ∧ Q (.int (i - j)) H
theorem in_add : InOp X .Add rAdd := by
  rintro pins s σ H x y u v Q I rx ry ⟨i, j, rfl, rfl, q⟩
  obtain ⟨t, rfl⟩ := (show ∃ t, u = Value.int i t from rx)
  obtain ⟨t', rfl⟩ := (show ∃ t', v = Value.int j t' from ry)
  exact PyProof.Rows.iadd_int ⟨.int (i + j), H, I.tok _, ⟨_, rfl⟩, q⟩
theorem in_sub : InOp X .Sub rSub := by
  rintro pins s σ H x y u v Q I rx ry ⟨i, j, rfl, rfl, q⟩
  obtain ⟨t, rfl⟩ := (show ∃ t, u = Value.int i t from rx)
  obtain ⟨t', rfl⟩ := (show ∃ t', v = Value.int j t' from ry)
  exact PyProof.Rows.isub_int ⟨.int (i - j), H, I.tok _, ⟨_, rfl⟩, q⟩

end

section
variable {X : Cx} {pins : List (Addr × Obj)} {σ : St} {H : Hp} {s : Shared} {A : Around} {E : Value → Shared → Prop} {Q : Value → Shared → Prop} {c : Value} {b : Bool}
/-- the type of a value, as the fragment's deciders take it; for an instance its class -/
inductive TyOf (K : PySem.W.Frag) (H : Hp) : V → Value → Prop where
  | non : TyOf K H .non (.type "NoneType")
  | bl (x : Bool) : TyOf K H (.bl x) (.type "bool")
  | int (i : Int) : TyOf K H (.int i) (.type "int")
  | str (x : Str) : TyOf K H (.str x) (.type "str")
  | flt (x : UInt64) : TyOf K H (.flt x) (.type "float")
  | lst {a : Addr} {xs : List V} (e : H a = some (.lst xs)) : TyOf K H (.ref a) (.type "list")
  | frz {a : Addr} {o : Obj} {xs : List V} (e : H a = some (.frz o (.lst xs))) : TyOf K H (.ref a) (.type "list")
  | tup {a : Addr} {xs : List V} (e : H a = some (.tup xs)) : TyOf K H (.ref a) (.type "tuple")
  | dK {a : Addr} {kvs : List (Key × V)} (e : H a = some (.dK kvs)) : TyOf K H (.ref a) (.type "dict")
  | dT {a : Addr} {kvs : List (List Key × V)} (e : H a = some (.dT kvs)) : TyOf K H (.ref a) (.type "dict")
  | ins {a C dx : Addr} {fs : List (Str × V)} (e : H a = some (.ins C dx fs)) (cl : Cls K C) (ha : PySem.W.findIn K (.ref C) "__class__" = some (some (.builtin "object.__class__")))
      (hn : PySem.W.specialIn K (.builtin "object.__class__") "__get__" = some (some (.builtin "getset_descriptor.__get__"))) (htk : PySem.W.takesIn K (.builtin "object.__class__") = some true)
      (hm : PySem.W.mroIn K C (.type "object") = some true) : TyOf K H (.ref a) (.ref C)
/-- isinstance(x, c) for one class c, a built-in or an own one: kitOne's answer -/
theorem isinst_ok {x : V} {u t : Value} (I : Inv X pins σ H s) (rx : RelV x u) (ty : TyOf X.K H x t) (e : PySem.W.kitOne X.K t c = some b) (h : ∀ tk, Q (.bool b) { s with toks := tk }) :
    wpAny (model X.prog X.w) A (call (.builtin "isinstance") [u, c]) Q E s := by
  cases ty with
  | non => cases (show u = Value.none from rx); exact PySem.W.kia_one PySem.W.kitx_none I.kIn True.intro e (fun z => nomatch z) h
  | bl y => cases (show u = Value.bool y from rx); exact PySem.W.kia_one PySem.W.kitx_bool I.kIn True.intro e (fun z => nomatch z) h
  | int i => obtain ⟨t, q⟩ := (show ∃ t, u = Value.int i t from rx); cases q; exact PySem.W.kia_one PySem.W.kitx_int I.kIn True.intro e (fun z => nomatch z) h
  | str y => obtain ⟨t, q⟩ := (show ∃ t, u = Value.str y t from rx); cases q; exact PySem.W.kia_one PySem.W.kitx_str I.kIn True.intro e (fun z => nomatch z) h
  | flt y => obtain ⟨t, q⟩ := (show ∃ t, u = Value.float y t from rx); cases q; exact PySem.W.kia_one PySem.W.kitx_float I.kIn True.intro e (fun z => nomatch z) h
  | @lst a xs ea =>
    cases (show u = Value.ref a from rx)
    obtain ⟨_, _, n, _, h1⟩ := (show ObjOk X.prog X.w H s.heap a (.lst xs) from I.hok a _ ea)
    exact PySem.W.kia_one PySem.W.kitx_list I.kIn ⟨_, h1, rfl⟩ e (fun z => nomatch z) h
  | @frz a ob xs ea =>
    cases (show u = Value.ref a from rx)
    obtain ⟨_, _, _, n, _, h1⟩ := (show ObjOk X.prog X.w H s.heap a (.frz ob (.lst xs)) from I.hok a _ ea)
    exact PySem.W.kia_one PySem.W.kitx_list I.kIn ⟨_, h1, rfl⟩ e (fun z => nomatch z) h
  | @tup a xs ea =>
    cases (show u = Value.ref a from rx)
    obtain ⟨_, _, _, p⟩ := (show ObjOk X.prog X.w H s.heap a (.tup xs) from I.hok a _ ea)
    obtain ⟨o, h1, h2, _⟩ := p
    exact PySem.W.kia_one PySem.W.kitx_tuple I.kIn ⟨o, h1, h2⟩ e (fun z => nomatch z) h
  | @dK a kvs ea =>
    cases (show u = Value.ref a from rx)
    obtain ⟨_, _, vs, _, p⟩ := (show ObjOk X.prog X.w H s.heap a (.dK kvs) from I.hok a _ ea)
    obtain ⟨o, es, ep, h1, h2, _⟩ := p
    exact PySem.W.kia_one PySem.W.kitx_dict I.kIn ⟨o, h1, h2.1⟩ e (fun z => nomatch z) h
  | @dT a kvs ea =>
    cases (show u = Value.ref a from rx)
    obtain ⟨_, _, xs, _, o, es, ep, h1, h2, _⟩ := (show ObjOk X.prog X.w H s.heap a (.dT kvs) from I.hok a _ ea)
    exact PySem.W.kia_one PySem.W.kitx_dict I.kIn ⟨o, h1, h2.1⟩ e (fun z => nomatch z) h
  | @ins a C dx fs ea cl ha hn htk hm =>
    cases (show u = Value.ref a from rx)
    obtain ⟨mA, O, _⟩ := ins_get I.hok ea
    obtain ⟨od, J, _⟩ := O.look
    exact PySem.W.kia_one (PySem.W.kitx_own (cl.get _) cl.hd ha hn htk hm) I.kIn J e (fun z => nomatch z) h
end
end L2

namespace L2
open PySem PySem.Spec PyProof.Rows

structure Room (k : Nat) (A : Around) : Prop where
  hd : A.handled = none
  dp : A.depth + 3 * k + 5 < recursionLimit
  un : A.units + 16 * k + 200 < cLine
theorem Room.mono {j k : Nat} {A : Around} (r : Room k A) (h : j ≤ k) : Room j A := ⟨r.hd, by have := r.dp; omega, by have := r.un; omega⟩
theorem Room.deeper {k : Nat} {A : Around} (r : Room (k + 1) A) (env : Env) : Room k (A.deeper env) :=
  ⟨r.hd, by have := r.dp; show A.depth + 1 + 3 * k + 5 < _; omega, by have := r.un; show A.units + 3 + 16 * k + 200 < _; omega⟩
theorem make_depth {A : Around} {C : Addr} {us : List Value} {kw : List (Str × Value)} : (A.under (.builtin "type.__call__" ⟨.ref C :: us, kw⟩)).depth = A.depth + 1 := by
  first | rfl | simp [Around.under, Code.weight, Code.isCreation, Code.isGuard, Code.isCaller, Code.frames, Code.isFrame, guardIds]
theorem make_units {A : Around} {C : Addr} {us : List Value} {kw : List (Str × Value)} : (A.under (.builtin "type.__call__" ⟨.ref C :: us, kw⟩)).units = A.units + 1 := by
  first | rfl | simp [Around.under, Code.cUnits, Code.frames, Code.isFrame]
theorem Room.make {k : Nat} {A : Around} (r : Room (k + 1) A) (C : Addr) (us : List Value) (kw : List (Str × Value)) : Room k (A.under (.builtin "type.__call__" ⟨.ref C :: us, kw⟩)) :=
  ⟨r.hd, by have := r.dp; rw [make_depth]; omega, by have := r.un; rw [make_units]; omega⟩
theorem Room.depth {k : Nat} {A : Around} (r : Room k A) : A.depth < recursionLimit := by have := r.dp; omega
theorem Room.units {k : Nat} {A : Around} (r : Room k A) : A.units + 64 < cLine := by have := r.un; omega
theorem Room.units0 {k : Nat} {A : Around} (r : Room k A) : A.units < cLine := by have := r.un; omega

def tNil : TA := fun _ H Q => Q [] H
def tCons (ta : TE) (tr : TA) : TA := fun σ H Q => ta σ H fun x H1 => tr σ H1 fun xs H2 => Q (x :: xs) H2
section
variable {X : Cx} {e : Expr} {es : List Expr} {te : TE} {t : TA} {pos : Pos}
theorem pa_nil : PA X [] tNil := fun _ _ _ _ H Q I h => Calls.spliced_nil ⟨[], H, I, .nil, h⟩
theorem pa_cons (ha : PE X e te) (hr : PA X es t) (hs : starEach (e :: es) X.env = (false, eval e X.env) :: starEach es X.env := by rfl) : PA X (e :: es) (tCons te t) := by
  intro pos pins s σ H Q I h
  rw [hs]
  show wpAny _ _ (spliced ((false, eval e X.env) :: backTo pos (starEach es X.env))) _ _ s
  refine Calls.spliced_cons (thn (ha pins s σ H _ I h) fun u s1 ⟨x, H1, I1, r1, q1⟩ => ?_)
  exact thn (hr pos pins s1 σ H1 _ I1 q1) fun us s2 ⟨xs, H2, I2, r2, q2⟩ => ⟨x :: xs, H2, I2, .cons r1 r2, q2⟩

/-- a tuple, a list of written items -/
def tTup (t : TA) : TE := fun σ H Q => t σ H fun xs H1 => xs.length ≤ sizeLine ∧ ∀ p, H1 p = none → Q (.ref p) (upd H1 p (.tup xs))
def tLst (t : TA) : TE := fun σ H Q => t σ H fun xs H1 => xs.length ≤ sizeLine ∧ ∀ p, H1 p = none → Q (.ref p) (upd H1 p (.lst xs))
theorem pe_tup {x1} (h : PA X es t) : PE X (.Tuple es x1 pos) (tTup t) := by
  intro pins s σ H Q I hq
  refine wpAny_Tuple_spliced (thn (h pos pins s σ H _ I hq) fun us s1 ⟨xs, H1, I1, r, z, q⟩ => ⟨by rw [← r.length]; exact z, ?_⟩)
  have hf : H1 s1.heap.objs.size = none := I1.hok.fresh (Nat.le_refl _)
  refine ⟨.ref s1.heap.objs.size, upd H1 s1.heap.objs.size (.tup xs), I1.laid (t' := s1.toks) (fun b u e => Heap.get?_push_of_some _ e) (Nat.le_refl _) ?_, rfl, q _ hf⟩
  exact ⟨z, us, r, ⟨_, Heap.get?_push_size _ rfl, rfl, _, rfl⟩⟩
theorem pe_lst (h : PA X es t) : PE X (.List es pos) (tLst t) := by
  intro pins s σ H Q I hq
  refine wpAny_List_spliced (thn (h pos pins s σ H _ I hq) fun us s1 ⟨xs, H1, I1, r, z, q⟩ => ⟨by rw [← r.length]; exact z, ?_⟩)
  have hf : H1 s1.heap.objs.size = none := I1.hok.fresh (Nat.le_refl _)
  refine ⟨.ref s1.heap.objs.size, upd H1 s1.heap.objs.size (.lst xs), I1.laid (t' := s1.toks) (fun b u e => Heap.get?_push_of_some _ e) (Nat.le_refl _) ?_, rfl, q _ hf⟩
  exact ⟨z, us, 0, r, Heap.get?_push_size _ rfl⟩
end

/-- a def's promise: the bound arguments in the parameters' order, the heap, the wanted end, the wanted exception -/
abbrev Sp := List V → Hp → VK → XK → Prop
/-- how an exception lies behind a call (file 08 gives it): the callers' frames, abstract heap and state ahead of the call, the wish, the exception, the state -/
abbrev CXT := List Env → Hp → Shared → XK → Value → Shared → Prop

/-- the state at a call -/
structure Env0 (P : Program) (w : World) (K : PySem.W.Frag) (mg : Str → Option Value) (base : Heap) (A : Around) (outer : List Env) (s : Shared) (H : Hp) : Prop where
  frames : A.frames = some outer
  mod : Mod K mg base
  bs : ∀ b o, base.get? b = some o → s.heap.get? b = some o ∧ H b = none
  bsz : base.objs.size ≤ s.heap.objs.size
  funs : s.heap.FunFrames base outer
  frf : ∀ b ∈ frs outer, H b = none
  hok : HOk P w H s.heap
  bare : AllBare s.gens
/-- a call's end -/
def CE (outer : List Env) (P : Program) (w : World) (H : Hp) (s : Shared) (Q : VK) (u : Value) (s' : Shared) : Prop :=
  ∃ v H', s'.os = s.os ∧ AllBare s'.gens ∧ Un (frs outer) [] H H' s.heap s'.heap ∧ HOk P w H' s'.heap ∧ RelV v u ∧ Q v H'
def CR (CX : CXT) (outer : List Env) (P : Program) (w : World) (H : Hp) (s : Shared) (Q : VK) (E : XK) (r : Result) (s' : Shared) : Prop :=
  match r with
  | .ok (.ret u) => CE outer P w H s Q u s'
  | .ok _ => False
  | .error e => CX outer H s E e s'
structure FnOk (P : Program) (w : World) (K : PySem.W.Frag) (mg : Str → Option Value) (base : Heap) (CX : CXT) (k : Nat) (f : Addr) (fd : FuncData) (ps : List Str) (sp : Sp) : Prop where
  len : ∀ vs H Q E, sp vs H Q E → vs.length = ps.length
  run : ∀ (A : Around) (outer : List Env) (s : Shared) (H : Hp) (args : Args) (us : List Value) (vs : List V) (Q : VK) (E : XK), Room k A → Env0 P w K mg base A outer s H → BindsTo s fd args (ps.zip us) → Vals vs us → sp vs H Q E →
    codeAny (model P w) A (.call (.ref f) args) (CR CX outer P w H s Q E) s
theorem Env0.make {P : Program} {w : World} {K : PySem.W.Frag} {mg : Str → Option Value} {base : Heap} {A : Around} {outer : List Env} {s : Shared} {H : Hp} (e : Env0 P w K mg base A outer s H) (C : Addr) (us : List Value) (kw : List (Str × Value)) :
    Env0 P w K mg base (A.under (.builtin "type.__call__" ⟨.ref C :: us, kw⟩)) outer s H := ⟨by first | exact e.frames | (simpa [Around.under, Code.envs, Code.isFrame, pushEnvs] using e.frames), e.mod, e.bs, e.bsz, e.funs, e.frf, e.hok, e.bare⟩
section
variable {X : Cx} {pins : List (Addr × Obj)} {σ : St} {H : Hp} {s s' : Shared}
/-- from a body: what a callee wants -/
theorem Inv.env0 (I : Inv X pins σ H s) : Env0 X.prog X.w X.K X.mg X.base X.A X.stack s H :=
  ⟨I.ok.frames, I.ok.mod, I.bs, Nat.le_trans I.ok.bsz I.sz, I.stack, I.stkFree, I.hok, I.bare⟩
/-- behind a call -/
theorem Inv.after {Q : VK} {u : Value} (I : Inv X pins σ H s) (h : CE X.stack X.prog X.w H s Q u s') : EP X pins σ Q u s' := by
  obtain ⟨v, H', os, bare, un, hok, r, q⟩ := h
  obtain ⟨hh, g, d, t, os'⟩ := s'
  obtain rfl : os' = s.os := os
  exact ⟨v, H', I.call (h' := hh) (g' := g) (d' := d) (t' := t) (ch := []) un hok bare (fun b z => absurd z (by simp)), r, q⟩
end

/-- f(..): the written arguments, then the defaults dvs; E: what is wanted of an exception -/
def tCall (sp : Sp) (dvs : List V) (E : XK) (t : TA) : TE := fun σ H Q => t σ H fun vs H1 => sp (vs ++ dvs) H1 Q E
/-- o.m(..) of an instance of the class at C -/
def tMeth (C : Addr) (m : Str) (sp : Sp) (dvs : List V) (E : XK) (ta : TE) (t : TA) : TE := fun σ H Q => ta σ H fun x H1 => ∃ a dx fs, x = .ref a ∧ H1 a = some (.ins C dx fs) ∧ fs.lookup m = none ∧
  t σ H1 fun vs H2 => sp (x :: (vs ++ dvs)) H2 Q E
/-- C(..): a new instance and its dict, then __init__ -/
def tMake (C : Addr) (sp : Sp) (dvs : List V) (E : XK) (t : TA) : TE := fun σ H Q => t σ H fun vs H1 => ∀ x dx, H1 x = none → H1 dx = none → dx ≠ x →
  sp (.ref x :: (vs ++ dvs)) (upd (upd H1 dx (.own x)) x (.ins C dx [])) (fun v H2 => v = .non ∧ Q (.ref x) H2) E

/-- how the parameters are bound: us the positional arguments, kw the keywords' values by name, ds the defaults that fill up -/
def Binds (K : PySem.W.Frag) (fd : FuncData) (ps : List Str) (ds : List Value) : Prop :=
  ∀ (s : Shared) (us : List Value), K.In s.heap → (us ++ ds).length = ps.length → BindsTo s fd ⟨us, []⟩ (ps.zip (us ++ ds))
/-- every parameter is given -/
theorem Binds.all {K : PySem.W.Frag} {fd : FuncData} {ps : List Str} (h : ∀ us : List Value, us.length = ps.length → bindArgs fd ⟨us, []⟩ = pure (ps.zip us)) : Binds K fd ps [] := fun s us _ hl => by
  rw [List.append_nil] at hl ⊢
  exact .of_eq (h us hl)

/-- an exception of a callee reaches what this body wants of exceptions -/
def Passes (CX : CXT) (X : Cx) (E : XK) : Prop := ∀ (pins : List (Addr × Obj)) (σ : St) (H : Hp) (s : Shared) (e : Value) (s' : Shared), Inv X pins σ H s → CX X.stack H s E e s' → X.xe e s'

section
variable {X : Cx} {CX : CXT} {k : Nat} {f C : Addr} {fd : FuncData} {ps : List Str} {sp : Sp} {dvs : List V} {ds : List Value} {E : XK} {x m : Str} {p pos apos : Pos} {e o : Expr} {es : List Expr} {ta : TE} {t : TA}

/-- the callee runs -/
theorem run_fn {pins : List (Addr × Obj)} {σ : St} {H : Hp} {s : Shared} {Q : VK} {us : List Value} {vs : List V} (F : FnOk X.prog X.w X.K X.mg X.base CX k f fd ps sp) (hr : Room k X.A) (hb : Binds X.K fd ps ds) (hd : Vals dvs ds) (hx : Passes CX X E)
    (I : Inv X pins σ H s) (r : Vals vs us) (h : sp (vs ++ dvs) H Q E) : wpAny (model X.prog X.w) X.A (call (.ref f) us) (EP X pins σ Q) X.xe s := by
  have r2 : Vals (vs ++ dvs) (us ++ ds) := r.append hd
  have hl : (us ++ ds).length = ps.length := by rw [← r2.length]; exact F.len _ _ _ _ h
  refine wpAny_call (codeAny_mono (F.run X.A X.stack s H ⟨us, []⟩ (us ++ ds) (vs ++ dvs) Q E hr I.env0 (hb s us I.kIn hl) r2 h) fun r s' hq => ?_)
  cases r with
  | error e => exact hx pins σ H s e s' I hq
  | ok fl =>
    cases fl with
    | ret u => exact I.after hq
    | next => exact False.elim hq
    | brk => exact False.elim hq
    | cont => exact False.elim hq

theorem pe_call (F : FnOk X.prog X.w X.K X.mg X.base CX k f fd ps sp) (hr : Room k X.A) (hg : Gl X x) (hm : X.mg x = some (.ref f)) (hk : PySem.W.keepIn X.K (.ref f) = true) (hb : Binds X.K fd ps ds) (hd : Vals dvs ds) (hx : Passes CX X E)
    (ha : PA X (e :: es) t) (hdb : (x == ("__debug__" : Str)) = false := by decide) (he : starEach (e :: es) X.env = (false, eval e X.env) :: starEach es X.env := by rfl) (hpl : (backTo pos (starEach es X.env)).any (·.1) = false := by rfl) :
    PE X (.Call (.Name x p) (e :: es) [] pos) (tCall sp dvs E t) := by
  intro pins s σ H Q I h
  refine wpAny_Call_Name_kw (ld_glob I hg hm ?_ hdb)
  refine PySem.W.callWith_K (h₀ := X.base) I.ok.mod.kin hk (thn (ha pos pins s σ H _ I h) fun us s1 ⟨vs, H1, I1, r, q⟩ => ⟨I1.kIn, ?_⟩) he hpl
  exact run_fn F hr hb hd hx I1 r q
/-- o.m(e, ..) -/
theorem pe_meth {pl : Sem Bool} (he : PE X o ta) (c : Cls X.K C) (hm : Meth X.K C m f) (F : FnOk X.prog X.w X.K X.mg X.base CX k f fd ps sp) (hr : Room k X.A) (hb : Binds X.K fd ps ds) (hd : Vals dvs ds) (hx : Passes CX X E) (ha : PA X (e :: es) t)
    (hst : starEach (e :: es) X.env = (false, eval e X.env) :: starEach es X.env := by rfl) (hpl : (backTo pos (starEach es X.env)).any (·.1) = false := by rfl)
    (ht : eval (.Call (.Attribute o m apos) (e :: es) [] pos) X.env = (do
      let ov ← eval o X.env
      standAt apos.atName
      let (f, first) ← holding [ov] (getMethod ov m pl)
      callWith pos f first (backTo pos (starEach (e :: es) X.env)) (backToKw pos (keywordEach [] X.env))) := by rfl) :
    PE X (.Call (.Attribute o m apos) (e :: es) [] pos) (tMeth C m sp dvs E ta t) := by
  intro pins s σ H Q I h
  refine PySem.W.methodCall_KW (pl := pl) (thn (he pins s σ H _ I h) fun u s1 ⟨x, H1, I1, rx, a, dx, fs, ex, ea, l, q⟩ => ?_) ht
  subst ex
  obtain rfl : u = Value.ref a := rx
  refine getmeth_ok I1 ea c hm l ?_
  refine PySem.W.callWith_K (first := [.ref a]) (h₀ := X.base) I.ok.mod.kin hm.kp (thn (ha pos pins s1 σ H1 _ I1 q) fun us s2 ⟨vs, H2, I2, r, q2⟩ => ⟨I2.kIn, ?_⟩) hst hpl
  exact run_fn (us := .ref a :: us) (vs := .ref a :: vs) F hr hb hd hx I2 (.cons rfl r) q2
/-- o.m() -/
theorem pe_meth0 {pl : Sem Bool} (he : PE X o ta) (c : Cls X.K C) (hm : Meth X.K C m f) (F : FnOk X.prog X.w X.K X.mg X.base CX k f fd ps sp) (hr : Room k X.A) (hb : Binds X.K fd ps ds) (hd : Vals dvs ds) (hx : Passes CX X E)
    (ht : eval (.Call (.Attribute o m apos) [] [] pos) X.env = (do
      let ov ← eval o X.env
      standAt apos.atName
      let (f, first) ← holding [ov] (getMethod ov m pl)
      callWith pos f first (backTo pos (starEach [] X.env)) (backToKw pos (keywordEach [] X.env))) := by rfl) :
    PE X (.Call (.Attribute o m apos) [] [] pos) (tMeth C m sp dvs E ta tNil) := by
  intro pins s σ H Q I h
  refine PySem.W.methodCall_KW (pl := pl) (thn (he pins s σ H _ I h) fun u s1 ⟨x, H1, I1, rx, a, dx, fs, ex, ea, l, q⟩ => ?_) ht
  subst ex
  obtain rfl : u = Value.ref a := rx
  refine getmeth_ok I1 ea c hm l ?_
  exact PySem.W.callWith_K0 (first := [.ref a]) I1.kIn hm.kp (run_fn (us := [.ref a]) (vs := [.ref a]) F hr hb hd hx I1 (.cons rfl .nil) q)

/-- what a class must have to be made -/
structure Mk (K : PySem.W.Frag) (C f : Addr) : Prop where
  makes : PySem.W.makesIn K C = true
  init : PySem.W.findIn K (.ref C) "__init__" = some (some (.ref f))
  fn : PySem.W.isFn K (.ref f) = true
  kp : PySem.W.keepIn K (.ref C) = true

theorem run_make {pins : List (Addr × Obj)} {σ : St} {H : Hp} {s : Shared} {Q : VK} {us : List Value} {vs : List V} (M : Mk X.K C f) (F : FnOk X.prog X.w X.K X.mg X.base CX k f fd ps sp) (hr : Room (k + 1) X.A) (hb : Binds X.K fd ps ds) (hd : Vals dvs ds)
    (hx : Passes CX X E) (I : Inv X pins σ H s) (r : Vals vs us)
    (h : ∀ x dx, H x = none → H dx = none → dx ≠ x → sp (.ref x :: (vs ++ dvs)) (upd (upd H dx (.own x)) x (.ins C dx [])) (fun v H2 => v = .non ∧ Q (.ref x) H2) E) :
    wpAny (model X.prog X.w) X.A (call (.ref C) us) (EP X pins σ Q) X.xe s := by
  have hq := h (s.heap.objs.size + 1) s.heap.objs.size (I.hok.fresh (Nat.le_succ _)) (I.hok.fresh (Nat.le_refl _)) (Nat.ne_of_lt (Nat.lt_succ_self _))
  have I2 := Inv.made (C := C) I
  have r2 : Vals (V.ref (s.heap.objs.size + 1) :: (vs ++ dvs)) (Value.ref (s.heap.objs.size + 1) :: (us ++ ds)) := .cons rfl (r.append hd)
  have hl : (Value.ref (s.heap.objs.size + 1) :: us ++ ds).length = ps.length := by
    have e := r2.length
    rw [F.len _ _ _ _ hq] at e
    exact e.symm
  refine wpAny_call (make_map (f := f) I.kIn M.makes M.init (beq_iff_eq.mp M.fn) (codeAny_mono (F.run _ X.stack _ _ ⟨Value.ref (s.heap.objs.size + 1) :: us, []⟩ (Value.ref (s.heap.objs.size + 1) :: (us ++ ds)) _ _ E (hr.make C us [])
    (I2.env0.make C us []) (hb _ (Value.ref (s.heap.objs.size + 1) :: us) I2.kIn hl) r2 hq) fun r s' hq' => ?_))
  cases r with
  | error e => exact hx pins σ _ _ e s' I2 hq'
  | ok fl =>
    cases fl with
    | ret u =>
      obtain ⟨v, H', I3, rv, ev, q3⟩ := I2.after hq'
      subst ev
      exact ⟨rv, ⟨V.ref (s.heap.objs.size + 1), H', I3, rfl, q3⟩⟩
    | next => exact False.elim hq'
    | brk => exact False.elim hq'
    | cont => exact False.elim hq'
theorem pe_make (M : Mk X.K C f) (F : FnOk X.prog X.w X.K X.mg X.base CX k f fd ps sp) (hr : Room (k + 1) X.A) (hg : Gl X x) (hm : X.mg x = some (.ref C)) (hb : Binds X.K fd ps ds) (hd : Vals dvs ds) (hx : Passes CX X E)
    (ha : PA X (e :: es) t) (hdb : (x == ("__debug__" : Str)) = false := by decide) (he : starEach (e :: es) X.env = (false, eval e X.env) :: starEach es X.env := by rfl) (hpl : (backTo pos (starEach es X.env)).any (·.1) = false := by rfl) :
    PE X (.Call (.Name x p) (e :: es) [] pos) (tMake C sp dvs E t) := by
  intro pins s σ H Q I h
  refine wpAny_Call_Name_kw (ld_glob I hg hm ?_ hdb)
  refine PySem.W.callWith_K (h₀ := X.base) I.ok.mod.kin M.kp (thn (ha pos pins s σ H _ I h) fun us s1 ⟨vs, H1, I1, r, q⟩ => ⟨I1.kIn, ?_⟩) he hpl
  exact run_make M F hr hb hd hx I1 r q
end

section
variable {X : Cx} {CX : CXT} {k : Nat} {f C : Addr} {fd : FuncData} {ps ks : List Str} {sp : Sp} {E : XK} {x m : Str} {p pos apos kpos : Pos} {e o : Expr} {es : List Expr} {kws : List Keyword} {te ta : TE} {t tk : TA} {nm : Option Str}
variable {g : List Value → List Value → List Value} {gV : List V → List V → List V}
end

/-- names: the parameters first -/
structure FnScope (N P : List Str) (sc : Scope) : Prop where
  kind : sc.kind = .function
  co : sc.isCoroutine = false
  gen : sc.isGenerator = false
  nd : N.Nodup
  pre : N.take P.length = P
  par : ∀ x ∈ P, sc.names.lookup x = some .local ∨ sc.names.lookup x = some .cell
  nofree : ∀ y ∈ sc.names, y.2 ≠ .free

theorem bindL_out {kindOf : Str → Option NameKind} {x : Str} : ∀ {binds : List (Str × Value)} {m : Str → Option Value}, (∀ v, (x, v) ∉ binds) → bindL kindOf binds m x = m x
  | [], _, _ => rfl
  | (n, v) :: r, m, h => by
    unfold bindL
    rw [bindL_out fun w hw => h w (List.mem_cons_of_mem _ hw)]
    split
    · have : x ≠ n := by rintro rfl; exact h v List.mem_cons_self
      simp [this]
    · rfl
theorem bindC_out {kindOf : Str → Option NameKind} {x : Str} : ∀ {binds : List (Str × Value)} {m : Str → Option Value}, (∀ v, (x, v) ∉ binds) → bindC kindOf binds m x = m x
  | [], _, _ => rfl
  | (n, v) :: r, m, h => by
    unfold bindC
    rw [bindC_out fun w hw => h w (List.mem_cons_of_mem _ hw)]
    split
    · rfl
    · have : x ≠ n := by rintro rfl; exact h v List.mem_cons_self
      simp [this]
theorem bindL_get {kindOf : Str → Option NameKind} {x : Str} {v : Value} : ∀ {P : List Str} {vs : List Value} {i : Nat} {m : Str → Option Value}, P.Nodup → P[i]? = some x → vs[i]? = some v → kindOf x = some .local →
    bindL kindOf (P.zip vs) m x = some v
  | [], _, _, _, _, h, _, _ => by simp at h
  | _ :: _, [], _, _, _, _, h, _ => by simp at h
  | p :: P, w :: vs, 0, m, nd, h1, h2, hk => by
    simp at h1 h2; subst h1; subst h2
    show bindL kindOf ((p, w) :: P.zip vs) m p = _
    unfold bindL
    rw [bindL_out fun v hv => (List.nodup_cons.mp nd).1 (List.of_mem_zip hv).1, if_pos hk]
    simp
  | p :: P, w :: vs, i + 1, m, nd, h1, h2, hk => by
    show bindL kindOf ((p, w) :: P.zip vs) m x = _
    unfold bindL
    exact bindL_get (i := i) (List.nodup_cons.mp nd).2 (by simpa using h1) (by simpa using h2) hk
theorem bindC_get {kindOf : Str → Option NameKind} {x : Str} {v : Value} : ∀ {P : List Str} {vs : List Value} {i : Nat} {m : Str → Option Value}, P.Nodup → P[i]? = some x → vs[i]? = some v → kindOf x ≠ some .local →
    bindC kindOf (P.zip vs) m x = some v
  | [], _, _, _, _, h, _, _ => by simp at h
  | _ :: _, [], _, _, _, _, h, _ => by simp at h
  | p :: P, w :: vs, 0, m, nd, h1, h2, hk => by
    simp at h1 h2; subst h1; subst h2
    show bindC kindOf ((p, w) :: P.zip vs) m p = _
    unfold bindC
    rw [bindC_out fun v hv => (List.nodup_cons.mp nd).1 (List.of_mem_zip hv).1, if_neg hk]
    simp
  | p :: P, w :: vs, i + 1, m, nd, h1, h2, hk => by
    show bindC kindOf ((p, w) :: P.zip vs) m x = _
    unfold bindC
    exact bindC_get (i := i) (List.nodup_cons.mp nd).2 (by simpa using h1) (by simpa using h2) hk

/-- the names' values at the entry -/
def start (N : List Str) (vs : List V) : St := vs.map some ++ List.replicate (N.length - vs.length) none

/-- the context of a def's body, at its entry; an exception leaves the frame, then lies as CX says -/
def cxOf (CX : CXT) (P : Program) (w : World) (K : PySem.W.Frag) (mg : Str → Option Value) (base : Heap) (N : List Str) (qual : Str) (scope : Scope) (f : Addr) (cd : Value) (A : Around) (outer : List Env) (s : Shared) (H : Hp) (E : XK) : Cx where
  prog := P
  w := w
  K := K
  mg := mg
  base := base
  A := A.deeper (envOfC qual scope s.heap.objs.size f cd)
  N := N
  s₀ := s
  H₀ := H
  env := envOfC qual scope s.heap.objs.size f cd
  outer := outer
  stack := envOfC qual scope s.heap.objs.size f cd :: outer
  ex := []
  calm := true
  fn := fun _ => true
  pn := []
  xe := fun e s' => wpAny (model P w) (A.deeper (envOfC qual scope s.heap.objs.size f cd)) (leaving (envOfC qual scope s.heap.objs.size f cd) e) (fun _ s'' => CX outer H s E e s'') (fun e' s'' => CX outer H s E e' s'') s'

theorem cell_has {sc : Scope} {n : Nat} {x : Str} (h : sc.names.lookup x = some .cell) : ∃ c, (cellsFrom n sc.names []).lookup x = some c := by
  have q := PySem.W.cellsFrom_some sc.names n [] (.inl h)
  exact Option.isSome_iff_exists.mp q

theorem inv_start {CX : CXT} {P : Program} {w : World} {K : PySem.W.Frag} {mg : Str → Option Value} {base : Heap} {N ps : List Str} {qual : Str} {scope : Scope} {f : Addr} {cd : Value} {A : Around} {outer : List Env} {s s1 : Shared} {H : Hp} {E : XK} {us : List Value} {vs : List V}
    (S : FnScope N ps scope) (hd : A.handled = none) (e0 : Env0 P w K mg base A outer s H) (hl : vs.length = ps.length) (r : Vals vs us)
    (x : InCallC s s.heap.objs.size (bindL (envOfC qual scope s.heap.objs.size f cd).kindOf (ps.zip us) fun _ => none) (cellsFrom (s.heap.objs.size + 1) scope.names []) (bindC (envOfC qual scope s.heap.objs.size f cd).kindOf (ps.zip us) fun _ => none) s1) :
    Inv (cxOf CX P w K mg base N qual scope f cd A outer s H E) [] (start N vs) H s1 := by
  have hpl : ps.length ≤ N.length := by have := congrArg List.length S.pre; rw [List.length_take] at this; omega
  obtain ⟨h1, tk, rfl, hk⟩ := x.done
  have noA : ∀ b : Addr, b ∉ (cxOf CX P w K mg base N qual scope f cd A outer s H E).ex := fun b z => absurd (show b ∈ ([] : List Addr) from z) (by simp)
  refine ⟨⟨e0.mod, S.kind, rfl, rfl, Nat.le_refl _, fun y z c h1 h2 => ?_, fun y hy => ?_, fun y c _ h => ?_, fun _ => hd, Around.frames_deeper e0.frames, .inr ⟨rfl, rfl⟩, fun b z => absurd z (noA b), e0.bs, e0.bsz, fun b _ _ => noA b, fun b z => absurd z (noA b), e0.funs, e0.frf⟩,
    rfl, e0.bare, Un.kept hk, ⟨_, x.toInCall.ns, fun i y v h1 h2 h3 => ?_⟩, fun y c h => ⟨_, x.cell y c h⟩, e0.hok.fresh (Nat.le_refl _), fun y c h => ?_, fun p hp => absurd (show p ∈ ([] : List (Addr × Obj)) from hp) (by simp), e0.hok.kept hk, ?_⟩
  · exact name_of_addr x.apart (PySem.mem_of_lookup h1) (PySem.mem_of_lookup h2)
  · have hy : scope.names.lookup y = some .cell ∨ scope.names.lookup y = some .free := hy
    rcases hy with hy | hy
    · exact cell_has hy
    · exact absurd rfl (S.nofree _ (PySem.mem_of_lookup hy))
  · exact Nat.le_of_lt (x.above y c (PySem.mem_of_lookup h))
  · have hi : i < vs.length := by
      unfold start at h2
      by_cases hi : i < vs.length
      · exact hi
      · rw [List.getElem?_append_right (by simpa using hi)] at h2
        rw [List.getElem?_replicate] at h2
        split at h2 <;> cases h2
    have ha : vs[i]? = some v := by
      unfold start at h2
      rw [List.getElem?_append_left (by simpa using hi), List.getElem?_map] at h2
      cases e : vs[i]? with
      | none => rw [e] at h2; cases h2
      | some a => rw [e] at h2; cases h2; rfl
    obtain ⟨u, hu, rv⟩ := r.get ha
    have hp : ps[i]? = some y := by
      rw [← S.pre, List.getElem?_take_of_lt (by omega)]; exact h1
    have ndP : ps.Nodup := by rw [← S.pre]; exact S.nd.sublist (List.take_sublist _ _)
    refine ⟨u, rv, ?_⟩
    rcases S.par y (List.mem_of_getElem? hp) with k | k
    · exact .inl ⟨k, bindL_get ndP hp hu k⟩
    · obtain ⟨c, e⟩ := cell_has (n := s.heap.objs.size + 1) k
      refine .inr ⟨.inl k, c, e, ?_⟩
      have q := x.cell y c e
      rw [bindC_get ndP hp hu (by show scope.names.lookup y ≠ _; rw [k]; decide)] at q
      exact q
  · exact e0.hok.fresh (Nat.le_of_lt (x.above y c (PySem.mem_of_lookup h)))
  · unfold start
    show _ = N.length
    rw [List.length_append, List.length_map, List.length_replicate]
    omega

/-- THE RULE: a def (or a method) of the text, by its body. The body's reading t is chosen for each entry; it is run at the parameters' values -/
theorem fn_of {CX : CXT} {P : Program} {w : World} {K : PySem.W.Frag} {mg : Str → Option Value} {base : Heap} {k : Nat} {f : Addr} {name qual : Str} {params : Arguments} {body : List Stmt} {scope : Scope} {dV kV doc pm cdv ct oc : Value} {an od : Option Addr}
    {osl : Array (Option Value)} {N ps : List Str} {sp : Sp} (lk : K.lookup f = some ⟨oc, od, .func (PySem.W.fnOf name qual params body scope dV kV doc pm an cdv ct), osl⟩) (hcd : PySem.W.codeIn K cdv qual = true) (S : FnScope N ps scope)
    (len : ∀ vs H Q E, sp vs H Q E → vs.length = ps.length)
    (hbody : ∀ (A : Around) (outer : List Env) (s : Shared) (H : Hp) (vs : List V) (Q : VK) (E : XK), Room k (A.deeper (envOfC qual scope s.heap.objs.size f cdv)) → sp vs H Q E →
      ∃ t, PSs (cxOf CX P w K mg base N qual scope f cdv A outer s H E) body t ∧ t { nx := fun _ H' => Q .non H', rt := Q } (start N vs) H) :
    FnOk P w K mg base CX (k + 1) f (PySem.W.fnOf name qual params body scope dV kV doc pm an cdv ct) ps sp := by
  refine ⟨len, fun A outer s H args us vs Q E hr e0 hb r hsp => ?_⟩
  have hl := len _ _ _ _ hsp
  have KX : K.In s.heap := e0.mod.kin.keeps fun b o e => (e0.bs b o e).1
  have lim : s.heap.NoLimit := e0.mod.nolimit.keeps fun b o e => (e0.bs b o e).1
  have hkind : ∀ y ∈ ps.zip us, scope.names.lookup y.1 = some .local ∨ (scope.names.lookup y.1 = some .cell ∧ ((cellsFrom (s.heap.objs.size + 1) scope.names []).lookup y.1).isSome = true) := fun ⟨n, v⟩ hy => by
    rcases S.par n (List.of_mem_zip hy).1 with q | q
    · exact .inl q
    · exact .inr ⟨q, PySem.W.cellsFrom_some _ _ _ (.inl q)⟩
  refine codeAny_call_function hr.depth (KX _ _ lk) rfl S.co S.gen rfl (PySem.W.codeRec_of KX hcd) (hb _ _ _ _ ?_)
  refine wpAny_newFunctionEnv_cells S.kind hkind fun env he s1 x => ?_
  subst he
  refine ⟨lim.keeps x.toInCall.keep, codeAny_func ?_⟩
  obtain ⟨t, ht, hq⟩ := hbody A outer s H vs Q E (hr.deeper _) hsp
  have I : Inv (cxOf CX P w K mg base N qual scope f cdv A outer s H E) [] (start N vs) H s1 := inv_start S hr.hd e0 hl r x
  refine wpAny_mono (ht [] s1 (start N vs) H _ I hq) (fun fl s' hs => ?_) fun e s' hs => hs
  have fin : ∀ {σ' : St} {H' : Hp} {v : V} {u : Value}, Inv (cxOf CX P w K mg base N qual scope f cdv A outer s H E) [] σ' H' s' → RelV v u → Q v H' → CE outer P w H s Q u s' :=
    fun {σ' H' v u} J rv q => ⟨v, H', J.os, J.bare, J.base, J.hok, rv, q⟩
  cases fl with
  | ret u =>
    obtain ⟨v, σ', H', J, rv, q⟩ := hs
    exact fin J rv q
  | next =>
    obtain ⟨σ', H', J, q⟩ := hs
    exact fin (v := V.non) (u := Value.none) J rfl q
  | brk =>
    obtain ⟨_, _, _, q⟩ := hs
    exact False.elim q
  | cont =>
    obtain ⟨_, _, _, q⟩ := hs
    exact False.elim q
end L2

namespace L2
open PySem PySem.Spec PyProof.Rows
section
variable {X : Cx} {x : Str} {p pos : Pos} {e : Expr} {es : List Expr} {t : TA} {id T : String} {r : List V → Hp → VK → Prop}

def tCB (r : List V → Hp → VK → Prop) (t : TA) : TE := fun σ H Q => t σ H fun vs H1 => r vs H1 Q
/-- f(e, ..), f a built-in function -/
theorem pe_callB (hc : CallR X (.builtin id) r) (hg : Gl X x) (hm : X.mg x = none) (hv : bootBuiltins x = some (.builtin id)) (ha : PA X (e :: es) t) (hn : x ≠ "__name__" := by decide) (hdb : (x == ("__debug__" : Str)) = false := by decide)
    (he : starEach (e :: es) X.env = (false, eval e X.env) :: starEach es X.env := by rfl) (hpl : (backTo pos (starEach es X.env)).any (·.1) = false := by rfl) : PE X (.Call (.Name x p) (e :: es) [] pos) (tCB r t) := by
  intro pins s σ H Q I h
  refine wpAny_Call_Name_kw (ld_blt I hg hm hv ?_ hn hdb)
  exact PyProof.Rows.callWith_builtin1 (thn (ha pos pins s σ H _ I h) fun us s1 ⟨vs, H1, I1, r1, q1⟩ => hc pins s1 σ H1 vs us Q I1 r1 q1) he hpl
/-- T(e, ..), T a built-in type -/
theorem pe_callTy (hc : CallR X (.type T) r) (hg : Gl X x) (hm : X.mg x = none) (hv : bootBuiltins x = some (.type T)) (ha : PA X (e :: es) t) (hn : x ≠ "__name__" := by decide) (hdb : (x == ("__debug__" : Str)) = false := by decide)
    (he : starEach (e :: es) X.env = (false, eval e X.env) :: starEach es X.env := by rfl) (hpl : (backTo pos (starEach es X.env)).any (·.1) = false := by rfl) : PE X (.Call (.Name x p) (e :: es) [] pos) (tCB r t) := by
  intro pins s σ H Q I h
  refine wpAny_Call_Name_kw (ld_blt I hg hm hv ?_ hn hdb)
  exact PyProof.Rows.callWith_type1 (thn (ha pos pins s σ H _ I h) fun us s1 ⟨vs, H1, I1, r1, q1⟩ => hc pins s1 σ H1 vs us Q I1 r1 q1) he hpl
end
end L2

namespace HT
open PySem PyProof.Rows

section
open PySem.SeqAt
open PySem.AutoSeq1 (wpAny_loadPart')
open PySem.MeetsSeq PySem.MeetsSeq2 PySem.MeetsSeq3

end

section
variable {prog : Program} {w : World} {A : Around} {E : Value → Shared → Prop} {s : Shared}

/-- a slice's bound as a place among n (d where it is left out) -/
def sIx (n d : Nat) : Option Int → Nat
  | none => d
  | some v => if v < 0 then (v + (n : Int)).toNat else min v.toNat n
end
end HT

namespace L2
open PySem PySem.Spec PyProof.Rows

abbrev TO := St → Hp → (Option Int → Hp → Prop) → Prop
/-- a slice's part (left out, or an int) -/
def PO (X : Cx) (e : Option Expr) (t : TO) : Prop :=
  ∀ (pins : List (Addr × Obj)) (s : Shared) (σ : St) (H : Hp) (Q : Option Int → Hp → Prop), Inv X pins σ H s → t σ H Q →
    wpAny (model X.prog X.w) X.A (evalPart e X.env) (fun u s' => ∃ o H', Inv X pins σ H' s' ∧ IsPart u o ∧ Q o H') X.xe s
def tNoPart : TO := fun _ H Q => Q none H
def tPart (t : TE) : TO := fun σ H Q => t σ H fun x H1 => ∃ i, x = .int i ∧ Q (some i) H1

section
variable {X : Cx} {e : Expr} {te : TE} {lo hi : Option Expr} {tl th : TO} {pos p2 : Pos}

theorem po_none : PO X none tNoPart := by
  intro pins s σ H Q I h
  rw [evalPart_none]
  exact wpAny_pure ⟨none, H, I, .none, h⟩
theorem po_some (h : PE X e te) : PO X (some e) (tPart te) := by
  intro pins s σ H Q I hw
  rw [evalPart_some]
  refine thn (h pins s σ H _ I hw) fun u s1 ⟨x, H1, I1, r1, q1⟩ => ?_
  obtain ⟨i, rfl, q⟩ := q1
  obtain ⟨t, rfl⟩ := r1
  exact ⟨some i, H1, I1, .int i t, q⟩

/-- what a slice of a value is, by values: the slice object stands at sl -/
def SlR (X : Cx) (r : V → Option Int → Option Int → Hp → VK → Prop) : Prop :=
  ∀ (pins : List (Addr × Obj)) (s : Shared) (σ : St) (H : Hp) (x : V) (v vl vu : Value) (lo hi : Option Int) (sl : Addr) (Q : VK), Inv X pins σ H s → RelV x v → s.heap.IsSliceOf sl vl vu .none → IsPart vl lo → IsPart vu hi → r x lo hi H Q →
    ∃ T id, typeLookup (.type T) "__getitem__" = pure (some (.builtin id)) ∧ s.TypeIs v T ∧ wpAny (model X.prog X.w) X.A (getItem v (.ref sl)) (EP X pins σ Q) X.xe s
def tSl (r : V → Option Int → Option Int → Hp → VK → Prop) (te : TE) (tl th : TO) : TE := fun σ H Q => te σ H fun x H1 => tl σ H1 fun l H2 => th σ H2 fun u H3 => r x l u H3 Q
/-- a[lo:hi], any a -/
theorem pe_slice {r : V → Option Int → Option Int → Hp → VK → Prop} (hr : SlR X r) (he : PE X e te) (hl : PO X lo tl) (hu : PO X hi th) : PE X (.Subscript e (.Slice lo hi none p2) pos) (tSl r te tl th) := by
  intro pins s σ H Q I h
  refine Subscript_ (thn (he pins s σ H _ I h) fun v s1 ⟨x, H1, I1, r1, q1⟩ => ?_)
  refine wpAny_Slice (thn (hl pins s1 σ H1 _ I1 q1) fun vl s2 ⟨l, H2, I2, pl, q2⟩ => thn (hu pins s2 σ H2 _ I2 q2) fun vu s3 ⟨u, H3, I3, pu, q3⟩ => ?_)
  rw [evalPart_none]
  refine wpAny_pure ?_
  have I4 : Inv X pins σ H3 { s3 with heap := s3.heap.push { cls := .type "slice", data := .fields #[vl, vu, .none] } } := I3.kept (t' := s3.toks) fun b ob q => Heap.get?_push_of_some _ q
  obtain ⟨T, id, hT, ht, hg⟩ := hr pins { s3 with heap := s3.heap.push { cls := .type "slice", data := .fields #[vl, vu, .none] } } σ H3 x v vl vu l u s3.heap.objs.size Q I4 r1 (Heap.IsSliceOf.new ..) pl pu q3
  show wpAny (model X.prog X.w) X.A (subscriptTail e (.Slice lo hi none p2) v (.ref s3.heap.objs.size)) (EP X pins σ Q) X.xe { s3 with heap := s3.heap.push { cls := .type "slice", data := .fields #[vl, vu, .none] } }
  exact tail_any (ops := [.ref s3.heap.objs.size, v]) ht hT hg (by with_unfolding_all rfl)

/-- the items of xs[lo:hi] -/
def cutV (xs : List V) (lo hi : Option Int) : List V := (xs.drop (HT.sIx xs.length 0 lo)).take (HT.sIx xs.length xs.length hi - HT.sIx xs.length 0 lo)
theorem cutV_length (xs : List V) (lo hi : Option Int) : (cutV xs lo hi).length ≤ xs.length := by
  unfold cutV
  rw [List.length_take, List.length_drop]
  omega
end
end L2

namespace L2
open PySem PySem.Spec PyProof.Rows

/-- the place that an index of any sign means -/
def ixN (n : Nat) (i : Int) : Option Nat := if 0 ≤ i then (if i < n then some i.toNat else none) else if -(n : Int) ≤ i then some (i + n).toNat else none
def atI {α : Type} (xs : List α) (i : Int) : Option α := (ixN xs.length i).bind fun j => xs[j]?
theorem ixN_seq {n : Nat} {i : Int} {j : Nat} (h : ixN n i = some j) : seqIndex? i n = some j ∧ j < n ∧ -(n : Int) ≤ i ∧ i < n := by
  unfold ixN at h
  by_cases h0 : 0 ≤ i
  · rw [if_pos h0] at h
    by_cases h1 : i < n
    · rw [if_pos h1] at h
      have e : i.toNat = j := Option.some.inj h
      exact ⟨by rw [seqIndex_of h0 h1, e], by omega, by omega, h1⟩
    · rw [if_neg h1] at h; cases h
  · rw [if_neg h0] at h
    by_cases h1 : -(n : Int) ≤ i
    · rw [if_pos h1] at h
      have e : (i + n).toNat = j := Option.some.inj h
      exact ⟨by rw [seqIndex_neg (by omega) h1, e], by omega, h1, by omega⟩
    · rw [if_neg h1] at h; cases h
theorem atI_get {α : Type} {xs : List α} {i : Int} {v : α} (h : atI xs i = some v) : ∃ j, seqIndex? i xs.length = some j ∧ xs[j]? = some v ∧ j < xs.length ∧ -(xs.length : Int) ≤ i ∧ i < xs.length := by
  unfold atI at h
  cases e : ixN xs.length i with
  | none => rw [e] at h; cases h
  | some j =>
    rw [e] at h
    obtain ⟨h1, h2, h3, h4⟩ := ixN_seq e
    exact ⟨j, h1, h, h2, h3, h4⟩
theorem atI_nat {α : Type} {xs : List α} {j : Nat} {v : α} (h : xs[j]? = some v) : atI xs (j : Int) = some v := by
  have hj : j < xs.length := (List.getElem?_eq_some_iff.mp h).1
  have e : ixN xs.length (j : Int) = some j := by
    unfold ixN
    rw [if_pos (by omega), if_pos (by omega)]; simp
  unfold atI; rw [e]; exact h
/-- what stands as an index of a plain subscript -/
def PlainIx (b : Expr) : Prop := ∀ o i, subscripted b false o i = operate [o, i] (getItem o i)
/-- a subscript by values -/
def IxR (X : Cx) (r : R2) : Prop :=
  ∀ (value slice : Expr) (pins : List (Addr × Obj)) (s : Shared) (σ : St) (H : Hp) (x y : V) (v u : Value) (Q : VK), Inv X pins σ H s → RelV x v → RelV y u → r x y H Q →
    subscripted slice false v u = operate [v, u] (getItem v u) → wpAny (model X.prog X.w) X.A (subscriptTail value slice v u) (EP X pins σ Q) X.xe s
/-- a call of a builtin's method by values: the receiver, the arguments -/
def MtR (X : Cx) (id : String) (r : V → List V → Hp → VK → Prop) : Prop :=
  ∀ (pins : List (Addr × Obj)) (s : Shared) (σ : St) (H : Hp) (x : V) (xs : List V) (v : Value) (us : List Value) (Q : VK), Inv X pins σ H s → RelV x v → Vals xs us → r x xs H Q →
    wpAny (model X.prog X.w) X.A (call (.builtin id) (v :: us)) (EP X pins σ Q) X.xe s
section
variable {X : Cx} {a b : Expr} {ta tb : TE} {pos : Pos}
/-- a[b] -/
theorem pe_ix {r : R2} (hr : IxR X r) (ha : PE X a ta) (hb : PE X b tb) (hs : PlainIx b) : PE X (.Subscript a b pos) (tOp r ta tb) := by
  intro pins s σ H Q I h
  exact Subscript_ (binT ha hb I h fun v u s2 x y H2 I2 rx ry q => hr a b pins s2 σ H2 x y v u Q I2 rx ry q (hs _ _))

def rIxL (K : PySem.W.Frag) : R2 := fun x y H Q => ∃ p xs i v, x = .ref p ∧ y = .int i ∧ SqL K H p xs ∧ atI xs i = some v ∧ Q v H
theorem ix_list : IxR X (rIxL X.K) := by
  intro value slice pins s σ H x y v u Q I rx ry h hs
  obtain ⟨p, xs, i, z, rfl, rfl, hq, he, q⟩ := h
  cases rx
  obtain ⟨t, rfl⟩ := ry
  obtain ⟨its, r, pl, hz⟩ := I.list hq
  obtain ⟨j, h1, h2, h3, h4, h5⟩ := atI_get he
  obtain ⟨w, ew, rw'⟩ := r.get h2
  have hl := r.length
  have hn := line63
  have fin : EP X pins σ Q w s := ⟨z, H, I, rw', q⟩
  by_cases h0 : 0 ≤ i
  · have hj : i.toNat = j := by
      rw [seqIndex_of h0 h5] at h1
      exact Option.some.inj h1
    exact item_listR pl.isList h0 (by omega) (by rw [hj]; simpa using ew) fin hs
  · have hj : (i + (its.toArray.size : Int)).toNat = j := by
      rw [seqIndex_neg (by omega) h4] at h1
      rw [List.size_toArray, ← hl]
      exact Option.some.inj h1
    exact subscriptTail_builtinR (x := w) pl.isList.typeIs slot_list_getitem.lookup
      (wpAny_getItem_list_neg (Q := fun r s' => r = w ∧ EP X pins σ Q r s') pl.isList (by omega) (by rw [List.size_toArray] <;> omega) (by omega) (by rw [hj]; simpa using ew) ⟨rfl, fin⟩) hs
/-- the list's object behind a store -/
theorem mapSeq_set (its : List Value) (n j : Nat) (u : Value) : Obj.mapSeq (·.setIfInBounds j u) { cls := .type "list", data := .seq its.toArray n } = { cls := .type "list", data := .seq (its.set j u).toArray n } := by
  simp [Obj.mapSeq]
theorem Inv.lst {pins : List (Addr × Obj)} {σ : St} {H : Hp} {s : Shared} {p : Addr} {xs : List V} (I : Inv X pins σ H s) (h : H p = some (.lst xs)) :
    ∃ (its : List Value) (n : Nat), Vals xs its ∧ s.heap.get? p = some { cls := .type "list", data := .seq its.toArray n } ∧ xs.length ≤ sizeLine := by
  obtain ⟨z, its, n, r, e⟩ := I.hok p _ h
  exact ⟨its, n, r, e, z⟩
/-- the list at p is written by an update of its object -/
theorem Inv.lstUpd {pins : List (Addr × Obj)} {σ : St} {H : Hp} {s : Shared} {p : Addr} {xs ys : List V} {its its' : List Value} {n n' : Nat} {f : Obj → Obj} (I : Inv X pins σ H s) (h : H p = some (.lst xs))
    (ho : s.heap.get? p = some { cls := .type "list", data := .seq its.toArray n }) (hf : f { cls := .type "list", data := .seq its.toArray n } = { cls := .type "list", data := .seq its'.toArray n' }) (r : Vals ys its') (hz : ys.length ≤ sizeLine) (t : Nat) :
    Inv X pins σ (upd H p (.lst ys)) { s with heap := s.heap.update p f, toks := t } := by
  have e : (s.heap.update p f).get? p = some { cls := .type "list", data := .seq its'.toArray n' } := by
    rw [Heap.get?_update_self f ho (by rw [hf] <;> rfl), hf]
  refine I.write (x := p) (e := p) (by rw [h]; trivial) (.inl rfl) (fun b u hb q => (Heap.get?_update_other _ _ (Ne.symm hb)).trans q) ⟨_, e⟩ ?_
  exact ⟨hz, its', n', r, e⟩
def rSetL : V → V → V → Hp → (Hp → Prop) → Prop := fun o i v H Q => ∃ p xs k j, o = .ref p ∧ i = .int k ∧ H p = some (.lst xs) ∧ ixN xs.length k = some j ∧ Q (upd H p (.lst (xs.set j v)))
theorem set_list : PSet X rSetL := by
  intro pins s σ H o i v ov iv u Q I ro ri rv h
  obtain ⟨p, xs, k, j, rfl, rfl, hp, hj, q⟩ := h
  cases ro
  obtain ⟨t, rfl⟩ := ri
  obtain ⟨its, n, r, ho, hz⟩ := I.lst hp
  obtain ⟨h1, h2, h3, h4⟩ := ixN_seq hj
  have hl := r.length
  have hn := line63
  have I' : Inv X pins σ (upd H p (.lst (xs.set j v))) { s with heap := s.heap.update p (Obj.mapSeq (·.setIfInBounds j u)) } :=
    I.lstUpd hp ho (mapSeq_set its n j u) (r.set rv j) (by rw [List.length_set]; exact hz) s.toks
  by_cases h0 : 0 ≤ k
  · have hk : k.toNat = j := by
      rw [seqIndex_of h0 h4] at h1
      exact Option.some.inj h1
    exact PySem.W.ki_setAt ho h0 (by omega) (by rw [List.size_toArray, ← hl]; exact h4) (by rw [hk]; exact ⟨_, I', q⟩)
  · have hk : (k + (its.toArray.size : Int)).toNat = j := by
      rw [seqIndex_neg (by omega) h3] at h1
      rw [List.size_toArray, ← hl]
      exact Option.some.inj h1
    exact PySem.W.ki_setBack ho (by omega) (by rw [List.size_toArray, ← hl]; exact h3) (by omega) (by rw [hk]; exact ⟨_, I', q⟩)

theorem slice_bounds (lo hi : Option Int) (n : Nat) : (sliceBounds lo hi none n).1 = ((HT.sIx n 0 lo : Nat) : Int) ∧ (sliceBounds lo hi none n).2.1 = ((HT.sIx n n hi : Nat) : Int) ∧ (sliceBounds lo hi none n).2.2 = 1 := by
  refine ⟨?_, ?_, rfl⟩
  · cases lo with
    | none => simp [sliceBounds, HT.sIx]
    | some i =>
      simp only [sliceBounds, HT.sIx, Option.getD_none, show (1 : Int) > 0 by decide, if_true]
      by_cases h : i < 0
      · simp only [h, if_true] <;> omega
      · simp only [h, if_false] <;> omega
  · cases hi with
    | none => simp [sliceBounds, HT.sIx]
    | some i =>
      simp only [sliceBounds, HT.sIx, Option.getD_none, show (1 : Int) > 0 by decide, if_true]
      by_cases h : i < 0
      · simp only [h, if_true] <;> omega
      · simp only [h, if_false] <;> omega
theorem slicePick_cut (its : List Value) (lo hi : Option Int) : slicePick its.toArray lo hi none = ((its.drop (HT.sIx its.length 0 lo)).take (HT.sIx its.length its.length hi - HT.sIx its.length 0 lo)).toArray := by
  obtain ⟨h1, h2, h3⟩ := slice_bounds lo hi its.toArray.size
  unfold slicePick
  rw [h1, h2, h3]
  simp only [sliceRange_one, pick_run, List.size_toArray] <;> rfl
/-- xs[lo:hi] of a list: a new list -/
def rSlL (K : PySem.W.Frag) : V → Option Int → Option Int → Hp → VK → Prop := fun x lo hi H Q => ∃ a xs, x = .ref a ∧ SqL K H a xs ∧ ∀ p, H p = none → Q (.ref p) (upd H p (.lst (cutV xs lo hi)))
theorem sl_list : SlR X (rSlL X.K) := by
  intro pins s σ H x v vl vu lo hi sl Q I rx hs pl pu h
  obtain ⟨a, xs, rfl, hx, q⟩ := h
  cases rx
  obtain ⟨its, r, ht, hz⟩ := I.list hx
  have hlen := r.length
  refine ⟨"list", _, slot_list_getitem.lookup, ht.isList.typeIs, ?_⟩
  refine wpAny_getItem_list_slice ht.isList hs pl pu .none (by simp) ?_ (by rw [List.size_toArray] <;> omega)
  rw [slicePick_cut, ← hlen]
  refine ⟨.ref s.heap.objs.size, _, I.laid (t' := s.toks) (o := .lst (cutV xs lo hi)) (fun b ob q => Heap.get?_push_of_some _ q) (Nat.le_refl _) ?_, rfl, q _ (I.hok.fresh (Nat.le_refl _))⟩
  exact ⟨Nat.le_trans (cutV_length xs lo hi) hz, _, 0, (r.drop (HT.sIx xs.length 0 lo)).take (HT.sIx xs.length xs.length hi - HT.sIx xs.length 0 lo), Heap.get?_push_size _ rfl⟩

def flatV : V → Bool
  | .non => true
  | .bl _ => true
  | .int _ => true
  | .str _ => true
  | _ => false
/-- == of flat values -/
def eqV : V → V → Bool
  | .non, .non => true
  | .bl a, .bl b => a == b
  | .bl a, .int b => (if a then 1 else 0) == b
  | .int a, .bl b => a == (if b then 1 else 0)
  | .int a, .int b => a == b
  | .str a, .str b => a == b
  | _, _ => false
theorem eqAt_V {A : Around} {s : Shared} {y x : V} {u v : Value} (ry : RelV y u) (rx : RelV x v) (fy : flatV y = true) (fx : flatV x = true) : SeqAt.EqAt A s u v (eqV y x) := by
  cases y with
  | non =>
    cases ry
    cases x with
    | non => cases rx; exact SeqAt.EqAt.same _
    | bl b => cases rx; exact SeqAt.EqAt.none_bool b
    | int b => obtain ⟨t, rfl⟩ := rx; exact SeqAt.EqAt.none_int b t
    | str b => obtain ⟨t, rfl⟩ := rx; exact SeqAt.EqAt.none_str b t
    | _ => exact absurd (show false = true from fx) Bool.false_ne_true
  | bl a =>
    cases ry
    cases x with
    | non => cases rx; exact SeqAt.EqAt.bool_none a
    | bl b => cases rx; exact SeqAt.EqAt.bool_bool a b
    | int b => obtain ⟨t, rfl⟩ := rx; exact SeqAt.EqAt.bool_int a b t
    | str b => obtain ⟨t, rfl⟩ := rx; exact SeqAt.EqAt.bool_str a b t
    | _ => exact absurd (show false = true from fx) Bool.false_ne_true
  | int a =>
    obtain ⟨t', rfl⟩ := ry
    cases x with
    | non => cases rx; exact SeqAt.EqAt.int_none a t'
    | bl b => cases rx; exact SeqAt.EqAt.int_bool a t' b
    | int b => obtain ⟨t, rfl⟩ := rx; exact SeqAt.EqAt.int_int a t' b t
    | str b => obtain ⟨t, rfl⟩ := rx; exact SeqAt.EqAt.int_str a t' b t
    | _ => exact absurd (show false = true from fx) Bool.false_ne_true
  | str a =>
    obtain ⟨t', rfl⟩ := ry
    cases x with
    | non => cases rx; exact SeqAt.EqAt.str_none a t'
    | bl b => cases rx; exact SeqAt.EqAt.str_bool a t' b
    | int b => obtain ⟨t, rfl⟩ := rx; exact SeqAt.EqAt.str_int a t' b t
    | str b => obtain ⟨t, rfl⟩ := rx; exact SeqAt.EqAt.str_str a t' b t
    | _ => exact absurd (show false = true from fx) Bool.false_ne_true
  | _ => exact absurd (show false = true from fy) Bool.false_ne_true
/-- the items' answers, read off the values (a value's own answer does not lean on its token) -/
def eqU (x : V) (u : Value) : Bool := match u with
  | .none => eqV .non x
  | .bool b => eqV (.bl b) x
  | .int i _ => eqV (.int i) x
  | .str z _ => eqV (.str z) x
  | _ => false
theorem eqU_of {x y : V} {u : Value} (r : RelV y u) (f : flatV y = true) : eqU x u = eqV y x := by
  cases y with
  | non => cases r; rfl
  | bl b => cases r; rfl
  | int i => obtain ⟨t, rfl⟩ := r; rfl
  | str z => obtain ⟨t, rfl⟩ := r; rfl
  | _ => exact absurd (show false = true from f) Bool.false_ne_true
theorem any_eqU {x : V} : ∀ {xs : List V} {us : List Value}, Vals xs us → xs.all flatV = true → us.any (eqU x) = xs.any fun y => eqV y x
  | _, _, .nil, _ => rfl
  | y :: xs, u :: us, .cons r t, f => by
    rw [List.all_cons, Bool.and_eq_true] at f
    rw [List.any_cons, List.any_cons, eqU_of r f.1, any_eqU t f.2]
theorem mem_eqAt {A : Around} {s : Shared} {x : V} {v : Value} (rx : RelV x v) (fx : flatV x = true) : ∀ {xs : List V} {us : List Value}, Vals xs us → xs.all flatV = true → ∀ u ∈ us, SeqAt.EqAt A s u v (eqU x u)
  | _, _, .nil, _ => fun u hu => by cases hu
  | y :: xs, u :: us, .cons r t, f => fun u' hu => by
    rw [List.all_cons, Bool.and_eq_true] at f
    rcases List.mem_cons.mp hu with rfl | hu
    · rw [eqU_of r f.1]; exact eqAt_V r rx f.1 fx
    · exact mem_eqAt rx fx t f.2 u' hu
def inV (x : V) (xs : List V) : Bool := xs.any fun y => eqV y x
/-- x in a list or tuple of flat items -/
def rIn (K : PySem.W.Frag) (neg : Bool) : R2 := fun x y H Q => ∃ p xs, y = .ref p ∧ (SqL K H p xs ∨ SqT K H p xs) ∧ flatV x = true ∧ xs.all flatV = true ∧ Q (.bl (if neg then !inV x xs else inV x xs)) H
theorem op_in_seq : OpR X (compareOp .In) (rIn X.K false) := by
  intro pins s σ H x y v u Q I rx ry h
  obtain ⟨p, xs, rfl, hq, fx, fs, q⟩ := h
  cases ry
  rcases hq with hq | hq
  · obtain ⟨its, r, pl, hz⟩ := I.list hq
    refine SeqAt.in_listAt (eqU x) pl.isList (fun w hw => mem_eqAt rx fx r fs w (by simpa using hw)) ⟨.bl _, H, I, rfl, ?_⟩
    rw [show its.toArray.any (eqU x) = its.any (eqU x) by simp, any_eqU r fs]
    exact q
  · obtain ⟨its, r, pl, hz⟩ := I.tuple hq
    refine SeqAt.in_tupleAt (eqU x) pl (fun w hw => mem_eqAt rx fx r fs w (by simpa using hw)) ⟨.bl _, H, I, rfl, ?_⟩
    rw [show its.toArray.any (eqU x) = its.any (eqU x) by simp, any_eqU r fs]
    exact q
theorem call_len_seq : CallR X (.builtin "len") (fun xs H Q => ∃ p ys, xs = [.ref p] ∧ (SqL X.K H p ys ∨ SqT X.K H p ys) ∧ Q (.int ys.length) H) := by
  intro pins s σ H xs us Q I r h
  obtain ⟨p, ys, rfl, hq, q⟩ := h
  obtain ⟨u, rfl, rx⟩ := vals1 r
  cases rx
  have hn := line63
  rcases hq with hq | hq
  · obtain ⟨its, r', pl, hz⟩ := I.list hq
    have hlen := r'.length
    exact Calls.call_len_list pl.isList (by simp only [List.size_toArray] <;> omega) ⟨.int ys.length, H, I.tok _, ⟨s.toks + 1, by rw [List.size_toArray, hlen]⟩, q⟩
  · obtain ⟨its, r', pl, hz⟩ := I.tuple hq
    have hlen := r'.length
    exact len_tuple pl (by simp only [List.size_toArray] <;> omega) ⟨.int ys.length, H, I.tok _, ⟨s.toks + 1, by rw [List.size_toArray, hlen]⟩, q⟩
theorem call_list_of : CallR X (.type "list") (fun xs H Q => ∃ p ys, xs = [.ref p] ∧ (SqL X.K H p ys ∨ SqT X.K H p ys) ∧ ∀ l, H l = none → Q (.ref l) (upd H l (.lst ys))) := by
  intro pins s σ H xs us Q I r h
  obtain ⟨p, ys, rfl, hq, q⟩ := h
  obtain ⟨u, rfl, rx⟩ := vals1 r
  cases rx
  have fin : ∀ (its : List Value), Vals ys its → ys.length ≤ sizeLine → ∀ (h' : Heap) (c' : Nat), (∀ b o', s.heap.get? b = some o' → h'.get? b = some o') →
      h'.get? s.heap.objs.size = some { cls := .type "list", dict := none, data := .seq its.toArray c', slots := #[] } → EP X pins σ Q (.ref s.heap.objs.size) { s with heap := h' } := fun its r' hz h' c' kp e =>
    ⟨.ref s.heap.objs.size, _, I.laid (t' := s.toks) kp (Nat.le_refl _) (show ObjOk X.prog X.w _ h' _ (.lst ys) from ⟨hz, its, c', r', e⟩), rfl, q _ (I.hok.fresh (Nat.le_refl _))⟩
  rcases hq with hq | hq
  · obtain ⟨its, r', pl, hz⟩ := I.list hq
    have hlen := r'.length
    obtain ⟨o, ho, hc, n, hd⟩ := pl.isList
    exact call_list_seq p (.inl rfl) ho hc hd (fun h' c' kp e => fin its r' hz h' c' kp e) (by simp only [List.size_toArray] <;> omega)
  · obtain ⟨its, r', pl, hz⟩ := I.tuple hq
    have hlen := r'.length
    obtain ⟨o, ho, hc, n, hd⟩ := pl
    exact call_list_seq p (.inr rfl) ho hc hd (fun h' c' kp e => fin its r' hz h' c' kp e) (by simp only [List.size_toArray] <;> omega)
/-- the value is of that builtin type -/
def tyV (K : PySem.W.Frag) (T : String) (x : V) (H : Hp) : Prop := match x with
  | .str _ => T = "str"
  | .int _ => T = "int"
  | .ref p => (T = "list" ∧ ∃ xs, SqL K H p xs) ∨ (T = "tuple" ∧ ∃ o, K.lookup p = some o ∧ o.cls = .type "tuple" ∧ o.dict = none) ∨
      (T = "dict" ∧ ((∃ kvs, H p = some (.dK kvs)) ∨ ∃ kvs, H p = some (.dT kvs))) ∨ (T = "set" ∧ ∃ S n, H p = some (.set S n))
  | _ => False
theorem tyV_is {pins : List (Addr × Obj)} {σ : St} {H : Hp} {s : Shared} {T : String} {x : V} {v : Value} (I : Inv X pins σ H s) (r : RelV x v) (ty : tyV X.K T x H) :
    s.TypeIs v T ∧ ∀ a, v = .ref a → ∃ ob, s.heap.get? a = some ob ∧ ob.dict = none := by
  cases x with
  | str z =>
    obtain ⟨t, rfl⟩ := r
    cases (show T = "str" from ty)
    exact ⟨typeIs_str s z t, fun _ e => nomatch e⟩
  | int i =>
    obtain ⟨t, rfl⟩ := r
    cases (show T = "int" from ty)
    exact ⟨typeIs_int s i t, fun _ e => nomatch e⟩
  | ref p =>
    cases r
    rcases ty with ⟨rfl, xs, hq⟩ | ⟨rfl, o, hk, hc, hd⟩ | ⟨rfl, hk⟩ | ⟨rfl, S, n, hk⟩
    · obtain ⟨its, _, pl, _⟩ := I.list hq
      refine ⟨pl.isList.typeIs, fun a e => ?_⟩
      cases e
      obtain ⟨o, n, e, c, hd, _⟩ := pl
      exact ⟨o, e, hd⟩
    · refine ⟨⟨o, I.kIn p o hk, hc⟩, fun a e => ?_⟩
      cases e
      exact ⟨o, I.kIn _ o hk, hd⟩
    · have z : ∃ o, s.heap.get? p = some o ∧ o.ExactDict := by
        rcases hk with ⟨kvs, hk⟩ | ⟨kvs, hk⟩
        · obtain ⟨_, _, _, _, o, _, _, e, ex, _⟩ := I.hok p _ hk
          exact ⟨o, e, ex⟩
        · obtain ⟨_, _, _, _, o, _, _, e, ex, _⟩ := I.hok p _ hk
          exact ⟨o, e, ex⟩
      obtain ⟨o, e, ex⟩ := z
      refine ⟨⟨o, e, ex.1⟩, fun a e2 => ?_⟩
      cases e2
      exact ⟨o, e, ex.2.1⟩
    · obtain ⟨o, _, _, _, e, ex, _⟩ := I.hok p _ hk
      refine ⟨⟨o, e, ex.1⟩, fun a e2 => ?_⟩
      cases e2
      exact ⟨o, e, ex.2.1⟩
  | _ => exact False.elim ty
def tBM (K : PySem.W.Frag) (T : String) (r : V → List V → Hp → VK → Prop) (to : TE) (t : TA) : TE := fun σ H Q => to σ H fun x H1 => tyV K T x H1 ∧ t σ H1 fun xs H2 => r x xs H2 Q
variable {o e : Expr} {es : List Expr} {to : TE} {t : TA} {name : Str} {apos cpos : Pos} {T id : String} {r : V → List V → Hp → VK → Prop}
theorem pe_bm (pa : PlainAttrs T) (slot : Slot T name id) (hty : typeOf (.builtin id) = pure (.type "method_descriptor")) (hm : MtR X id r) (ho : PE X o to) (ha : PA X (e :: es) t)
    (hbase : attributeBase o name X.env (eval o X.env) = eval o X.env := by rfl)
    (hfew : ((backTo cpos (starEach (e :: es) X.env)).all (fun x => !x.1) && (backToKw cpos (keywordEach [] X.env)).all (fun x => x.1.isSome)
      && decide ((e :: es).length + ([] : List Keyword).length + (if ([] : List Keyword).isEmpty then 0 else 1) < 30)) = true := by rfl)
    (hline : (apos.endLine == cpos.line) = true := by rfl) (hs : starEach (e :: es) X.env = (false, eval e X.env) :: starEach es X.env := by rfl) (hplain : (backTo cpos (starEach es X.env)).any (·.1) = false := by rfl) :
    PE X (.Call (.Attribute o name apos) (e :: es) [] cpos) (tBM X.K T r to t) := by
  intro pins s σ H Q I h
  refine wpAny_Call_method_late hbase hfew hline rfl (thn (ho pins s σ H _ I h) fun v s1 ⟨x, H1, I1, r1, ty, q1⟩ => ?_)
  obtain ⟨h1, h2⟩ := tyV_is I1 r1 ty
  refine ⟨T, id, pa, slot, hty, h1, h2, ?_⟩
  have hA := ha cpos pins s1 σ H1 _ I1 q1
  rw [hs] at hA ⊢
  refine Calls.callWith_builtin (by show (false || (backTo cpos (starEach es X.env)).any (·.1)) = false; rw [hplain] <;> rfl) (Calls.evalArgs_plain ?_)
  exact thn hA fun us s2 ⟨vs, H2, I2, r2, q2⟩ => hm pins s2 σ H2 x vs v us Q I2 r1 r2 q2
end
end L2

namespace L2
open PySem PySem.Spec PyProof.Rows

def MtM (X : Cx) (id : String) (r : V → List V → Hp → VK → Prop) : Prop :=
  ∀ (pins : List (Addr × Obj)) (s : Shared) (σ : St) (H : Hp) (x : V) (xs : List V) (v : Value) (us : List Value) (Q : VK), Inv X pins σ H s → RelV x v → Vals xs us → r x xs H Q →
    wpAny (model X.prog X.w) X.A (call (.builtin id) (v :: us)) (EP X pins σ Q) X.xe s

theorem Vals.one : ∀ {x : V} {us : List Value}, Vals [x] us → ∃ u, us = [u] ∧ RelV x u
  | _, _, .cons r .nil => ⟨_, rfl, r⟩
theorem Vals.eraseIdx : ∀ {xs : List V} {us : List Value} (i : Nat), Vals xs us → Vals (xs.eraseIdx i) (us.eraseIdx i)
  | _, _, _, .nil => .nil
  | _, _, 0, .cons _ t => t
  | _, _, i + 1, .cons r t => .cons r (Vals.eraseIdx i t)
theorem Vals.rep {xs : List V} {us : List Value} (h : Vals xs us) : ∀ k : Nat, Vals (List.replicate k xs).flatten (List.replicate k us).flatten
  | 0 => .nil
  | k + 1 => by
    rw [List.replicate_succ, List.replicate_succ, List.flatten_cons, List.flatten_cons]
    exact Vals.append h (Vals.rep h k)
theorem len_erase {α : Type} : ∀ (l : List α) (i : Nat), (l.eraseIdx i).length ≤ l.length
  | [], _ => Nat.le_refl _
  | _ :: _, 0 => Nat.le_succ _
  | _ :: r, i + 1 => Nat.succ_le_succ (len_erase r i)
theorem foldl_rep (its : List Value) : ∀ (k : Nat) (acc : List Value),
    List.foldl (fun x1 x2 => x1 ++ x2) acc.toArray (List.replicate k its.toArray) = (acc ++ (List.replicate k its).flatten).toArray
  | 0, acc => by simp
  | k + 1, acc => by
    have e : acc.toArray ++ its.toArray = (acc ++ its).toArray := by simp
    have e2 : (acc ++ its) ++ (List.replicate k its).flatten = acc ++ (List.replicate (k + 1) its).flatten := by
      rw [List.replicate_succ, List.flatten_cons, List.append_assoc]
    rw [← e2, ← foldl_rep its k (acc ++ its), ← e, List.replicate_succ, List.foldl_cons]

section
variable {X : Cx} {pins : List (Addr × Obj)} {σ : St} {H : Hp} {s : Shared} {l b : Addr} {xs ys zs : List V}

theorem Inv.lset {its its' : List Value} {n : Nat} {f : Array Value → Array Value} {t' : Nat} (I : Inv X pins σ H s) (hH : H l = some (.lst xs))
    (e : s.heap.get? l = some { cls := .type "list", data := .seq its.toArray n }) (hf : f its.toArray = its'.toArray) (hv : Vals ys its') (hz : ys.length ≤ sizeLine) :
    Inv X pins σ (upd H l (.lst ys)) { s with heap := s.heap.update l (Obj.mapSeq f), toks := t' } := by
  have q := PySem.IsL.update e f
  rw [hf] at q
  refine I.write (x := l) (e := l) (by rw [hH]; exact trivial) (.inl rfl) (fun b' u hb hu => (Heap.get?_update_other s.heap (Obj.mapSeq f) (Ne.symm hb)).trans hu) ⟨_, q⟩ ?_
  exact ⟨hz, its', _, hv, q⟩
theorem Inv.lnew {its : List Value} {t' : Nat} (I : Inv X pins σ H s) (hv : Vals ys its) (hz : ys.length ≤ sizeLine) :
    Inv X pins σ (upd H s.heap.objs.size (.lst ys)) { s with heap := s.heap.push { cls := .type "list", data := .seq its.toArray }, toks := t' } :=
  I.laid (fun _ _ q => Heap.get?_push_of_some _ q) (Nat.le_refl _) ⟨hz, its, 0, hv, Heap.get?_push_size _ rfl⟩
theorem Inv.fresh (I : Inv X pins σ H s) : H s.heap.objs.size = none := I.hok.fresh (Nat.le_refl _)
theorem Inv.lstM (I : Inv X pins σ H s) (hH : H l = some (.lst xs)) : xs.length ≤ sizeLine ∧ ∃ (its : List Value) (n : Nat), Vals xs its ∧ xs.length = its.length ∧ s.heap.get? l = some { cls := .type "list", data := .seq its.toArray n } := by
  obtain ⟨z, its, n, r, e⟩ := I.hok l _ hH
  exact ⟨z, its, n, r, r.length, e⟩

theorem notLongL {n : Nat} (h : n ≤ sizeLine) : Builtin.List.listTooLong n = false := by
  unfold Builtin.List.listTooLong
  exact decide_eq_false (by omega)
end

section
variable {X : Cx}

def rAppend : V → List V → Hp → VK → Prop := fun x vs H Q => ∃ l xs y, x = .ref l ∧ vs = [y] ∧ H l = some (.lst xs) ∧ xs.length < sizeLine ∧ Q .non (upd H l (.lst (xs ++ [y])))
theorem mt_append : MtM X "list.append" rAppend := by
  intro pins s σ H x vs v us Q I rx rv h
  obtain ⟨l, xs, y, rfl, rfl, hH, hz, q⟩ := h
  cases rx
  obtain ⟨u, rfl, ru⟩ := rv.one
  obtain ⟨z, its, n, r, hl, e⟩ := I.lstM hH
  refine call_meets F.slot_list_append ⟨_, e, rfl⟩ F.entry_list_append (F.args_list_append_2 _ _) (PySem.list_append l its.toArray n u (by rw [List.size_toArray]; omega)) ⟨e, ?_⟩
  refine ⟨.non, _, I.lset (its' := its ++ [u]) hH e (by simp) (r.append (.cons ru .nil)) ?_, rfl, q⟩
  rw [List.length_append, List.length_singleton]
  omega

def rPopAt : V → List V → Hp → VK → Prop := fun x vs H Q => ∃ l xs i k y, x = .ref l ∧ vs = [.int i] ∧ H l = some (.lst xs) ∧ -(2 ^ 63) ≤ i ∧ i < 2 ^ 63 ∧ seqIndex? i xs.length = some k ∧ xs[k]? = some y ∧ Q y (upd H l (.lst (xs.eraseIdx k)))
theorem mt_popAt : MtM X "list.pop" rPopAt := by
  intro pins s σ H x vs v us Q I rx rv h
  obtain ⟨l, xs, i, k, y, rfl, rfl, hH, h1, h2, hk, hy, q⟩ := h
  cases rx
  obtain ⟨u, rfl, ru⟩ := rv.one
  obtain ⟨t, rfl⟩ := ru
  obtain ⟨z, its, n, r, hl, e⟩ := I.lstM hH
  obtain ⟨w, hw, rw'⟩ := r.get hy
  refine call_meets F.slot_list_pop ⟨_, e, rfl⟩ F.entry_list_pop (F.args_list_pop_2 _ _)
    (MeetsSeq.list_pop_at l its.toArray n i t k w (fitsIndex_both h1 h2) (by rw [List.size_toArray, ← hl]; exact hk) (by rw [← Array.getElem?_toList]; exact hw) (by rw [List.size_toArray]; omega)) ⟨e, ?_⟩
  refine ⟨y, _, I.lset (its' := its.eraseIdx k) hH e ?_ (r.eraseIdx k) ?_, rw', q⟩
  · show its.toArray.eraseIdxIfInBounds k = (its.eraseIdx k).toArray
    rw [List.eraseIdxIfInBounds_toArray]
  · have := len_erase xs k
    omega

def rCat : R2 := fun x y H Q => ∃ l b xs zs, x = .ref l ∧ y = .ref b ∧ H l = some (.lst xs) ∧ H b = some (.lst zs) ∧ xs.length + zs.length ≤ sizeLine ∧ ∀ p, H p = none → Q (.ref p) (upd H p (.lst (xs ++ zs)))
theorem op_cat : OpR X (binaryOp .Add) rCat := by
  intro pins s σ H x y v u Q I rx ry h
  obtain ⟨l, b, xs, zs, rfl, rfl, hH, hB, hz, q⟩ := h
  cases rx
  cases ry
  obtain ⟨z, its, n, r, hl, e⟩ := I.lstM hH
  obtain ⟨z2, its2, n2, r2, hl2, e2⟩ := I.lstM hB
  refine PySem.P.add_list e e2 ?_ (by rw [List.size_toArray, List.size_toArray]; omega)
  have ea : its.toArray ++ its2.toArray = (its ++ its2).toArray := by simp
  rw [ea]
  exact ⟨.ref _, _, I.lnew (t' := s.toks) (r.append r2) (by rw [List.length_append]; omega), rfl, q _ I.fresh⟩
/-- a list times an int (a negative one is nothing) -/
def rRep : R2 := fun x y H Q => ∃ l k xs, x = .ref l ∧ y = .int k ∧ H l = some (.lst xs) ∧ -(2 ^ 63) ≤ k ∧ k < 2 ^ 63 ∧ xs.length * k.toNat ≤ sizeLine ∧
  ∀ p, H p = none → Q (.ref p) (upd H p (.lst (List.replicate k.toNat xs).flatten))
theorem len_rep {α : Type} (xs : List α) (k : Nat) : (List.replicate k xs).flatten.length = k * xs.length := by
  induction k with
  | zero => simp
  | succ k ih => rw [List.replicate_succ, List.flatten_cons, List.length_append, ih, Nat.succ_mul, Nat.add_comm]
theorem op_rep : OpR X (binaryOp .Mult) rRep := by
  intro pins s σ H x y v u Q I rx ry h
  obtain ⟨l, k, xs, rfl, rfl, hH, h1, h2, hz, q⟩ := h
  cases rx
  obtain ⟨t, rfl⟩ := ry
  obtain ⟨z, its, n, r, hl, e⟩ := I.lstM hH
  have hlen : its.toArray.size * k.toNat ≤ sizeLine := by rw [List.size_toArray, ← hl]; exact hz
  have hcap : ¬ its.toArray.size * k.toNat > (2 ^ 63 - 1) / 8 := by
    have : (sizeLine : Nat) ≤ (2 ^ 63 - 1) / 8 := by decide
    omega
  have hfit : ¬ (!Builtin.List.listFitsIndex k) = true := by
    rw [fitsIndex_both h1 h2]
    exact Bool.false_ne_true
  have hlong : ¬ Builtin.List.listTooLong (its.toArray.size * k.toNat) = true := by
    rw [notLongL hlen]
    exact Bool.false_ne_true
  have hnew : List.foldl (fun x1 x2 => x1 ++ x2) #[] (List.replicate (if its.toArray.isEmpty = true then 0 else k.toNat) its.toArray) = (List.replicate k.toNat its).flatten.toArray := by
    have f0 : ∀ m : Nat, List.foldl (fun x1 x2 => x1 ++ x2) #[] (List.replicate m its.toArray) = (List.replicate m its).flatten.toArray := fun m => by
      have := foldl_rep its m []
      rw [List.nil_append] at this
      exact this
    rw [f0]
    cases its with
    | nil => simp
    | cons a r' => rw [if_neg (by simp)]
  refine wpAny_binaryOp_repeat_ref (T := "list") (U := "int") (by decide) ⟨_, e, rfl⟩ (fun s' => typeIs_int s' k t) noFill_list_mul F.fills_int_mul F.slot_int_rmul repeat_list F.slot_int_index.lookup
    (call_meets F.slot_int_rmul (typeIs_int s k t) F.entry_int_rmul (F.args_int_rmul_2 _ _) (int___rmul___int_list k t l its.toArray n)
      ⟨e, rfl, ⟨_, e, rfl⟩, call_meets F.slot_list_mul ⟨_, e, rfl⟩ F.entry_list_mul (F.args_list_mul_2 _ _) (AutoListH.list___mul___list_int_3 l its.toArray n k t hfit hcap hlong) ⟨e, ?_⟩⟩)
  rw [hnew]
  exact ⟨.ref _, _, I.lnew (t' := s.toks) (r.rep k.toNat) (by rw [len_rep, Nat.mul_comm]; exact hz), rfl, q _ I.fresh⟩

end

section
variable {prog : Program} {w : World} {A : Around} {E : Value → Shared → Prop} {s : Shared}
end

section
variable {X : Cx}
end
end L2

namespace Att
open PySem PySem.W PySem.Calls PyProof.Rows

theorem ints_of_wellAll {P : Params} {h : Heap} : ∀ (ns : List Int) (vs : List Value), WellAll P h vs (ns.map WData.int) → IntsAre vs ns := by
  intro ns
  induction ns with
  | nil =>
    intro vs w
    rw [List.map_nil] at w
    cases w
    exact .nil
  | cons n ns ih =>
    intro vs w
    rw [List.map_cons] at w
    cases w with
    | cons a b =>
      cases a
      exact .cons _ _ (ih _ b)

theorem script_of {l : OpenLaw} {n : Nat} (hn : l.most = some n) {P : Params} {h : Heap} {args : List WData} {vals : List Value}
    (hpre : l.row.toRowW.claim.pre args = true) (hwl : WellAll P h vals args) :
    ∃ a vs ns, vals = [Value.ref a] ∧ args = [WData.list (ns.map WData.int)] ∧ h.get? a = some { cls := .type "list", data := .seq vs.toArray } ∧ IntsAre vs ns ∧ ns.length ≤ n := by
  have hsh : WShape.hasAll [] args [.list .int] = true := (pre_splitW hpre).1
  have hc : l.pre.holds [] { args := args } = true := (pre_splitW hpre).2
  obtain ⟨d, r, rfl, h1, h2⟩ := hasAllW_cons hsh
  obtain rfl := hasAllW_nil h2
  obtain ⟨xs, rfl, h3⟩ := hasW_list h1
  obtain ⟨ns, rfl⟩ := items_int h3
  have hlen : ns.length ≤ n := by
    unfold OpenLaw.pre at hc
    have h4 : (WTm.not (.lt (.lit (.int (n : Int))) (.len (.arg 0)))).holds [] { args := [.list (ns.map .int)] } = true := by
      have h4 := (holds_andW hc).1
      rw [hn] at h4
      exact h4
    have h5 := condW_of h4 (w_not (w_lt w_lit (w_len_list (w_arg rfl))))
    rw [List.length_map] at h5
    refine Nat.le_of_not_lt fun q => ?_
    have q' : (n : Int) < ((ns.length : Nat) : Int) := by omega
    first
      | (rw [decide_eq_true q'] at h5; exact absurd h5 (by decide))
      | (simp at h5; omega)
  cases hwl with
  | cons w1 w2 =>
    cases w2
    cases w1 with
    | list ho hall => exact ⟨_, _, ns, rfl, rfl, ho, ints_of_wellAll ns _ hall, hlen⟩

theorem post_true (l : OpenLaw) (args : List WData) : l.row.toRowW.claim.post args (.bool true) args = true :=
  postW_of (r := l.row.toRowW) (X := (true == true))
    (show WShape.has [] (.bool true) .bool = true by first | rfl | decide | simp [WShape.has, WShape.arms, WShape.armsAll])
    (show (WTm.eq .res (.lit (.bool true))).value [] { args := args, res := some (.bool true), after := args } = some (.bool (true == true)) from w_eq_bool (w_res rfl) w_lit) rfl

/-- the same from a codeAny of the CALL (for a layer whose function contracts speak of calls) -/
theorem attach_call {l : OpenLaw} {n : Nat} {q : Program} {loose : List Str} {XP : (Str → Option Value) → Heap → Prop} {YP : World → Heap → Prop} {d : DefRec}
    (hn : l.most = some n) (hdf : d.params.defaults = [])
    (call : ∀ (w : World) (s₀ s₁ : Shared) (mg mb : Str → Option Value) (fa : Addr) (o : Obj) (pm cd doc : Value) (a : Addr) (vs : List Value) (ns : List Int),
      Ground q loose [] XP w s₀ mg mb s₁.heap → YP w s₁.heap →
      s₁.heap.get? fa = some o → o.data = .func (docDef d.name d.params d.body d.scope pm cd doc) → s₁.heap.CodeRec cd d.name → mg d.name = some (.ref fa) →
      s₁.heap.get? a = some { cls := .type "list", data := .seq vs.toArray } → IntsAre vs ns → ns.length ≤ n → s₁.gens = #[] →
      codeAny (model l.prog w) callerA (.call (.ref fa) ⟨[.ref a], []⟩) (fun r s' => r = .ok (.ret (.bool true)) ∧ OldK s₁.heap s'.heap ∧ s'.os = s₁.os ∧ AllBare s'.gens) s₁) :
    WalkO q loose XP YP l.row.toRowW d [] (fun f vs => PySem.call f vs) := by
  intro w s₀ s₁ mg mb G Y fa o pm cd doc dV kV ho hd hcd hD hmg hg args vals as hpre hlay hrd hwl hlo
  obtain rfl : dV = .none := Dflts.none hD hdf
  obtain rfl : kV = .none := Dflts.noKw hD
  obtain ⟨a, vs, ns, rfl, rfl, hobj, hints, hlen⟩ := script_of hn hpre hwl
  refine enter_call (codeAny_mono (call w s₀ s₁ mg mb fa o pm cd doc a vs ns G Y ho (fd_plain hd) hcd hmg hobj hints hlen hg) fun r s' hq => ?_)
  obtain ⟨rfl, h2, h3, h4⟩ := hq
  exact ⟨.inl ⟨.bool true, .bool true, [], rfl, fun _ => rfl, .bool true, post_true l _, fun _ => ⟨List.Pairwise.nil, fun _ hm => (nomatch hm)⟩⟩, h2, h3, h4⟩

section
variable {prog : Program} {w : World} {A : Around} {E : Value → Shared → Prop} {s : Shared} {K : Frag}

end
end Att

namespace L2
open PySem PySem.Spec PyProof.Rows

theorem vals_ints : ∀ {vs : List Value} {ns : List Int}, IntsAre vs ns → Vals (ns.map V.int) vs
  | _, _, .nil => .nil
  | _, _, .cons n t h => .cons ⟨t, rfl⟩ (vals_ints h)

/-- nothing is tracked but the script, known to the object (or it is an object of the module) -/
def Only (H : Hp) : Prop := ∀ b, H b = none ∨ ∃ o xs, H b = some (.frz o (.lst xs))

/-- THE HEAD: the law's promise, at the heap behind the top. F, the promise of the law's def, may use that base is part of the heap (so K.In base, base.Ns mainGlobals mg stand in Mod) -/
theorem law_call {P : Program} {w : World} {K : PySem.W.Frag} {mg mb : Str → Option Value} {CX : CXT} {k : Nat} {fa a : Addr} {fd : FuncData} {x : Str} {sp : Sp} {s₁ : Shared} {vs : List Value} {ns : List Int}
    (KX : K.In s₁.heap) (hns : s₁.heap.Ns mainGlobals mg) (hb : s₁.heap.Ns builtinsNs mb) (hbb : ∀ x : Str, x ≠ "__name__" → mb x = bootBuiltins x) (hlim : s₁.heap.NoLimit) (hg : s₁.gens = #[])
    (ha : s₁.heap.get? a = some { cls := .type "list", data := .seq vs.toArray }) (hi : IntsAre vs ns) (hl : ns.length ≤ sizeLine) (hr : Room k callerA)
    (F : ∀ base : Heap, K.In base → base.Ns mainGlobals mg → FnOk P w K mg base CX k fa fd [x] sp) (hbind : ∀ (s : Shared) (u : Value), BindsTo s fd ⟨[u], []⟩ [(x, u)])
    (hsp : ∀ H : Hp, Only H → SqL K H a (ns.map V.int) → sp [.ref a] H (fun v _ => v = .bl true) fun _ _ _ => False)
    (hCX : ∀ H e s', CX [] H s₁ (fun _ _ _ => False) e s' → False) :
    codeAny (model P w) callerA (.call (.ref fa) ⟨[.ref a], []⟩) (fun r s' => r = .ok (.ret (.bool true)) ∧ OldK s₁.heap s'.heap ∧ s'.os = s₁.os ∧ AllBare s'.gens) s₁ := by
  have rv := vals_ints hi
  have lenV := hi.length
  -- from an abstract heap in which nothing but the script may be tracked
  have core : ∀ H : Hp, Only H → SqL K H a (ns.map V.int) → HOk P w H s₁.heap → (∀ b, H b ≠ none → b = a) → (H a ≠ none → K.lookup a = none) →
      codeAny (model P w) callerA (.call (.ref fa) ⟨[.ref a], []⟩) (fun r s' => r = .ok (.ret (.bool true)) ∧ OldK s₁.heap s'.heap ∧ s'.os = s₁.os ∧ AllBare s'.gens) s₁ := by
    intro H hO hS hok hA hK
    have base_of : ∀ {b : Addr} {o : Obj}, s₁.heap.get? b = some o → H b = none → (hidT s₁.heap H).get? b = some o := fun e n => hidT_get e n
    have noA : ∀ {b : Addr} {o : Obj} {es : Array DictEntry} {ep : Nat}, s₁.heap.get? b = some o → o.data = .dict es ep → H b = none := fun {b o es ep} e d => by
      cases q : H b with
      | none => rfl
      | some u =>
        have e' : b = a := hA b (by rw [q]; simp)
        subst e'
        rw [ha] at e; cases e
        have d' : Data.seq vs.toArray _ = Data.dict es ep := d
        cases d'
    have nsK : ∀ {b : Addr} {m : Str → Option Value}, s₁.heap.Ns b m → (hidT s₁.heap H).Ns b m := fun {b m} ⟨o, es, ep, e, d, r⟩ => ⟨o, es, ep, base_of e (noA e d), d, r⟩
    have hKb : K.In (hidT s₁.heap H) := fun b o e => base_of (KX b o e) (by
      cases q : H b with
      | none => rfl
      | some u =>
        have e' : b = a := hA b (by rw [q]; simp)
        subst e'
        rw [hK (by rw [q]; simp)] at e; cases e)
    have hM : Mod K mg (hidT s₁.heap H) := ⟨hKb, nsK hns, ⟨mb, nsK hb, hbb⟩, let ⟨mc, h1, h2⟩ := hlim; ⟨mc, nsK h1, h2⟩⟩
    have e0 : Env0 P w K mg (hidT s₁.heap H) callerA [] s₁ H := ⟨rfl, hM, fun b o e => of_hidT e, Nat.le_of_eq (hidT_size _ _), trivial, fun b hb => absurd (show b ∈ ([] : List Addr) from hb) (by simp), hok, .of_eq hg⟩
    refine codeAny_mono ((F _ hKb (nsK hns)).run callerA [] s₁ H ⟨[.ref a], []⟩ [.ref a] [.ref a] _ _ hr e0 (hbind s₁ (.ref a)) (.cons rfl .nil) (hsp H hO hS)) fun r s' h => ?_
    cases r with
    | error e => exact (hCX H e s' h).elim
    | ok fl =>
      cases fl with
      | next => exact False.elim h
      | brk => exact False.elim h
      | cont => exact False.elim h
      | ret u =>
        obtain ⟨v, H', os, bare, un, hok', r', q⟩ := h
        have q' : v = .bl true := q
        subst q'
        obtain rfl : u = Value.bool true := r'
        refine ⟨rfl, OldK.of_keep fun b o e => ?_, os, bare⟩
        cases q : H b with
        | none => exact un.keep b o e q (by intro z; exact absurd (show b ∈ ([] : List Addr) from z) (by simp)) (by simp)
        | some u =>
          rcases hO b with z | ⟨ob, xs, z⟩
          · rw [q] at z; cases z
          · have z2 := un.frzs b ob _ z
            obtain ⟨e1, _⟩ := hok b _ z
            obtain ⟨e2, _⟩ := hok' b _ z2
            rw [e] at e1; cases e1
            exact e2
  cases hk : K.lookup a with
  | some o =>
    -- the script is one of the module's own objects
    have e := KX a o hk
    rw [ha] at e
    cases e
    refine core (fun _ => none) (fun _ => .inl rfl) (.inr ⟨_, vs.toArray, _, hk, rfl, rfl, rfl, by rw [List.size_toArray, lenV]; exact hl, by simpa using rv⟩) (fun b u z => by have z' : (none : Option HO) = some u := z; cases z') (fun b z => absurd rfl z) fun z => absurd rfl z
  | none =>
    refine core (fun b => if b = a then some (.frz { cls := .type "list", data := .seq vs.toArray } (.lst (ns.map V.int))) else none) (fun b => ?_) (.inl (.inr ⟨{ cls := .type "list", data := .seq vs.toArray }, if_pos rfl⟩)) (fun b u z => ?_) (fun b z => ?_) fun _ => hk
    · by_cases hb : b = a
      · exact .inr ⟨_, _, if_pos hb⟩
      · exact .inl (if_neg hb)
    · by_cases hb : b = a
      · have z' := (if_pos hb).symm.trans z
        cases z'
        subst hb
        exact ⟨ha, by rw [List.length_map]; exact hl, vs, _, rv, ha⟩
      · have z' := (if_neg hb).symm.trans z
        cases z'
    · by_cases hb : b = a
      · exact hb
      · exact absurd (if_neg hb) z
end L2

namespace L2
open PySem PySem.Spec PyProof.Rows

/-- the goal that k_head leaves (case hc), from the law's promise. F gives the function object fd (K's own) once, then the promise over every base -/
theorem walk_of {l : PySem.W.OpenLaw} {n k : Nat} {q : Program} {loose : List Str} {XP : (Str → Option Value) → Heap → Prop} {YP : World → Heap → Prop} {d : DefRec} {K : Params → PySem.W.Frag} {CX : World → CXT} {sp : World → Sp} {x : Str}
    (hn : l.most = some n) (hn2 : n ≤ sizeLine) (hdf : d.params.defaults = []) (hr : Room k callerA)
    (hY : ∀ (w : World) (h : Heap), YP w h → (K w.params).In h)
    (F : ∀ (w : World) (mg : Str → Option Value) (fa : Addr) (h : Heap), (K w.params).In h → h.Ns mainGlobals mg → mg d.name = some (.ref fa) →
      ∃ fd : FuncData, (∀ (s : Shared) (u : Value), BindsTo s fd ⟨[u], []⟩ [(x, u)]) ∧
        ∀ base : Heap, (K w.params).In base → base.Ns mainGlobals mg → FnOk l.prog w (K w.params) mg base (CX w) k fa fd [x] (sp w))
    (hsp : ∀ (w : World) (H : Hp) (a : Addr) (ns : List Int), ns.length ≤ n → Only H → SqL (K w.params) H a (ns.map V.int) → sp w [.ref a] H (fun v _ => v = .bl true) fun _ _ _ => False)
    (hCX : ∀ (w : World) (H : Hp) (s : Shared) (e : Value) (s' : Shared), CX w [] H s (fun _ _ _ => False) e s' → False) :
    PySem.W.WalkO q loose XP YP l.row.toRowW d [] (fun f vs => PySem.call f vs) := by
  refine Att.attach_call hn hdf fun w s₀ s₁ mg mb fa o pm cd doc a vs ns G Y ho hd hcd hmg hobj hints hlen hg => ?_
  have KX := hY w _ Y
  obtain ⟨fd, hb, hF⟩ := F w mg fa _ KX G.T.g hmg
  exact law_call KX G.T.g G.T.b G.T.builtins G.T.nolimit hg hobj hints (Nat.le_trans hlen hn2) hr hF hb (fun H hO hS => hsp w H a ns hlen hO hS) fun H e s' => hCX w H s₁ e s'
end L2

namespace L2
open PySem PySem.Spec PyProof.Rows

/-- the j-th statement of a class's body -/
def inClass (s : Stmt) (j : Nat) : Stmt := match s with
  | .ClassDef _ _ _ body _ _ _ _ _ _ _ => body.getD j (.Pass ⟨0, 0, 0, 0⟩)
  | _ => .Pass ⟨0, 0, 0, 0⟩
def defArgs (s : Stmt) : Arguments := match s with
  | .FunctionDef _ a _ _ _ _ _ _ _ _ => a
  | _ => { posonlyargs := [], args := [], vararg := none, kwonlyargs := [], kw_defaults := [], kwarg := none, defaults := [] }
def defBody (s : Stmt) : List Stmt := match s with
  | .FunctionDef _ _ b _ _ _ _ _ _ _ => b
  | _ => []
def defScope (s : Stmt) : Scope := match s with
  | .FunctionDef _ _ _ _ _ _ sc _ _ _ => sc
  | _ => { kind := .function, names := [], isGenerator := false, isCoroutine := false }

abbrev CX0 : CXT := fun _ _ _ _ _ _ => False
abbrev E0 : XK := fun _ _ _ => False
theorem pass0 {X : Cx} : Passes CX0 X E0 := fun _ _ _ _ _ _ _ h => h.elim

structure Fun (K : PySem.W.Frag) (x qual : Str) (st : Stmt) (f : Addr) (fd : FuncData) : Prop where
  ex : ∃ (oc : Value) (od : Option Addr) (kV doc pm : Value) (an : Option Addr) (cdv ct : Value) (osl : Array (Option Value)),
    fd = PySem.W.fnOf x qual (defArgs st) (defBody st) (defScope st) .none kV doc pm an cdv ct ∧ K.lookup f = some ⟨oc, od, .func fd, osl⟩ ∧ PySem.W.codeIn K cdv qual = true
  kp : PySem.W.keepIn K (.ref f) = true
section
variable {P : Program} {w : World} {K : PySem.W.Frag} {mg : Str → Option Value} {base : Heap}
/-- THE RULE for a def: its body as a term of rules, and the reading of that term -/
theorem Fun.ok {x qual : Str} {st : Stmt} {f : Addr} {fd : FuncData} {N ps : List Str} {k : Nat} {sp : Sp} (F : Fun K x qual st f fd) (S : FnScope N ps (defScope st)) (len : ∀ vs H Q E, sp vs H Q E → vs.length = ps.length)
    (hbody : ∀ (cdv : Value) (A : Around) (outer : List Env) (s : Shared) (H : Hp) (vs : List V) (Q : VK) (E : XK), Room k (A.deeper (envOfC qual (defScope st) s.heap.objs.size f cdv)) → sp vs H Q E →
      ∃ t, PSs (cxOf CX0 P w K mg base N qual (defScope st) f cdv A outer s H E).nox (defBody st) t ∧ t { nx := fun _ H' => Q .non H', rt := Q } (start N vs) H) : FnOk P w K mg base CX0 (k + 1) f fd ps sp := by
  obtain ⟨oc, od, kV, doc, pm, an, cdv, ct, osl, rfl, lk, hcd⟩ := F.ex
  refine fn_of lk hcd S len fun A outer s H vs Q E hr hsp => ?_
  obtain ⟨t, h, q⟩ := hbody cdv A outer s H vs Q E hr hsp
  exact ⟨t, h.nox, q⟩
/-- how its arguments bind (no defaults): h is «fun _ _ _ _ _ _ us hl => match us, hl with | [_, _], _ => rfl», one _ a parameter -/
theorem Fun.binds {x qual : Str} {st : Stmt} {f : Addr} {fd : FuncData} {ps : List Str} (F : Fun K x qual st f fd)
    (h : ∀ (kV doc pm : Value) (an : Option Addr) (cdv ct : Value) (us : List Value), us.length = ps.length → bindArgs (PySem.W.fnOf x qual (defArgs st) (defBody st) (defScope st) .none kV doc pm an cdv ct) ⟨us, []⟩ = pure (ps.zip us)) : Binds K fd ps [] := by
  obtain ⟨oc, od, kV, doc, pm, an, cdv, ct, osl, rfl, lk, hcd⟩ := F.ex
  exact .all (h kV doc pm an cdv ct)
theorem fun_mk {x qual : Str} {st : Stmt} {f : Addr} {oc : Value} {od an : Option Addr} {osl : Array (Option Value)} {kV doc pm cdv ct : Value} (l : K.lookup f = some ⟨oc, od, .func (PySem.W.fnOf x qual (defArgs st) (defBody st) (defScope st) .none kV doc pm an cdv ct), osl⟩)
    (c : PySem.W.codeIn K cdv qual = true) (k : PySem.W.keepIn K (.ref f) = true) : Fun K x qual st f (PySem.W.fnOf x qual (defArgs st) (defBody st) (defScope st) .none kV doc pm an cdv ct) := ⟨⟨oc, od, kV, doc, pm, an, cdv, ct, osl, rfl, l, c⟩, k⟩
end
theorem hu_of {A : Around} {k : Nat} (hr : Room k A) : A.units + 1 < cLine := Nat.lt_of_le_of_lt (Nat.add_le_add_left (by decide : 1 ≤ 64) _) hr.units
section
variable {X : Cx}
theorem pv (i : Nat) {x : Str} {pos : Pos} (hN : X.N[i]? = some x := by rfl) (hv : Vis X.env.scope x := by first | exact Or.inl rfl | exact Or.inr (Or.inl rfl) | exact Or.inr (Or.inr rfl)) (hd : (x == ("__debug__" : Str)) = false := by decide)
    (hcd : (x == ("__classdict__" : Str)) = false := by decide) : PE X (.Name x pos) (tVar i) := pe_var hN hv hd hcd
end

theorem iteF {A B : Prop} (h : B) : if false = true then A else B := by
  rw [if_neg Bool.false_ne_true]
  exact h
theorem iteT {A B : Prop} (h : A) : if true = true then A else B := by
  rw [if_pos rfl]
  exact h
theorem ite2 {c A B : Prop} [Decidable c] (h1 : c → A) (h2 : ¬ c → B) : if c then A else B := by
  by_cases h : c
  · rw [if_pos h]
    exact h1 h
  · rw [if_neg h]
    exact h2 h
/-- all that was tracked is as it was -/
def Same (H H' : Hp) : Prop := ∀ b o, H b = some o → H' b = some o
theorem Same.refl (H : Hp) : Same H H := fun _ _ h => h
theorem Same.trans {H H1 H2 : Hp} (a : Same H H1) (b : Same H1 H2) : Same H H2 := fun c o h => b c o (a c o h)
theorem Same.free {H H' : Hp} (e : Same H H') {l : Addr} (h : H' l = Option.none) : H l = Option.none := by
  cases q : H l with
  | none => rfl
  | some o =>
    rw [e l o q] at h
    cases h
end L2

namespace L2
open PySem PySem.Spec PyProof.Rows

/-- the context of the block: the target's slot is 0, the captured names follow -/
def cxC (X : Cx) (NC : List Str) (scope : Scope) (cl : List (Str × Addr)) (C : Addr) (s₀ : Shared) (H₀ : Hp) (ex : List Addr) : Cx where
  prog := X.prog
  w := X.w
  K := X.K
  mg := X.mg
  base := X.base
  A := X.A
  N := NC
  s₀ := s₀
  H₀ := H₀
  env := compEnvC scope cl C X.env
  outer := X.stack
  stack := X.stack
  ex := ex
  fn := fun _ => false
  calm := X.calm
  pn := []
  xe := fun _ _ => False

def capN (t : Str) (caps : List (Str × Nat)) : List Str := t :: caps.map (·.1)
def capS (caps : List (Str × Nat)) (σ : St) (v : Option V) : St := v :: caps.map fun p => (σ[p.2]?).join

structure CapOk (X : Cx) (scope : Scope) (cl : List (Str × Addr)) (t : Str) (caps : List (Str × Nat)) : Prop where
  kind : scope.kind = .function
  nocell : ∀ y ∈ scope.names, y.2 ≠ .cell
  names : ∀ y ∈ scope.names, y.2 = .local → scope.names.lookup y.1 = some .local
  tgt : scope.names.lookup t = some .local
  clos : closureFor scope X.env = pure cl
  sub : ∀ p ∈ cl, X.env.cells.lookup p.1 = some p.2
  has : ((relabel scope X.env).names.all fun y => !(y.2 == .cell || y.2 == .free) || (cl.lookup y.1).isSome) = true
  cap : ∀ p ∈ caps, X.N[p.2]? = some p.1 ∧ (X.env.kindOf p.1 = some .cell ∨ X.env.kindOf p.1 = some .free) ∧ ((relabel scope X.env).names.lookup p.1 = some .cell ∨ (relabel scope X.env).names.lookup p.1 = some .free)
  nd : (capN t caps).Nodup

section
variable {X : Cx} {scope : Scope} {cl : List (Str × Addr)} {t : Str} {caps : List (Str × Nat)} {pins : List (Addr × Obj)} {σ : St} {H : Hp} {s : Shared} {C : Addr} {fp : List Addr}
theorem CapOk.look (K : CapOk X scope cl t caps) {x : Str} {c : Addr} (h : cl.lookup x = some c) : X.env.cells.lookup x = some c := K.sub (x, c) (PySem.mem_of_lookup h)
theorem CapOk.hs (K : CapOk X scope cl t caps) {x : Str} (h : (relabel scope X.env).names.lookup x = some .cell ∨ (relabel scope X.env).names.lookup x = some .free) : ∃ c, cl.lookup x = some c := by
  have go : ∀ k, (relabel scope X.env).names.lookup x = some k → (k == NameKind.cell || k == NameKind.free) = true → ∃ c, cl.lookup x = some c := fun k e hk => by
    have := List.all_eq_true.mp K.has (x, k) (PySem.mem_of_lookup e)
    dsimp only at this
    rw [hk] at this
    exact Option.isSome_iff_exists.mp (by simpa using this)
  rcases h with h | h
  · exact go _ h rfl
  · exact go _ h rfl

theorem okC (I : Inv X pins σ H s) (K : CapOk X scope cl t caps) (hf : ∀ b ∈ fp, FpOk X pins H b) (ho : ∀ b ∈ fp, b < s.heap.objs.size) (hC : s.heap.objs.size ≤ C) : (cxC X (capN t caps) scope cl C s H fp).Ok where
  mod := I.ok.mod
  kind := K.kind
  glob := I.ok.glob
  blt := I.ok.blt
  above := hC
  inj := fun x y c h1 h2 => I.ok.inj x y c (K.look h1) (K.look h2)
  has := fun x hx => K.hs hx
  cab := fun x c h => nomatch (show false = true from h)
  hd := I.ok.hd
  frames := I.ok.frames
  stk := .inl rfl
  exf := fun b hb => ⟨Nat.ne_of_lt (Nat.lt_of_lt_of_le (ho b hb) hC), fun x c e => (hf b hb).2.2.2.2.1 x c (K.look e)⟩
  bs := I.bs
  bsz := Nat.le_trans I.ok.bsz I.sz
  noex := fun b o e hb => by
    rcases (hf b hb).2.2.2.1 with z | z
    · exact I.ok.noex b o e z
    · exact absurd (Nat.lt_of_lt_of_le (Heap.lt_size e) (Nat.le_trans I.ok.bsz z)) (Nat.lt_irrefl _)
  exfs := fun b hb hfs => by
    rcases List.mem_cons.mp (I.stkSub b hfs) with e | e
    · exact (hf b hb).2.1 e
    · exact (hf b hb).2.2.1 e
  funs := I.stack
  frf := I.stkFree

theorem invC {h₁ : Heap} {m : Str → Option Value} {tk : Nat} (I : Inv X pins σ H s) (K : CapOk X scope cl t caps) (hf : ∀ b ∈ fp, FpOk X pins H b) (ho : ∀ b ∈ fp, b < s.heap.objs.size) (hC : s.heap.objs.size ≤ C)
    (old : ∀ b o, s.heap.get? b = some o → h₁.get? b = some o) (ns : h₁.Ns C m) : Inv (cxC X (capN t caps) scope cl C s H fp) [] (capS caps σ none) H { s with heap := h₁, toks := tk } := by
  have cellK : ∀ c v, s.heap.IsCell c v → h₁.IsCell c v := fun c v ⟨o, e, d⟩ => ⟨o, old c o e, d⟩
  refine ⟨okC I K hf ho hC, rfl, I.bare, Un.kept old, ⟨m, ns, fun i x v e1 e2 e3 => ?_⟩, fun x c e => ?_, I.hok.fresh hC, fun x c e => I.freeC x c (K.look e), fun p hp => absurd (show p ∈ ([] : List (Addr × Obj)) from hp) (by simp), I.hok.kept old, by simp [capS, capN, cxC]⟩
  · cases i with
    | zero =>
      have e2' : some (none : Option V) = some (some v) := e2
      cases e2'
    | succ j =>
      have e1' : (caps.map (·.1))[j]? = some x := e1
      have e2' : (caps.map fun p => (σ[p.2]?).join)[j]? = some (some v) := e2
      rw [List.getElem?_map] at e1' e2'
      cases hp : caps[j]? with
      | none => rw [hp] at e1'; cases e1'
      | some p =>
        rw [hp] at e1' e2'
        have ex : p.1 = x := Option.some.inj e1'
        have ev : (σ[p.2]?).join = some v := Option.some.inj e2'
        have ev' : σ[p.2]? = some (some v) := by
          cases q : σ[p.2]? with
          | none => rw [q] at ev; cases ev
          | some z => rw [q] at ev; exact congrArg some ev
        obtain ⟨hN, hk, hk'⟩ := K.cap p (List.mem_of_getElem? hp)
        subst ex
        obtain ⟨m', _, hl⟩ := I.loc
        have vis : Vis X.env.scope p.1 := by
          rcases hk with z | z
          · exact .inr (.inl z)
          · exact .inr (.inr z)
        obtain ⟨u, r, l⟩ := hl p.2 p.1 v hN ev' vis
        obtain ⟨c, hc⟩ := K.hs hk'
        rcases l with ⟨z, _⟩ | ⟨_, c', hc', hcell⟩
        · rcases hk with y | y <;> (rw [y] at z; cases z)
        · rw [K.look hc] at hc'
          cases hc'
          exact ⟨u, r, .inr ⟨hk', c, hc, cellK c _ hcell⟩⟩
  · obtain ⟨v, z⟩ := I.cell x c (K.look e)
    exact ⟨v, cellK c v z⟩

/-- an untracked list of ours is tracked from now on -/
theorem Inv.track {D : Addr} {ys : List V} {its : List Value} {n : Nat} (I : Inv X pins σ H s) (f : FpOk X pins H D) (e : s.heap.get? D = some { cls := .type "list", data := .seq its.toArray n }) (r : Vals ys its) (hz : ys.length ≤ sizeLine) :
    Inv X pins σ (upd H D (.lst ys)) s := by
  obtain ⟨f0, f1, f2, f3, f4, f5⟩ := f
  obtain ⟨hh, g, d, tk, os⟩ := s
  refine I.step (g' := g) (d' := d) (t' := tk) (h' := hh) (ch := [D]) (fun b hb => ?_) (fun b o _ _ _ e _ => e) (fun b o _ _ _ e _ => ⟨o.slots, e⟩) (fun b o hb _ n => ?_) (fun b o _ e => ⟨o, e⟩) (fun b xs q => ?_) (fun b o u q => ?_) (fun b ps q => ⟨#[], ?_⟩) (fun m hm => hm) (fun b u q => ?_) I.bare
  · have z : b = D := by simpa using hb
    subst z
    exact ⟨f3, f1, f4, f5⟩
  · rw [upd_ne (fun z => hb (by simp [z]))]; exact n
  · rw [upd_ne (ne_of_none q f0)]; exact q
  · rw [upd_ne (ne_of_none q f0)]; exact q
  · rw [upd_ne (ne_of_none q f0), q]; simp
  · by_cases hb : b = D
    · subst hb
      rw [upd_same] at q
      cases q
      exact ⟨hz, its, n, r, e⟩
    · rw [upd_ne hb] at q
      exact (I.hok b u q).stay (fun _ _ _ z => z) (fun c z => by rw [upd_ne (ne_of_none z f0)]; exact z) fun c xs z => by rw [upd_ne (ne_of_none z f0)]; exact z
end

def PTs (X : Cx) (ifs : List Expr) (t : TT) : Prop :=
  ∀ (pins : List (Addr × Obj)) (s : Shared) (σ : St) (H : Hp) (Q : Bool → Hp → Prop), Inv X pins σ H s → t σ H Q →
    wpAny (model X.prog X.w) X.A (forIn ifs true fun c r => if r = true then do let ok ← isTrue c X.env (eval c X.env); pure (ForInStep.yield ok) else pure (ForInStep.yield r)) (TP X pins σ Q) X.xe s
def tYes : TT := fun _ H Q => Q true H
theorem pts_nil {X : Cx} : PTs X [] tYes := fun _ _ _ H _ I h => wpAny_tests_nil ⟨H, I, h⟩
theorem pts_one {X : Cx} {c : Expr} {t : TT} (h : PT X c t) : PTs X [c] t := fun pins s σ H Q I q => wpAny_tests_one (h pins s σ H Q I q)

/-- what the block's turns want: W by the turn, a measure, the items so far -/
def CompW (caps : List (Str × Nat)) (tt : TT) (te : TE) (σ : St) (J : It) (Q : List V → Hp → Prop) (W : Nat → Nat → List V → Hp → Prop) : Prop :=
  ∀ i m ys H, W i m ys H → (J.stop i H ∧ Q ys H) ∨ (J.go i H ∧ ∃ N : List V → Hp → Prop, (∀ ys' H', N ys' H' → ∃ m', m' < m ∧ W (i + 1) m' ys' H') ∧ ∀ x H', J.yld i H x H' → tt (capS caps σ (some x)) H' fun b H2 =>
    if b = true then te (capS caps σ (some x)) H2 (fun y H3 => ys.length < sizeLine ∧ N (ys ++ [y]) H3) else N ys H2)
def tComp (caps : List (Str × Nat)) (wi : TI) (tt : TT) (te : TE) : TE := fun σ H Q => wi σ H fun J H1 =>
  ∃ W : Nat → Nat → List V → Hp → Prop, (∃ m, W 0 m [] H1) ∧ CompW caps tt te σ J (fun ys H2 => ∀ p, H2 p = none → Q (.ref p) (upd H2 p (.lst ys))) W

section
variable {X : Cx} {scope : Scope} {cl : List (Str × Addr)} {t : Str} {caps : List (Str × Nat)} {elt iter : Expr} {ifs : List Expr} {px pos : Pos} {wi : TI} {tt : TT} {te : TE}

theorem comp_block {pins : List (Addr × Obj)} {σ : St} {H : Hp} {s : Shared} {J : It} {fp : List Addr} {it : Addr} {tn : Nat → Heap → Prop} {W : Nat → Nat → List V → Hp → Prop} {QE : List V → Hp → Prop} {E : Value → Shared → Prop} {RR : Value → Addr → Result → Shared → Prop} {m0 : Nat}
    (K : CapOk X scope cl t caps) (hc : X.calm = true)
    (ht : ∀ C s₀ H₀ ex, PTs (cxC X (capN t caps) scope cl C s₀ H₀ ex) ifs tt) (he : ∀ C s₀ H₀ ex, PE (cxC X (capN t caps) scope cl C s₀ H₀ ex) elt te)
    (I : Inv X pins σ H s) (T : Turn X.prog X.w X.K (.Name t px) J fp it tn) (st : tn 0 s.heap) (hf : ∀ b ∈ fp, FpOk X pins H b) (w0 : W 0 m0 [] H) (hW : CompW caps tt te σ J QE W)
    (fin : ∀ D C ys H' s' m, H' D = none → Inv X pins σ (upd H' D (.lst ys)) s' → s'.heap.Ns C m → FpOk X pins (upd H' D (.lst ys)) C → QE ys H' → RR (.ref D) C (.ok .next) s') :
    wpAny (model X.prog X.w) X.A (newList []) (fun acc s₃ => wpAny (model X.prog X.w) X.A (newFunctionEnv scope X.env.globals cl [] X.env.qual none .none (some X.env)) (fun cenv s₄ =>
      codeAny (model X.prog X.w) X.A (.compStart (.ListComp elt [⟨.Name t px, iter, ifs, 0⟩] scope pos) 0 (.ref it) acc { cenv with scope := relabel scope X.env }) (RR acc cenv.locals) s₄) E s₃) E s := by
  refine wpAny_newObj_type (wpAny_newFunctionEnv K.nocell (by intro y hy; simp at hy) (fun h₁ hns₁ hsb₁ => ?_) K.kind)
  dsimp only at hns₁ hsb₁ ⊢
  generalize hH2 : s.heap.push { cls := .type "list", dict := none, data := .seq ([] : List Value).toArray } = H2 at hns₁ hsb₁ ⊢
  have hC : H2.objs.size = s.heap.objs.size + 1 := by rw [← hH2, Heap.size_push]
  have hDC : s.heap.objs.size ≠ H2.objs.size := by rw [hC]; exact Nat.ne_of_lt (Nat.lt_succ_self _)
  have hCle : s.heap.objs.size ≤ H2.objs.size := by rw [hC]; exact Nat.le_succ _
  have below : ∀ b, b < s.heap.objs.size → b ≠ H2.objs.size := fun b hb => by rw [hC]; exact Nat.ne_of_lt (Nat.lt_succ_of_lt hb)
  have old : ∀ b o, s.heap.get? b = some o → h₁.get? b = some o := fun b o e => hsb₁.extBut b o (below b (Heap.lt_size e)) (Heap.get?_push_of_some _ (hH2 ▸ Heap.get?_push_of_some _ e))
  have hacc : h₁.get? s.heap.objs.size = some { cls := .type "list", data := .seq ([] : List Value).toArray } := hsb₁.extBut _ _ hDC (Heap.get?_push_of_some _ (hH2 ▸ Heap.get?_push_size _ rfl))
  have ho : ∀ b ∈ fp, b < s.heap.objs.size := fun b hb => let ⟨_, e, _⟩ := T.obj 0 _ st b hb; Heap.lt_size e
  have hDf : s.heap.objs.size ∉ fp := fun hm => Nat.lt_irrefl _ (ho _ hm)
  have st₁ : tn 0 h₁ := T.keep 0 _ _ st fun b _ o e => old b o e
  have hDfs : s.heap.objs.size ∉ frs X.stack := fun z => by
    rcases List.mem_cons.mp (I.stkSub _ z) with e | e
    · exact absurd (e ▸ I.lt) (Nat.lt_irrefl _)
    · exact I.nofs (Nat.le_refl _) e
  have hDcell : ∀ x c, cl.lookup x = some c → c ≠ s.heap.objs.size := fun x c e z => by
    obtain ⟨v, q⟩ := I.cell x c (K.look e)
    exact absurd (z ▸ q.lt) (Nat.lt_irrefl _)
  -- what stays true of the iterator's objects
  have stat : ∀ {pl : List (Addr × Obj)} {HC : Hp}, (∀ b ∈ fp, HC b = none) → (∀ p ∈ pl, p.1 ∉ fp) → ∀ b ∈ fp, FpOk (cxC X (capN t caps) scope cl H2.objs.size s H fp) pl HC b := fun {pl HC} hn hp b hb =>
    ⟨hn b hb, below b (ho b hb), (okC I K hf ho hCle).exfs b hb, .inl hb, fun x c e => (hf b hb).2.2.2.2.1 x c (K.look e), fun p hpp z => by
      have hpp' : p ∈ pl := hpp
      exact hp p hpp' (z ▸ hb)⟩
  have loop : ∀ s₃ : Shared, s₃ = { s with heap := h₁, toks := s.toks + ([] : List (Str × Value)).length } →
      codeAny (model X.prog X.w) X.A (.compLoop (.ListComp elt [⟨.Name t px, iter, ifs, 0⟩] scope pos) 0 (.ref it) (.ref s.heap.objs.size) (compEnvC scope cl H2.objs.size X.env)) (RR (.ref s.heap.objs.size) H2.objs.size) s₃ := by
    rintro s₃ rfl
    refine codeAny_loop rfl (fun n s' => ∃ i ys its nn HC v0, Inv (cxC X (capN t caps) scope cl H2.objs.size s H fp) [] (capS caps σ v0) HC s' ∧ tn i s'.heap ∧ (∀ b ∈ fp, HC b = none) ∧ HC s.heap.objs.size = none ∧
      s'.heap.get? s.heap.objs.size = some { cls := .type "list", data := .seq its.toArray nn } ∧ Vals ys its ∧ ys.length ≤ sizeLine ∧ W i n ys HC) (fun n s' hI => ?_) m0
      ⟨0, [], [], 0, H, none, invC I K hf ho hCle old hns₁, st₁, fun b hb => (hf b hb).1, I.hok.fresh (Nat.le_refl _), hacc, .nil, Nat.zero_le _, w0⟩
    obtain ⟨i, ys, its, nn, HC, v0, I3, st3, fr3, hD3, e3, r3, z3, w3⟩ := hI
    show wpAny _ X.A ((compTurn (.ListComp elt [⟨.Name t px, iter, ifs, 0⟩] scope pos) 0 (.ref it) (.ref s.heap.objs.size) (compEnvC scope cl H2.objs.size X.env)).onRaise (fun x => do noteFrame x (compEnvC scope cl H2.objs.size X.env); theTreesLotGoes x)) _ _ s'
    refine wpAny_noted ?_
    rw [compTurn_list]
    -- the list is pinned
    have I3p : Inv (cxC X (capN t caps) scope cl H2.objs.size s H fp) [(s.heap.objs.size, { cls := .type "list", data := .seq its.toArray nn })] (capS caps σ v0) HC s' := I3.pins_of fun p hp => by
      have ep : p = (s.heap.objs.size, { cls := .type "list", data := .seq its.toArray nn }) := by simpa using hp
      subst ep
      exact ⟨e3, hD3, hDC, hDfs, fun v z => by cases (show Data.seq its.toArray nn = Data.cell v from z)⟩
    have pD : ∀ p ∈ [((s.heap.objs.size : Addr), ({ cls := .type "list", data := .seq its.toArray nn } : Obj))], p.1 ∉ fp := fun p hp => by
      have ep : p = (s.heap.objs.size, { cls := .type "list", data := .seq its.toArray nn }) := by simpa using hp
      subst ep
      exact hDf
    rcases hW i n ys HC w3 with ⟨stop, q⟩ | ⟨go, N, hN, step⟩
    · refine wpAny_bind (wpAny_standAt (wpAny_bind (thn (T.done (cxC X (capN t caps) scope cl H2.objs.size s H fp) rfl rfl rfl hc i _ s' _ HC _ I3p (stat fr3 pD) st3 stop) fun r s4 ⟨hr, I4⟩ => ?_)))
      subst hr
      refine wpAny_pure ?_
      have I5 : Inv X pins σ HC s4 := I.call' (ch := fp) I4.os I4.base I4.hok I4.bare fun b hb => ⟨(hf b hb).2.2.2.1, (hf b hb).2.1, (hf b hb).2.2.2.2.1, (hf b hb).2.2.2.2.2⟩
      have e4 := (I4.pin _ (List.mem_append_right _ List.mem_cons_self)).1
      have fD : FpOk X pins HC s.heap.objs.size := I.fpOk (Nat.le_refl _) hD3
      have I6 := I5.track fD e4 r3 z3
      obtain ⟨m, hn, _⟩ := I4.loc
      refine fin _ _ ys HC s4 m hD3 I6 hn (I.fpOk hCle ?_) q
      rw [upd_ne (Ne.symm hDC)]
      exact I4.free
    · refine wpAny_bind (wpAny_standAt (wpAny_bind (thn (T.item (cxC X (capN t caps) scope cl H2.objs.size s H fp) rfl rfl rfl hc i _ s' _ HC _ I3p (stat fr3 pD) st3 go) fun r s4 ⟨u, hr, h4⟩ => ?_)))
      subst hr
      refine wpAny_bind (thn h4 fun _ s5 ⟨x, H5, I5, r5, y5, st5, fr5⟩ => ?_)
      have hD5 := (I5.pin _ (List.mem_append_right _ List.mem_cons_self)).2.1
      have I5' := I5.pinned (stat fr5 pD) (T.obj _ _ st5)
      have nox : ∀ {α : Type} {tr : Sem α} {Q : α → Shared → Prop} {E' : Value → Shared → Prop} {sx : Shared}, wpAny (model X.prog X.w) X.A tr Q (fun _ _ => False) sx → wpAny (model X.prog X.w) X.A tr Q E' sx := fun h => wpAny_mono h (fun _ _ z => z) fun _ _ z => z.elim
      refine wpAny_bind (wpAny_assign_Name (store_ok (X := cxC X (capN t caps) scope cl H2.objs.size s H fp) (i := 0) (x := t) I5' K.nd rfl (.inl (lookup_relabel_local K.tgt)) r5 (fun s6 I6 => ?_) (.inr (lookup_relabel_local K.tgt))))
      have e0 : (capS caps σ v0).set 0 (some x) = capS caps σ (some x) := rfl
      rw [e0] at I6
      refine wpAny_bind (nox (thn (ht _ _ _ _ _ s6 _ H5 _ I6 (step x H5 y5)) fun ok s7 ⟨H7, I7, q7⟩ => ?_))
      -- what is known of the pinned objects behind any step
      have pinD : ∀ {σ' : St} {H' : Hp} {sx : Shared}, Inv (cxC X (capN t caps) scope cl H2.objs.size s H fp) ([(s.heap.objs.size, { cls := .type "list", data := .seq its.toArray nn })] ++ pinsAt fp s5.heap) σ' H' sx →
          sx.heap.get? s.heap.objs.size = some { cls := .type "list", data := .seq its.toArray nn } ∧ H' s.heap.objs.size = none ∧ tn (i + 1) sx.heap ∧ (∀ b ∈ fp, H' b = none) := fun {σ' H' sx} Ix => by
        have a := Ix.pin _ (List.mem_append_right _ (List.mem_append_left _ List.mem_cons_self))
        refine ⟨a.1, a.2.1, T.keep _ _ _ st5 fun b hb o e => (Ix.pin (b, o) (List.mem_append_right _ (List.mem_append_right _ (mem_pinsAt hb e)))).1, fun b hb => ?_⟩
        obtain ⟨o, e, d⟩ := T.obj _ _ st5 b hb
        exact (Ix.pin (b, o) (List.mem_append_right _ (List.mem_append_right _ (mem_pinsAt hb e)))).2.1
      have bare : ∀ {pl : List (Addr × Obj)} {σ' : St} {H' : Hp} {sx : Shared}, Inv (cxC X (capN t caps) scope cl H2.objs.size s H fp) pl σ' H' sx → Inv (cxC X (capN t caps) scope cl H2.objs.size s H fp) [] σ' H' sx := fun Ix => Ix.pins_of fun p hp => absurd hp (by simp)
      cases ok with
      | false =>
        rw [if_neg Bool.false_ne_true] at q7
        obtain ⟨m', hm, w7⟩ := hN _ _ q7
        obtain ⟨a1, a2, a3, a4⟩ := pinD I7
        exact wpAny_pure ⟨rfl, m', hm, i + 1, ys, its, nn, H7, some x, bare I7, a3, a4, a2, a1, r3, z3, w7⟩
      | true =>
        rw [if_pos rfl] at q7
        refine wpAny_bind (wpAny_bind (nox (thn (he _ _ _ _ _ s7 _ H7 _ I7 q7) fun y s8 ⟨yv, H8, I8, r8, hz8, n8⟩ => ?_)))
        obtain ⟨m', hm, w8⟩ := hN _ _ n8
        obtain ⟨a1, a2, a3, a4⟩ := pinD I8
        have hlen := r3.length
        refine wpAny_bind (call_meets F.slot_list_append ⟨_, a1, rfl⟩ F.entry_list_append (F.args_list_append_2 _ _) (PySem.list_append s.heap.objs.size its.toArray nn y (by rw [List.size_toArray]; omega)) ⟨a1, ?_⟩)
        obtain ⟨nn', q⟩ : ∃ nn' : Nat, (s8.heap.update s.heap.objs.size (Obj.mapSeq (·.push y))).get? s.heap.objs.size = some { cls := .type "list", data := .seq (its ++ [y]).toArray nn' } := by
          have q := PySem.IsL.update a1 (·.push y)
          have ea : its.toArray.push y = (its ++ [y]).toArray := by simp
          rw [ea] at q
          exact ⟨_, q⟩
        have I9 : Inv (cxC X (capN t caps) scope cl H2.objs.size s H fp) [] (capS caps σ (some x)) H8 { s8 with heap := s8.heap.update s.heap.objs.size (Obj.mapSeq (·.push y)) } :=
          (bare I8).turned (t' := s8.toks) (fun b o hb e => (Heap.get?_update_other _ _ (Ne.symm hb)).trans e) a2 hDC (.inr (Nat.le_refl _)) hDcell (fun p hp => absurd (show p ∈ ([] : List (Addr × Obj)) from hp) (by simp))
        refine wpAny_pure (wpAny_pure ⟨rfl, m', hm, i + 1, ys ++ [yv], its ++ [y], nn', H8, some x, I9, T.keep _ _ _ a3 fun b hb o e => (Heap.get?_update_other _ _ (show s.heap.objs.size ≠ b from fun z => hDf (by rw [z]; exact hb))).trans e, a4, a2, q, r3.append (.cons r8 .nil), ?_, w8⟩)
        · rw [List.length_append, List.length_singleton]; omega
  exact codeAny_compStart_list (loop _ rfl) (T.self _ 0 _ _ _ st₁ (loop _ rfl))

theorem pe_comp (K : CapOk X scope cl t caps) (hc : X.calm = true) (hi : PI X (.Name t px) iter wi)
    (ht : ∀ C s₀ H₀ ex, PTs (cxC X (capN t caps) scope cl C s₀ H₀ ex) ifs tt) (he : ∀ C s₀ H₀ ex, PE (cxC X (capN t caps) scope cl C s₀ H₀ ex) elt te)
    (hs : ∀ x, foldedSetIterable iter X.env x = pure x := by intro _; rfl) : PE X (.ListComp elt [⟨.Name t px, iter, ifs, 0⟩] scope pos) (tComp caps wi tt te) := by
  intro pins s σ H Q I h
  rw [eval_ListComp]
  refine wpAny_comprehension_free (use := none) rfl hs K.clos K.kind K.names (thn (hi pins s σ H _ I h) fun v s1 h1 => thn h1 fun itv s2 h2 => ?_)
  obtain ⟨it, fp, tn, J, H2, e, I2, T, st2, f2, W, ⟨m0, w0⟩, hW⟩ := h2
  subst e
  refine comp_block (RR := fun acc C => compPost (model X.prog X.w) X.A X.xe none (EP X pins σ Q) acc C) K hc ht he I2 T st2 f2 w0 hW ?_
  intro D C ys H' s' m hD I' hn hC q
  refine ⟨m, hn, fun h' hs' => ?_⟩
  obtain ⟨c0, c1, c2, c3, c4, c5⟩ := hC
  exact ⟨.ref D, _, I'.turned (t' := s'.toks) (fun b o hb e => (hs'.2 b hb).trans e) c0 c1 c3 c4 c5, rfl, q D hD⟩

end
theorem comp_range {caps : List (Str × Nat)} {tt : TT} {te : TE} {σ : St} {H : Hp} {lo : Int} {n : Nat} {QE : List V → Hp → Prop} (Pv : Nat → List V → Hp → Prop) (h0 : Pv 0 [] H)
    (hs : ∀ i ys H, i < n → Pv i ys H → tt (capS caps σ (some (.int (lo + i)))) H fun b H2 => if b = true then te (capS caps σ (some (.int (lo + i)))) H2 (fun y H3 => ys.length < sizeLine ∧ Pv (i + 1) (ys ++ [y]) H3) else Pv (i + 1) ys H2)
    (hd : ∀ ys H, Pv n ys H → QE ys H) : ∃ W : Nat → Nat → List V → Hp → Prop, (∃ m, W 0 m [] H) ∧ CompW caps tt te σ (Itr lo n) QE W := by
  refine ⟨fun i m ys H => m = n - i ∧ i ≤ n ∧ Pv i ys H, ⟨n, by simp, Nat.zero_le _, h0⟩, ?_⟩
  rintro i m ys H ⟨rfl, hi, p⟩
  by_cases hlt : i < n
  · refine .inr ⟨hlt, Pv (i + 1), fun ys' H' p' => ⟨n - (i + 1), by omega, rfl, hlt, p'⟩, fun x H' y => ?_⟩
    obtain ⟨e, y⟩ := y
    subst e y
    exact hs i ys _ hlt p
  · have e : i = n := by omega
    subst e
    exact .inl ⟨Nat.le_refl _, hd ys H p⟩
theorem comp_list {K : PySem.W.Frag} {a : Addr} {xs : List V} {caps : List (Str × Nat)} {tt : TT} {te : TE} {σ : St} {H : Hp} {QE : List V → Hp → Prop} (Pv : Nat → List V → Hp → Prop) (h0 : Pv 0 [] H) (hl : ∀ i ys H, i ≤ xs.length → Pv i ys H → SqL K H a xs)
    (hs : ∀ i x ys H, xs[i]? = some x → Pv i ys H → tt (capS caps σ (some x)) H fun b H2 => if b = true then te (capS caps σ (some x)) H2 (fun y H3 => ys.length < sizeLine ∧ Pv (i + 1) (ys ++ [y]) H3) else Pv (i + 1) ys H2)
    (hd : ∀ ys H, Pv xs.length ys H → QE ys H) : ∃ W : Nat → Nat → List V → Hp → Prop, (∃ m, W 0 m [] H) ∧ CompW caps tt te σ (Itl K a) QE W := by
  refine ⟨fun i m ys H => m = xs.length - i ∧ i ≤ xs.length ∧ Pv i ys H, ⟨xs.length, by simp, Nat.zero_le _, h0⟩, ?_⟩
  rintro i m ys H ⟨rfl, hi, p⟩
  have q := hl i ys H hi p
  by_cases hlt : i < xs.length
  · refine .inr ⟨⟨xs, xs[i], q, by simp [hlt]⟩, Pv (i + 1), fun ys' H' p' => ⟨xs.length - (i + 1), by omega, rfl, hlt, p'⟩, fun x H' y => ?_⟩
    obtain ⟨e, y⟩ := y
    subst e
    exact hs i x ys _ (y xs q) p
  · have e : i = xs.length := by omega
    subst e
    exact .inl ⟨⟨xs, q, Nat.le_refl _⟩, hd ys H p⟩
/-- .. without tests -/
theorem comp_range0 {caps : List (Str × Nat)} {te : TE} {σ : St} {H : Hp} {lo : Int} {n : Nat} {QE : List V → Hp → Prop} (Pv : Nat → List V → Hp → Prop) (h0 : Pv 0 [] H)
    (hs : ∀ i ys H, i < n → Pv i ys H → te (capS caps σ (some (.int (lo + i)))) H (fun y H3 => ys.length < sizeLine ∧ Pv (i + 1) (ys ++ [y]) H3))
    (hd : ∀ ys H, Pv n ys H → QE ys H) : ∃ W : Nat → Nat → List V → Hp → Prop, (∃ m, W 0 m [] H) ∧ CompW caps tYes te σ (Itr lo n) QE W :=
  comp_range Pv h0 (fun i ys H hi p => by
    show if true = true then _ else Pv (i + 1) ys H
    rw [if_pos rfl]
    exact hs i ys H hi p) hd
theorem comp_list0 {K : PySem.W.Frag} {a : Addr} {xs : List V} {caps : List (Str × Nat)} {te : TE} {σ : St} {H : Hp} {QE : List V → Hp → Prop} (Pv : Nat → List V → Hp → Prop) (h0 : Pv 0 [] H) (hl : ∀ i ys H, i ≤ xs.length → Pv i ys H → SqL K H a xs)
    (hs : ∀ i x ys H, xs[i]? = some x → Pv i ys H → te (capS caps σ (some x)) H (fun y H3 => ys.length < sizeLine ∧ Pv (i + 1) (ys ++ [y]) H3))
    (hd : ∀ ys H, Pv xs.length ys H → QE ys H) : ∃ W : Nat → Nat → List V → Hp → Prop, (∃ m, W 0 m [] H) ∧ CompW caps tYes te σ (Itl K a) QE W :=
  comp_list Pv h0 hl (fun i x ys H hi p => by
    show if true = true then _ else Pv (i + 1) ys H
    rw [if_pos rfl]
    exact hs i x ys H hi p) hd
end L2

namespace L2
open PySem PySem.Spec PyProof.Rows

theorem bt_list : bootBuiltins "list" = some (.type "list") := by decide +kernel
theorem bt_int : bootBuiltins "int" = some (.type "int") := by decide +kernel
theorem bt_bool : bootBuiltins "bool" = some (.type "bool") := by decide +kernel
theorem bt_dict : bootBuiltins "dict" = some (.type "dict") := by decide +kernel
theorem bt_isinstance : bootBuiltins "isinstance" = some (.builtin "isinstance") := by decide +kernel
theorem bt_sorted : bootBuiltins "sorted" = some (.builtin "sorted") := by decide +kernel
section
variable {X : Cx}
end

def eqLV : List V → List V → Bool
  | [], [] => true
  | x :: xs, y :: ys => eqV x y && eqLV xs ys
  | _, _ => false
theorem eqLV_len : ∀ {xs ys : List V}, xs.length ≠ ys.length → eqLV xs ys = false
  | [], [], h => absurd rfl h
  | [], _ :: _, _ => rfl
  | _ :: _, [], _ => rfl
  | x :: xs, y :: ys, h => by
    have ih := eqLV_len (xs := xs) (ys := ys) fun e => h (by simp [e])
    show (eqV x y && eqLV xs ys) = false
    rw [ih, Bool.and_false]
theorem eqLV_range : ∀ {xs ys : List V}, xs.length = ys.length → (List.range xs.length).all (fun j => eqV (xs.getD j .non) (ys.getD j .non)) = eqLV xs ys
  | [], [], _ => rfl
  | x :: xs, y :: ys, h => by
    have ih := eqLV_range (xs := xs) (ys := ys) (by simpa using h)
    rw [List.length_cons, List.range_succ_eq_map, List.all_cons, List.all_map]
    show (eqV x y && _) = (eqV x y && eqLV xs ys)
    rw [← ih]
    rfl
  | [], _ :: _, h => by simp at h
  | _ :: _, [], h => by simp at h
theorem eqV_int (a b : Int) : eqV (.int a) (.int b) = decide (a = b) := by
  show (a == b) = _
  rw [Bool.beq_eq_decide_eq]
theorem eqLV_ints : ∀ (xs ys : List Int), eqLV (xs.map V.int) (ys.map V.int) = decide (xs = ys)
  | [], [] => rfl
  | [], _ :: _ => rfl
  | _ :: _, [] => rfl
  | x :: xs, y :: ys => by
    have ih := eqLV_ints xs ys
    show (eqV (.int x) (.int y) && eqLV (xs.map V.int) (ys.map V.int)) = _
    rw [ih, eqV_int]
    by_cases h1 : x = y
    · by_cases h2 : xs = ys
      · simp [h1, h2]
      · simp [h1, h2]
    · simp [h1]
theorem flat_ints (xs : List Int) : (xs.map V.int).all flatV = true := by
  rw [List.all_map]
  exact List.all_eq_true.mpr fun _ _ => rfl
section
variable {X : Cx}
theorem call_isi : CallR X (.builtin "isinstance") (fun xs H Q => ∃ x n t b, xs = [x, .ty n] ∧ TyOf X.K H x t ∧ PySem.W.kitOne X.K t (.type n) = some b ∧ Q (.bl b) H) := by
  intro pins s σ H xs us Q I r h
  obtain ⟨x, n, t, b, rfl, ty, e, q⟩ := h
  obtain ⟨u, c, rfl, ru, rc⟩ := vals2 r
  obtain rfl : c = Value.type n := rc
  exact isinst_ok I ru ty e fun tk => ⟨.bl b, H, I.tok _, rfl, q⟩
theorem kit_ii (K : PySem.W.Frag) : PySem.W.kitOne K (.type "int") (.type "int") = some true := rfl
theorem kit_ll (K : PySem.W.Frag) : PySem.W.kitOne K (.type "list") (.type "list") = some true := rfl
theorem kit_ib (K : PySem.W.Frag) : PySem.W.kitOne K (.type "int") (.type "bool") = some false := by with_unfolding_all rfl
end
end L2

namespace L2
open PySem PySem.Spec PyProof.Rows
theorem bt_range : bootBuiltins "range" = some (.type "range") := by decide +kernel
section
variable {X : Cx}
theorem call_rng1 : CallR X (.type "range") (fun xs H Q => ∃ j : Int, xs = [.int j] ∧ ∀ p, H p = none → Q (.ref p) (upd H p (.rng 0 j))) := by
  intro pins s σ H xs us Q I r h
  obtain ⟨j, rfl, q⟩ := h
  obtain ⟨u, rfl, t, rfl⟩ := vals1 r
  refine call_range_1 ⟨.ref s.heap.objs.size, _, I.laid (fun b o e => Heap.get?_push_of_some _ e) (Nat.le_refl _) ?_, rfl, q _ (I.hok.fresh (Nat.le_refl _))⟩
  exact ⟨_, _, _, Heap.get?_push_size s.heap rfl⟩
theorem vals_items : ∀ {acc : List Value} {n : Nat}, acc.length = n → (∀ (i : Nat) v, acc[i]? = some v → ∃ t, v = .int (0 + (i : Int) * 1) t) → Vals ((List.range n).map fun i : Nat => V.int i) acc := by
  intro acc n hl h
  subst hl
  have go : ∀ (acc : List Value) (k : Nat), (∀ (i : Nat) v, acc[i]? = some v → ∃ t, v = .int ((k + i : Nat) : Int) t) → Vals ((List.range' k acc.length).map fun i : Nat => V.int i) acc := by
    intro acc
    induction acc with
    | nil => intro k _; exact .nil
    | cons a r ih =>
      intro k h
      rw [List.length_cons, List.range'_succ, List.map_cons]
      refine .cons ?_ (ih (k + 1) fun i v e => ?_)
      · obtain ⟨t, e⟩ := h 0 a rfl
        exact ⟨t, by rw [e]; rfl⟩
      · obtain ⟨t, e⟩ := h (i + 1) v (by simpa using e)
        exact ⟨t, by rw [e]; congr 1; omega⟩
  rw [List.range_eq_range']
  refine go acc 0 fun i v e => ?_
  obtain ⟨t, e⟩ := h i v e
  exact ⟨t, by rw [e]; congr 1; omega⟩
theorem call_list_rng (hc : X.calm = true) : CallR X (.type "list") (fun xs H Q => ∃ (p : Addr) (n : Nat), xs = [.ref p] ∧ H p = some (.rng 0 n) ∧ n ≤ 1000 ∧ ∀ l, H l = none → Q (.ref l) (upd H l (.lst ((List.range n).map fun i : Nat => V.int i)))) := by
  intro pins s σ H xs us Q I r h
  obtain ⟨p, n, rfl, hp, hn, q⟩ := h
  obtain ⟨u, rfl, ru⟩ := vals1 r
  cases ru
  have hs : sizeLine = 16777216 := sizeLine_eq
  obtain ⟨t, u, v, e⟩ := (show ObjOk X.prog X.w H s.heap p (.rng 0 n) from I.hok p _ hp)
  refine call_list_range (n := n) (I.ok.hd hc) e (small_one (by omega) (by omega) (by omega) (by omega)) (by rw [rangeSize_one]; split <;> omega) (by omega) fun h' tk acc' c' kp e' it => ?_
  have rv : Vals ((List.range n).map fun i : Nat => V.int i) acc'.toList := by
    refine vals_items ?_ ?_
    · obtain ⟨h1, _⟩ := it
      simpa using h1
    · intro i w ew
      obtain ⟨h1, h2⟩ := it
      exact h2 i w (by simpa using ew)
  refine ⟨.ref s.heap.objs.size, _, I.laid kp (Nat.le_refl _) (show ObjOk X.prog X.w _ h' _ (.lst ((List.range n).map fun i : Nat => V.int i)) from ⟨by rw [List.length_map, List.length_range]; omega, acc'.toList, c', rv, by simpa using e'⟩), rfl, q _ (I.hok.fresh (Nat.le_refl _))⟩
end
end L2

namespace PySem.W
open PySem PySem.Spec PySem.Calls PyProof.Rows Builtin Builtin.ObjectAttr Builtin.Getset_descriptor

section
variable {prog : Program} {w : World} {A : Around} {E : Value → Shared → Prop} {s : Shared} {K : Frag} {x C : Addr}
end
end PySem.W
namespace L2
open PySem PySem.Spec PyProof.Rows PySem.W
end L2

namespace L2
open PySem PySem.Spec PyProof.Rows

/-- a new exception that no frame has noted -/
def MadeW (B : Heap) (l : List Env) (e : Addr) (cls a0 : Value) (h : Heap) : Prop :=
  B.StaysIn h ∧ B.get? e = none ∧ h.FunFrames B l ∧ ∃ oe vs, h.get? e = some oe ∧ oe.cls = cls ∧ oe.data = .fields vs ∧ vs[0]? = some a0 ∧ vs[1]? = some .none
/-- any heap that keeps B, and all else up to slots, bears the state -/
def Bears (X : Cx) (pins : List (Addr × Obj)) (σ : St) (H : Hp) (B : Heap) (s : Shared) : Prop :=
  ∀ (h' : Heap) (tk : Nat), B.StaysIn h' → s.heap.UpToSlots h' → Inv X pins σ H { s with heap := h', toks := tk }
structure NewTo (X : Cx) (pins : List (Addr × Obj)) (H : Hp) (e : Addr) : Prop where
  old : X.s₀.heap.get? e = none
  loc : e ≠ X.env.locals
  fs : e ∉ X.fs
  cell : ∀ x c, X.env.cells.lookup x = some c → c ≠ e
  pin : ∀ p ∈ X.pn ++ pins, p.1 ≠ e
  free : H e = none
abbrev XR := St → Value → Hp → Prop
/-- an exception that comes up in a body -/
def XP (X : Cx) (pins : List (Addr × Obj)) (R : XR) (x : Value) (s' : Shared) : Prop :=
  ∃ (e : Addr) (cls a0 : Value) (B : Heap) (σ : St) (H : Hp), x = .ref e ∧ (MadeW B X.stack e cls a0 s'.heap ∨ Heap.FlyingW B X.stack e cls a0 s'.heap ∨ ∃ L, X.env.frame = some L ∧ Heap.HeldW B X.stack e cls a0 L s'.heap) ∧ Bears X pins σ H B s' ∧ NewTo X pins H e ∧ R σ cls H
/-- an exception behind a call -/
def CXO (P : Program) (w : World) : CXT := fun outer H s E x s' =>
  ∃ (e : Addr) (cls a0 : Value) (B : Heap) (H' : Hp), x = .ref e ∧ s'.os = s.os ∧ AllBare s'.gens ∧ s.heap.get? e = none ∧ H' e = none ∧ Heap.FlyingW B outer e cls a0 s'.heap ∧
    (∀ h', B.StaysIn h' → s'.heap.UpToSlots h' → Un (frs outer) [] H H' s.heap h' ∧ HOk P w H' h') ∧ E cls none H'
theorem pass1 {P : Program} {w : World} {X : Cx} : Passes (CXO P w) X E0 := fun _ _ _ _ _ _ _ ⟨_, _, _, _, _, _, _, _, _, _, _, _, h⟩ => h.elim
section
variable {X : Cx} {pins : List (Addr × Obj)} {σ : St} {H H' : Hp} {s s' : Shared}
theorem Inv.newTo (I : Inv X pins σ H s) (hex : X.ex = []) {e : Addr} (h : s.heap.get? e = none) (hn : H' e = none) : NewTo X pins H' e := by
  have old : X.s₀.heap.get? e = none := by
    cases q : X.s₀.heap.get? e with
    | none => rfl
    | some o =>
      obtain ⟨o', z⟩ := I.base.there e o q (by rw [hex]; simp)
      rw [h] at z; cases z
  refine ⟨old, fun z => ?_, fun z => ?_, fun x c q z => ?_, fun p hp z => ?_, hn⟩
  · obtain ⟨m, ⟨o, _, _, ho, _⟩, _⟩ := I.loc
    rw [← z, h] at ho; cases ho
  · obtain ⟨_, o, ho, _⟩ := I.ok.funs.mem z
    rw [old] at ho; cases ho
  · obtain ⟨v, o, ho, _⟩ := I.cell x c q
    rw [z, h] at ho; cases ho
  · have := (I.pin p hp).1
    rw [z, h] at this; cases this
/-- an exception of a callee comes up -/
theorem Inv.comes {E : XK} {x : Value} (I : Inv X pins σ H s) (hex : X.ex = []) (h : CXO X.prog X.w X.stack H s E x s') : XP X pins (fun σ' cls H' => σ' = σ ∧ E cls none H') x s' := by
  obtain ⟨e, cls, a0, B, H', rfl, os, bare, new, free, fl, keep, q⟩ := h
  refine ⟨e, cls, a0, B, σ, H', rfl, .inr (.inl fl), fun h' tk k u => ?_, I.newTo hex new free, rfl, q⟩
  obtain ⟨un, hok⟩ := keep h' k u
  exact I.call' (s' := { s' with heap := h', toks := tk }) (ch := []) os un hok bare (fun b z => absurd z (by simp))
theorem XP.imp {R R' : XR} {x : Value} (h : XP X pins R x s') (hR : ∀ σ cls H, R σ cls H → R' σ cls H) : XP X pins R' x s' := by
  obtain ⟨e, cls, a0, B, σ, H, e1, e2, e3, e4, q⟩ := h
  exact ⟨e, cls, a0, B, σ, H, e1, e2, e3, e4, hR _ _ _ q⟩
/-- the state itself -/
theorem Bears.now {B : Heap} (b : Bears X pins σ H B s) (k : B.StaysIn s.heap) : Inv X pins σ H s := b s.heap s.toks k (Heap.UpToSlots.refl _)
end

abbrev TEX := St → Hp → VK → (Value → Hp → Prop) → Prop
abbrev TSX := Ends → XR → St → Hp → Prop
def PEX (X : Cx) (e : Expr) (t : TEX) : Prop :=
  ∀ (pins : List (Addr × Obj)) (s : Shared) (σ : St) (H : Hp) (Q : VK) (R : Value → Hp → Prop), Inv X pins σ H s → t σ H Q R →
    wpAny (model X.prog X.w) X.A (eval e X.env) (EP X pins σ Q) (XP X pins fun σ' cls H' => σ' = σ ∧ R cls H') s
def PSX (X : Cx) (st : Stmt) (t : TSX) : Prop :=
  ∀ (pins : List (Addr × Obj)) (s : Shared) (σ : St) (H : Hp) (D : Ends) (R : XR), Inv X pins σ H s → t D R σ H → wpAny (model X.prog X.w) X.A (exec st X.env) (SP X pins D) (XP X pins R) s
def PSsX (X : Cx) (st : List Stmt) (t : TSX) : Prop :=
  ∀ (pins : List (Addr × Obj)) (s : Shared) (σ : St) (H : Hp) (D : Ends) (R : XR), Inv X pins σ H s → t D R σ H → wpAny (model X.prog X.w) X.A (execs st X.env) (SP X pins D) (XP X pins R) s

section
variable {X : Cx} {e : Expr} {te : TE} {tx : TEX} {t : TS} {ts us : TSX} {st : Stmt} {sts rest : List Stmt} {pos : Pos}
theorem psx_of (h : PS X.nox st t) : PSX X st (fun D _ σ H => t D σ H) := fun pins s σ H D R I q =>
  wpAny_mono (h pins s σ H D (I.wish _) q) (fun _ _ z => z.unwish) fun _ _ z => z.elim
theorem pssx_of (h : PSs X.nox sts t) : PSsX X sts (fun D _ σ H => t D σ H) := fun pins s σ H D R I q =>
  wpAny_mono (h pins s σ H D (I.wish _) q) (fun _ _ z => z.unwish) fun _ _ z => z.elim
def txSeq (t u : TSX) : TSX := fun D R σ H => t { D with nx := u D R } R σ H
theorem pssx_cons (h1 : PSX X st ts) (h2 : PSsX X rest us) : PSsX X (st :: rest) (txSeq ts us) := by
  intro pins s σ H D R I h
  refine wpAny_execs_cons (thn (h1 pins s σ H _ R I h) fun f s1 hq => ?_)
  cases f with
  | next =>
    obtain ⟨σ', H', I', q⟩ := hq
    exact h2 pins s1 σ' H' D R I' q
  | brk => exact hq
  | cont => exact hq
  | ret u => exact hq
theorem pssx_one (h1 : PSX X st ts) : PSsX X [st] ts := by
  intro pins s σ H D R I h
  refine wpAny_execs_cons (thn (h1 pins s σ H D R I h) fun f s1 q => ?_)
  cases f with
  | next => exact wpAny_execs_nil q
  | ret v => exact q
  | brk => exact q
  | cont => exact q
def txNext : TSX := fun D _ σ H => D.nx σ H
theorem pssx_nil : PSsX X [] txNext := fun _ _ σ H _ _ I h => wpAny_execs_nil ⟨σ, H, I, h⟩
theorem nx {α : Type} {M : Model} {A : Around} {tr : Sem α} {Q Q' : α → Shared → Prop} {E : Value → Shared → Prop} {s : Shared} (h : wpAny M A tr Q (fun _ _ => False) s) (hQ : ∀ a s, Q a s → Q' a s) : wpAny M A tr Q' E s :=
  wpAny_mono h hQ fun _ _ z => z.elim
def txDrop (te : TEX) : TSX := fun D R σ H => te σ H (fun _ H1 => D.nx σ H1) (R σ)
theorem XP.at {pins : List (Addr × Obj)} {σ : St} {R : XR} {x : Value} {s' : Shared} (h : XP X pins (fun σ' cls H' => σ' = σ ∧ R σ cls H') x s') : XP X pins R x s' := h.imp fun _ _ _ ⟨e, q⟩ => e ▸ q
theorem psx_expr (he : PEX X e tx) (hs : swapsWith e none pos.line X.env = pure false := by rfl) : PSX X (.Expr e pos) (txDrop tx) := by
  intro pins s σ H D R I h
  exact wpAny_Expr_any (wpAny_mono (he pins s σ H _ _ I h) (fun v s1 ⟨x, H1, I1, r1, q1⟩ => ⟨σ, H1, I1, q1⟩) fun _ _ z => z.at) I.quiet hs
def txIf (c : TT) (t u : TSX) : TSX := fun D R σ H => c σ H fun b H1 => if b = true then t D R σ H1 else u D R σ H1
theorem psx_if {c : Expr} {a b : List Stmt} {tc : TT} (hc : PT X.nox c tc) (ha : PSsX X a ts) (hb : PSsX X b us) : PSX X (.If c a b pos) (txIf tc ts us) := by
  intro pins s σ H D R I h
  refine wpAny_If (nx (hc pins s σ H _ (I.wish _) h) fun d s1 ⟨H1, I1, q1⟩ => ?_)
  cases d with
  | true => exact ha pins s1 σ H1 D R I1.unwish q1
  | false => exact hb pins s1 σ H1 D R I1.unwish q1
end

section
variable {X : Cx} {k : Nat} {f C : Addr} {fd : FuncData} {ps : List Str} {sp : Sp} {dvs : List V} {ds : List Value} {x m : Str} {p pos apos : Pos} {e o : Expr} {es : List Expr} {ta : TE} {t : TA}
theorem run_fnx {pins : List (Addr × Obj)} {σ : St} {H : Hp} {s : Shared} {Q : VK} {R : Value → Hp → Prop} {us : List Value} {vs : List V} (F : FnOk X.prog X.w X.K X.mg X.base (CXO X.prog X.w) k f fd ps sp) (hr : Room k X.A) (hb : Binds X.K fd ps ds) (hd : Vals dvs ds) (hex : X.ex = [])
    (I : Inv X pins σ H s) (r : Vals vs us) (h : sp (vs ++ dvs) H Q fun cls _ H' => R cls H') : wpAny (model X.prog X.w) X.A (call (.ref f) us) (EP X pins σ Q) (XP X pins fun σ' cls H' => σ' = σ ∧ R cls H') s := by
  have r2 : Vals (vs ++ dvs) (us ++ ds) := r.append hd
  have hl : (us ++ ds).length = ps.length := by rw [← r2.length]; exact F.len _ _ _ _ h
  refine wpAny_call (codeAny_mono (F.run X.A X.stack s H ⟨us, []⟩ (us ++ ds) (vs ++ dvs) Q _ hr I.env0 (hb s us I.kIn hl) r2 h) fun r s' hq => ?_)
  cases r with
  | error e => exact I.comes (E := fun cls _ H' => R cls H') hex (show CXO X.prog X.w X.stack H s (fun cls _ H' => R cls H') e s' from hq)
  | ok fl =>
    cases fl with
    | ret u => exact I.after hq
    | next => exact False.elim hq
    | brk => exact False.elim hq
    | cont => exact False.elim hq
def txCall (sp : Sp) (dvs : List V) (t : TA) : TEX := fun σ H Q R => t σ H fun vs H1 => sp (vs ++ dvs) H1 Q fun cls _ H' => R cls H'
def txMeth (C : Addr) (m : Str) (sp : Sp) (dvs : List V) (ta : TE) (t : TA) : TEX := fun σ H Q R => ta σ H fun x H1 => ∃ a dx fs, x = .ref a ∧ H1 a = some (.ins C dx fs) ∧ fs.lookup m = none ∧
  t σ H1 fun vs H2 => sp (x :: (vs ++ dvs)) H2 Q fun cls _ H' => R cls H'
theorem pex_call (F : FnOk X.prog X.w X.K X.mg X.base (CXO X.prog X.w) k f fd ps sp) (hr : Room k X.A) (hex : X.ex = []) (hg : Gl X x) (hm : X.mg x = some (.ref f)) (hk : PySem.W.keepIn X.K (.ref f) = true) (hb : Binds X.K fd ps ds) (hd : Vals dvs ds)
    (ha : PA X.nox (e :: es) t) (hdb : (x == ("__debug__" : Str)) = false := by decide) (he : starEach (e :: es) X.env = (false, eval e X.env) :: starEach es X.env := by rfl) (hpl : (backTo pos (starEach es X.env)).any (·.1) = false := by rfl) :
    PEX X (.Call (.Name x p) (e :: es) [] pos) (txCall sp dvs t) := by
  intro pins s σ H Q R I h
  refine wpAny_Call_Name_kw (ld_glob I hg hm ?_ hdb)
  refine PySem.W.callWith_K (h₀ := X.base) I.ok.mod.kin hk (nx (ha pos pins s σ H _ (I.wish _) h) fun us s1 ⟨vs, H1, I1, r, q⟩ => ⟨I1.unwish.kIn, ?_⟩) he hpl
  exact run_fnx F hr hb hd hex I1.unwish r q
theorem pex_meth {pl : Sem Bool} (he : PE X.nox o ta) (c : Cls X.K C) (hm : Meth X.K C m f) (F : FnOk X.prog X.w X.K X.mg X.base (CXO X.prog X.w) k f fd ps sp) (hr : Room k X.A) (hex : X.ex = []) (hb : Binds X.K fd ps ds) (hd : Vals dvs ds) (ha : PA X.nox (e :: es) t)
    (hst : starEach (e :: es) X.env = (false, eval e X.env) :: starEach es X.env := by rfl) (hpl : (backTo pos (starEach es X.env)).any (·.1) = false := by rfl)
    (ht : eval (.Call (.Attribute o m apos) (e :: es) [] pos) X.env = (do
      let ov ← eval o X.env
      standAt apos.atName
      let (f, first) ← holding [ov] (getMethod ov m pl)
      callWith pos f first (backTo pos (starEach (e :: es) X.env)) (backToKw pos (keywordEach [] X.env))) := by rfl) :
    PEX X (.Call (.Attribute o m apos) (e :: es) [] pos) (txMeth C m sp dvs ta t) := by
  intro pins s σ H Q R I h
  refine PySem.W.methodCall_KW (pl := pl) (nx (he pins s σ H _ (I.wish _) h) fun u s1 ⟨x, H1, I1, rx, a, dx, fs, ex, ea, l, q⟩ => ?_) ht
  subst ex
  obtain rfl : u = Value.ref a := rx
  refine getmeth_ok I1.unwish ea c hm l ?_
  refine PySem.W.callWith_K (first := [.ref a]) (h₀ := X.base) I.ok.mod.kin hm.kp (nx (ha pos pins s1 σ H1 _ I1 q) fun us s2 ⟨vs, H2, I2, r, q2⟩ => ⟨I2.unwish.kIn, ?_⟩) hst hpl
  exact run_fnx (us := .ref a :: us) (vs := .ref a :: vs) F hr hb hd hex I2.unwish (.cons rfl r) q2
theorem pex_meth0 {pl : Sem Bool} (he : PE X.nox o ta) (c : Cls X.K C) (hm : Meth X.K C m f) (F : FnOk X.prog X.w X.K X.mg X.base (CXO X.prog X.w) k f fd ps sp) (hr : Room k X.A) (hex : X.ex = []) (hb : Binds X.K fd ps ds) (hd : Vals dvs ds)
    (ht : eval (.Call (.Attribute o m apos) [] [] pos) X.env = (do
      let ov ← eval o X.env
      standAt apos.atName
      let (f, first) ← holding [ov] (getMethod ov m pl)
      callWith pos f first (backTo pos (starEach [] X.env)) (backToKw pos (keywordEach [] X.env))) := by rfl) :
    PEX X (.Call (.Attribute o m apos) [] [] pos) (txMeth C m sp dvs ta tNil) := by
  intro pins s σ H Q R I h
  refine PySem.W.methodCall_KW (pl := pl) (nx (he pins s σ H _ (I.wish _) h) fun u s1 ⟨x, H1, I1, rx, a, dx, fs, ex, ea, l, q⟩ => ?_) ht
  subst ex
  obtain rfl : u = Value.ref a := rx
  refine getmeth_ok I1.unwish ea c hm l ?_
  exact PySem.W.callWith_K0 (first := [.ref a]) I1.unwish.kIn hm.kp (run_fnx (us := [.ref a]) (vs := [.ref a]) F hr hb hd hex I1.unwish (.cons rfl .nil) q)
end

def veMro : List Value := [.type "ValueError", .type "Exception", .type "BaseException", .type "object"]
theorem exc_obj {K : PySem.W.Frag} {h : Heap} {C : Addr} {bmB : List Value} {newId : String} (X : K.In h) (q : PySem.W.excIn K C bmB newId = true) :
    ∃ bm N nm q bs hdct sn sub ab col dd k0 k1 k2 k3 k5 mN, h.get? C = some (excClassObj nm q C N bs bm hdct sn sub ab col dd k0 k1 k2 k3 k5 newId) ∧ h.Ns N mN ∧ mN "__init__" = none ∧ OwnTail h bmB bm := by
  unfold PySem.W.excIn at q
  split at q
  · rename_i dd cd sl ho
    split at q
    · rename_i C' bm k0 k1 k2 k3 n k5 hm hs
      simp only [Bool.and_eq_true, beq_iff_eq, Bool.not_eq_true'] at q
      obtain ⟨⟨⟨⟨⟨rfl, rfl⟩, hdel⟩, ht⟩, hok⟩, hni⟩ := q
      obtain ⟨nm, bs, mro, ns, qn, hd, sn, sub, ab, col, del⟩ := cd
      dsimp only at hm hdel hok hni
      subst hm hdel
      have hsl : sl = #[k0, k1, k2, k3, some (.builtin n), k5] := by
        obtain ⟨l⟩ := sl
        simp only at hs
        rw [hs]
      subst hsl
      exact ⟨bm, ns, nm, qn, bs, hd, sn, sub, ab, col, dd, k0, k1, k2, k3, k5, _, X _ _ ho, .of_isNs (PySem.W.isNs_of_in X hok), PySem.W.nsMap_none_of_in X hok hni, PySem.W.tail_of_in X ht⟩
    · cases q
  · cases q
theorem objOk_there {P : Program} {w : World} {H : Hp} {h : Heap} {a : Addr} {o : HO} (x : ObjOk P w H h a o) : ∃ ob, h.get? a = some ob := by
  cases o with
  | lst xs => obtain ⟨_, _, _, _, e⟩ := x; exact ⟨_, e⟩
  | tup xs => obtain ⟨_, _, _, p⟩ := x; obtain ⟨o, e, _⟩ := p; exact ⟨_, e⟩
  | dK kvs => obtain ⟨_, _, _, _, o, _, _, e, _⟩ := x; exact ⟨_, e⟩
  | dT kvs => obtain ⟨_, _, _, _, o, _, _, e, _⟩ := x; exact ⟨_, e⟩
  | set S n => obtain ⟨o, _, _, _, e, _⟩ := x; exact ⟨_, e⟩
  | ins C dx fs => obtain ⟨_, _, _, e, _⟩ := x; exact ⟨_, e⟩
  | own y => obtain ⟨_, e⟩ := x; exact ⟨_, e⟩
  | xd fs => obtain ⟨_, ⟨_, _, _, e, _⟩, _⟩ := x; exact ⟨_, e⟩
  | rng lo hi => obtain ⟨_, _, _, e⟩ := x; exact ⟨_, e⟩
  | frz ob u => obtain ⟨e, _⟩ := x; exact ⟨_, e⟩
  | tbl ps => exact ⟨_, (show h.get? a = some _ from x)⟩
  | met f y => exact ⟨_, (show h.get? a = some _ from x)⟩
  | ext φ => obtain ⟨_, e, _⟩ := x; exact e
section
variable {X : Cx} {pins : List (Addr × Obj)} {σ : St} {H : Hp} {s : Shared}
/-- a new exception: what it leaves as it was -/
theorem Inv.raised {h' : Heap} {e : Addr} {cls : Value} {vs : List Value} (I : Inv X pins σ H s) (hex : X.ex = []) (hx : Heap.MadeExcOf s.heap h' e cls vs) : XP X pins (fun σ' c H' => σ' = σ ∧ c = cls ∧ H' = H) (.ref e) { s with heap := h' } := by
  obtain ⟨t, he, htn, ht⟩ := hx.there
  have hin : ∀ env ∈ X.stack, ∀ a, env.frame = some a → a ∈ frs X.stack := fun env he a hf => List.mem_filterMap.mpr ⟨env, he, hf⟩
  have nf : ∀ b u, H b = some u → b ∉ frs X.stack := fun b u q z => by rw [I.stkFree b z] at q; cases q
  have hB : ∀ b, s.heap.get? b = none → (PySem.W.hideAll s.heap (frs X.stack)).get? b = none := fun b q => by
    cases z : (PySem.W.hideAll s.heap (frs X.stack)).get? b with
    | none => rfl
    | some o => rw [PySem.W.of_hideAll _ z] at q; cases q
  refine ⟨e, cls, .ref t, PySem.W.hideAll s.heap (frs X.stack), σ, H, rfl, .inl ⟨fun b o q => hx.keeps b o (PySem.W.of_hideAll _ q), hB e hx.new, ?_, _, _, he, rfl, rfl, rfl, rfl⟩, fun h'' tk k u => ?_, I.newTo hex hx.new ?_, rfl, rfl, rfl⟩
  · exact (PySem.W.funFrames_hide I.stack hin).of_keeps fun b o q _ => ⟨o, hx.keeps b o q, rfl⟩
  · have kp : ∀ b o, s.heap.get? b = some o → b ∉ frs X.stack → h''.get? b = some o := fun b o q nb => k b o (PySem.W.hideAll_get _ q nb)
    have sl : ∀ b o, s.heap.get? b = some o → b ∈ frs X.stack → ∃ sl, h''.get? b = some { o with slots := sl } := fun b o q hb => by
      obtain ⟨_, o', ho', hd⟩ := I.stack.mem hb
      rw [q] at ho'; cases ho'
      exact u b o (hx.keeps b o q) hd
    refine I.call' (s' := { s with heap := h'', toks := tk }) (ch := []) rfl ⟨fun b o q n hb _ => kp b o q hb, fun b o q n hb _ => sl b o q hb, fun b o q n _ => n, fun b o q _ => ?_, fun b xs q => q, fun b o u q => q, fun b ps q => ⟨#[], by rw [q]; simp⟩⟩ (fun a o q => ?_) I.bare (fun b z => absurd z (by simp))
    · by_cases hb : b ∈ frs X.stack
      · obtain ⟨sl', q'⟩ := sl b o q hb
        exact ⟨_, q'⟩
      · exact ⟨o, kp b o q hb⟩
    · refine (I.hok a o q).stay (fun c v hc qc => kp c v qc ?_) (fun _ z => z) fun _ _ z => z
      rcases hc with z | z
      · rw [z]; exact nf a o q
      · exact nf c _ z
  · cases z : H e with
    | none => rfl
    | some o =>
      obtain ⟨ob, hob⟩ := objOk_there (I.hok e o z)
      rw [hx.new] at hob; cases hob
end
end L2

namespace L2
open PySem PySem.Spec PyProof.Rows

abbrev TJ := Str → St → Hp → (Str → Hp → Prop) → Prop
def PJ (X : Cx) (vs : List Expr) (t : TJ) : Prop :=
  ∀ (pins : List (Addr × Obj)) (s : Shared) (σ : St) (H : Hp) (acc : Str) (Q : Str → Hp → Prop), Inv X pins σ H s → t acc σ H Q → Joins (model X.prog X.w) X.A X.xe (evalEach vs X.env) acc (fun out s1 => ∃ H', Inv X pins σ H' s1 ∧ Q out H') s
section
variable {X : Cx} {v v2 : Expr} {vs : List Expr} {te : TE} {t : TJ} {pos : Pos}
def tjNil : TJ := fun acc _ H Q => Q acc H
def tjCons (te : TE) (t : TJ) : TJ := fun acc σ H Q => te σ H fun x H1 => ∃ y, x = .str y ∧ (acc ++ y).length ≤ sizeLine ∧ t (acc ++ y) σ H1 Q
theorem pj_nil : PJ X [] tjNil := fun _ s _ H _ _ I h => show ∃ H', _ from ⟨H, I, h⟩
theorem pj_cons (he : PE X v te) (hr : PJ X vs t) : PJ X (v :: vs) (tjCons te t) := by
  intro pins s σ H acc Q I h
  show wpAny _ _ (eval v X.env) _ _ s
  refine thn (he pins s σ H _ I h) fun u s1 ⟨x, H1, I1, r1, y, ex, hl, q⟩ => ?_
  subst ex
  obtain ⟨tk, rfl⟩ := r1
  exact ⟨y, tk, rfl, hl, hr pins s1 σ H1 _ Q I1 q⟩
theorem pe_join (h : PJ X (v :: v2 :: vs) t) : PE X (.JoinedStr (v :: v2 :: vs) pos) (fun σ H Q => t Str.empty σ H fun out H' => out.length ≤ sizeLine ∧ Q (.str out) H') := by
  intro pins s σ H Q I q
  refine wpAny_JoinedStr ?_
  have z := h pins s σ H Str.empty _ I q
  have go : ∀ (l : List (Sem Value)) (acc : Str) (s : Shared), Joins (model X.prog X.w) X.A X.xe l acc (fun out s1 => ∃ H', Inv X pins σ H' s1 ∧ out.length ≤ sizeLine ∧ Q (.str out) H') s →
      Joins (model X.prog X.w) X.A X.xe l acc (fun out s1 => out.length ≤ sizeLine ∧ EP X pins σ Q (.str out s1.toks) { s1 with toks := s1.toks + 1 }) s := by
    intro l
    induction l with
    | nil =>
      intro acc s ⟨H', I', hl, q'⟩
      exact ⟨hl, .str acc, H', I'.tok _, ⟨_, rfl⟩, q'⟩
    | cons a r ih =>
      intro acc s hj
      exact thn hj fun u s1 ⟨y, tk, e, hl, q'⟩ => ⟨y, tk, e, hl, ih _ _ q'⟩
  exact go _ _ _ z
/-- {e} of an int -/
theorem pe_fv (he : PE X v te) : PE X (.FormattedValue v (-1) none pos) (fun σ H Q => te σ H fun x H1 => ∃ i : Int, x = .int i ∧ i.natAbs.log2 < 1920 ∧ Q (.str (toString i)) H1) := by
  intro pins s σ H Q I h
  refine wpAny_FormattedValue_plain (thn (he pins s σ H _ I h) fun u s1 ⟨x, H1, I1, r1, i, ex, hl, q⟩ => ?_)
  subst ex
  obtain ⟨tk, rfl⟩ := r1
  exact wpAny_formatField_int hl ⟨.str (toString i), H1, I1.tok _, ⟨_, rfl⟩, q⟩
end
theorem len_app (a b : Str) : (a ++ b).length = a.length + b.length := strLen_append a b
theorem len_int {i : Int} (h : i.natAbs.log2 < 1920) : (toString i : Str).length ≤ 1921 := by
  have e := int_text_length_le (k := 1920) (by decide) h
  show (Str.ofString (toString i)).length ≤ 1921
  rw [PySem.ofString_length]
  exact e

section
variable {X : Cx} {C : Addr} {x : Str} {np cpos pos : Pos} {e₀ : Expr} {es : List Expr} {t : TA}
theorem psx_raise (hg : Gl X x) (hm : X.mg x = some (.ref C)) (hq : PySem.W.excIn X.K C veMro "ValueError.__new__" = true) (hc : X.calm = true) (hex : X.ex = []) (ha : PA X.nox (e₀ :: es) t)
    (he : starEach (e₀ :: es) X.env = (false, eval e₀ X.env) :: starEach es X.env := by rfl) (hpl : (backTo cpos (starEach es X.env)).any (·.1) = false := by rfl) (hd : (x == ("__debug__" : Str)) = false := by decide) :
    PSX X (.Raise (some (.Call (.Name x np) (e₀ :: es) [] cpos)) none pos) (fun D R σ H => t σ H fun vs H1 => vs.length ≤ sizeLine ∧ R σ (.ref C) H1) := by
  intro pins s σ H D R I h
  obtain ⟨tl, N, nm, q, bs, hdct, sn, sub, ab, col, dd, k0, k1, k2, k3, k5, mN, hC, hN, hni, T⟩ := exc_obj I.ok.mod.kin hq
  refine wpAny_Raise_call_subT (C := C) (nm := nm) (q := q) (N := N) (bs := bs) (bm := tl) (hdct := hdct) (sn := sn) (sub := sub) (ab := ab) (col := col) (dd := dd) (k0 := k0) (k1 := k1) (k2 := k2) (k3 := k3) (k5 := k5)
    F.excBase_ValueError (mN := mN) (T.hasType F.excBase_ValueError.hasBase) (I.ok.hd hc) (by rw [he]; show (false || (backTo cpos (starEach es X.env)).any (·.1)) = false; rw [hpl]; rfl) hni (ld_glob I hg hm ⟨rfl, ?_⟩ hd)
  have h2 := ha cpos pins s σ H _ (I.wish _) h
  rw [he] at h2 ⊢
  refine Calls.evalArgs_plain (nx h2 fun us s2 ⟨vs, H1, I1, r, hl, q1⟩ => ⟨rfl, ?_, I1.unwish.bk _ _ hC, hN.keeps I1.unwish.bk, T.keeps I1.unwish.bk, fun h' e hx => ?_⟩)
  · show us.length ≤ sizeLine
    rw [← r.length]; exact hl
  · exact (I1.unwish.raised hex hx).imp fun _ _ _ ⟨a, b, c⟩ => by subst a b c; exact q1
end

section
variable {P : Program} {w : World} {K : PySem.W.Frag} {mg : Str → Option Value} {base : Heap}
theorem made_leaves {M : Model} {A : Around} {E : Value → Shared → Prop} {s : Shared} {B : Heap} {env : Env} {outer : List Env} {L e : Addr} {cls a0 : Value} {Q : Unit → Shared → Prop}
    (hfr : A.frames = some (env :: outer)) (hf : env.frame = some L) (h : MadeW B (env :: outer) e cls a0 s.heap ∨ Heap.FlyingW B (env :: outer) e cls a0 s.heap ∨ ∃ L, env.frame = some L ∧ Heap.HeldW B (env :: outer) e cls a0 L s.heap)
    (hQ : ∀ h', Heap.FlyingW B outer e cls a0 h' → s.heap.UpToSlots h' → Q () { s with heap := h' }) : wpAny M A (leaving env (.ref e)) Q E s := by
  rcases h with ⟨h1, h2, h3, oe, vs, he, hc, hd, h0, h1'⟩ | h | ⟨L', hL, hh⟩
  · subst hc
    refine wpAny_leaving_firstW hfr h3 hf he h1 h2 hd h1' h0 fun h' ⟨k1, ⟨_, _, k2⟩, k3, k4⟩ => hQ h' ⟨k1, h2, k2, k3⟩ k4
  · exact wpAny_leaves_onW hfr hf h hQ
  · rw [hf] at hL
    cases hL
    obtain ⟨g1, g2, g3, g4⟩ := id hh
    refine wpAny_bind (wpAny_noteFrame_againW hf g4 (wpAny_landsW hh fun h' fl up => hQ h' ⟨fl.1, fl.2.1, ?_, fl.2.2.2⟩ up))
    exact (show h'.FunFrames B (env :: outer) from fl.2.2.1).2.2
theorem Fun.okx {x qual : Str} {st : Stmt} {f : Addr} {fd : FuncData} {N ps : List Str} {k : Nat} {sp : Sp} (F : Fun K x qual st f fd) (S : FnScope N ps (defScope st)) (len : ∀ vs H Q E, sp vs H Q E → vs.length = ps.length)
    (hbody : ∀ (cdv : Value) (A : Around) (outer : List Env) (s : Shared) (H : Hp) (vs : List V) (Q : VK) (E : XK), Room k (A.deeper (envOfC qual (defScope st) s.heap.objs.size f cdv)) → sp vs H Q E →
      ∃ t, PSsX (cxOf (CXO P w) P w K mg base N qual (defScope st) f cdv A outer s H E) (defBody st) t ∧ t { nx := fun _ H' => Q .non H', rt := Q } (fun _ cls H' => E cls none H') (start N vs) H) : FnOk P w K mg base (CXO P w) (k + 1) f fd ps sp := by
  obtain ⟨oc, od, kV, doc, pm, an, cdv, ct, osl, rfl, lk, hcd⟩ := F.ex
  refine fn_of lk hcd S len fun A outer s H vs Q E hr hsp => ?_
  obtain ⟨t, h, q⟩ := hbody cdv A outer s H vs Q E hr hsp
  refine ⟨fun D σ H' => t D (fun _ cls H' => E cls none H') σ H', fun pins s1 σ H1 D I q1 => ?_, q⟩
  refine wpAny_mono (h pins s1 σ H1 D _ I q1) (fun _ _ z => z) fun v s2 hx => ?_
  obtain ⟨e, cls, a0, B, σ2, H2, rfl, fl, be, new, hE⟩ := hx
  have stay : B.StaysIn s2.heap := by
    rcases fl with z | z | ⟨_, _, z⟩
    · exact z.1
    · exact z.1
    · exact z.1
  have I2 := be.now stay
  refine made_leaves (L := s.heap.objs.size) I2.ok.frames rfl fl fun h' fl' up => ?_
  exact ⟨e, cls, a0, B, H2, rfl, I2.os, I2.bare, new.old, new.free, fl', fun h'' k u => (fun J => ⟨J.base, J.hok⟩) (be h'' s2.toks k (up.trans u)), hE⟩
end

/-- the context of an except suite -/
abbrev Cx.hand (X : Cx) (e : Addr) : Cx := { X with A := X.A.mark (some (.ref e)), calm := false }
section
variable {X : Cx} {pins : List (Addr × Obj)} {σ : St} {H : Hp} {s : Shared}
theorem Cx.Ok.hand (ok : X.Ok) (e : Addr) : (X.hand e).Ok :=
  ⟨ok.mod, ok.kind, ok.glob, ok.blt, ok.above, ok.inj, ok.has, ok.cab, (fun z => Bool.noConfusion z), ok.frames, ok.stk, ok.exf, ok.bs, ok.bsz, ok.noex, ok.exfs, ok.funs, ok.frf⟩
theorem Inv.hand (I : Inv X pins σ H s) (e : Addr) : Inv (X.hand e) pins σ H s := ⟨I.ok.hand e, I.os, I.bare, I.base, I.loc, I.cell, I.free, I.freeC, I.pin, I.hok, I.len⟩
theorem Inv.unhand {e : Addr} (I : Inv (X.hand e) pins σ H s) (ok : X.Ok) : Inv X pins σ H s := ⟨ok, I.os, I.bare, I.base, I.loc, I.cell, I.free, I.freeC, I.pin, I.hok, I.len⟩
end
theorem made_looks {M : Model} {A : Around} {E : Value → Shared → Prop} {s : Shared} {B : Heap} {env : Env} {outer : List Env} {L e : Addr} {cls a0 : Value} {Q : Unit → Shared → Prop}
    (hfr : A.frames = some (env :: outer)) (hf : env.frame = some L) (h : MadeW B (env :: outer) e cls a0 s.heap ∨ Heap.FlyingW B (env :: outer) e cls a0 s.heap ∨ ∃ L, env.frame = some L ∧ Heap.HeldW B (env :: outer) e cls a0 L s.heap)
    (hQ : ∀ h', Heap.HeldW B (env :: outer) e cls a0 L h' → s.heap.UpToSlots h' → Q () { s with heap := h' }) : wpAny M A (noteFrame (.ref e) env) Q E s := by
  rcases h with ⟨h1, h2, h3, oe, vs, he, hc, hd, h0, h1'⟩ | h | ⟨L', hL, hh⟩
  · subst hc
    unfold noteFrame
    simp only [hf]
    refine wpAny_bind (wpAny_field he hd h1' ?_)
    rw [if_neg (by decide)]
    exact wpAny_entryW hfr h3 hf he h1 h2 hd (Array.getElem?_eq_some_iff.mp h1').1 h0 fun h' ⟨k1, k2, k3, k4⟩ => hQ h' ⟨k1, h2, k2, k3⟩ k4
  · exact wpAny_looks_onW hfr hf h hQ
  · rw [hf] at hL
    cases hL
    exact wpAny_noteFrame_againW hf hh.2.2.2 (hQ s.heap hh (Heap.UpToSlots.refl _))
section
variable {X : Cx} {C : Addr} {i : Nat} {x n : Str} {np hpos pos : Pos} {body suite : List Stmt} {b₀ : Stmt} {tb : TSX} {ts : TS}
end
end L2

namespace L2
open PySem PySem.Spec PyProof.Rows
section
variable {X : Cx} {tg : Expr}
theorem XP.passes {pins : List (Addr × Obj)} {R : XR} (hst : X.stack = X.env :: X.outer) (hf : X.env.frame = some X.env.locals) : PassesOwn (model X.prog X.w) X.A X.env (XP X pins R) := by
  intro x s1 hx
  obtain ⟨e, cls, a0, B, σ1, H1, rfl, fl, be, new, q⟩ := hx
  have stay : B.StaysIn s1.heap := by
    rcases fl with z | z | ⟨_, _, z⟩
    · exact z.1
    · exact z.1
    · exact z.1
  have I1 := be.now stay
  have hfr := I1.ok.frames
  rw [hst] at fl hfr
  refine made_looks hfr hf fl fun h4 held up4 => ?_
  obtain ⟨g1, g2, g3, oe, vs, T, oT, ts, k1, ⟨k2, k3⟩, k4, k5, k6, k7, k8, k9, k10⟩ := id held
  show wpAny _ _ _ _ _ _
  rw [hf]
  refine wpAny_bind (wpAny_field k1 k4 k5 ?_)
  rw [if_neg (by simp)]
  unfold setFlight
  refine wpAny_bind (wpAny_field k1 k4 k5 ?_)
  rw [if_pos (by simp)]
  refine wpAny_setField k8 k9 (Array.getElem?_eq_some_iff.mp k10).1 ?_
  have eu := Heap.update_setField_same h4 T oT ts 3 (rawInt X.env.locals) k8 k9 k10
  show XP X pins R (.ref e) { s1 with heap := h4.update T (Obj.mapFields fun x => x.setIfInBounds 3 (rawInt X.env.locals)) }
  rw [eu]
  exact ⟨e, cls, a0, B, σ1, H1, rfl, .inr (.inr ⟨X.env.locals, hf, by rw [hst]; exact held⟩), fun h' tk k u => be h' tk k (up4.trans u), new, q⟩
theorem XP.unpinned {pins pl : List (Addr × Obj)} {R : XR} {x : Value} {s' : Shared} (h : XP X (pins ++ pl) R x s') : XP X pins R x s' := by
  obtain ⟨e, cls, a0, B, σ1, H1, rfl, fl, be, new, q⟩ := h
  refine ⟨e, cls, a0, B, σ1, H1, rfl, fl, fun h' tk k u => (be h' tk k u).unpinned, ⟨new.old, new.loc, new.fs, new.cell, fun p hp => new.pin p ?_, new.free⟩, q⟩
  rcases List.mem_append.mp hp with m | m
  · exact List.mem_append_left _ m
  · exact List.mem_append_right _ (List.mem_append_left _ m)
def txFor (wi : TI) (g : TG) (tb : TSX) : TSX := fun D R σ H => tFor wi g (fun D' σ' H' => tb D' R σ' H') D σ H
theorem psx_for {iter : Expr} {body : List Stmt} {wi : TI} {g : TG} {tb : TSX} {pos : Pos} (hst : X.stack = X.env :: X.outer) (hf : X.env.frame = some X.env.locals) (hc : X.calm = true) (hi : PI X.nox tg iter wi) (hg : PG X.nox tg g) (hb : PSsX X body tb)
    (hs : ∀ x, foldedSetIterable iter X.env x = pure x := by intro _; rfl) : PSX X (.For tg iter body [] pos) (txFor wi g tb) := by
  intro pins s σ H D R I h
  have hp : PassesOwn (model X.prog X.w) X.A X.env (XP X pins R) := XP.passes hst hf
  refine wpAny_For (nx (hi pins s σ H _ (I.wish _) h) fun v s1 h1 => nx h1 fun itv s2 h2 => ?_) hs
  obtain ⟨it, fp, tn, J, H2, e, I2', T, st2, f2', W, ⟨m0, w0⟩, turn⟩ := h2
  have I2 := I2'.unwish
  have f2 : ∀ b ∈ fp, FpOk X pins H2 b := fun b hb => f2' b hb
  subst e
  have stat : ∀ {H' : Hp}, (∀ b ∈ fp, H' b = none) → ∀ b ∈ fp, FpOk X pins H' b := fun hn b hb => ⟨hn b hb, (f2 b hb).2⟩
  refine codeAny_forLoop_any (fun n s' => ∃ i σ' H', Inv X pins σ' H' s' ∧ tn i s'.heap ∧ (∀ b ∈ fp, H' b = none) ∧ W i n σ' H') ?_ m0 ⟨0, σ, H2, I2, st2, fun b hb => (f2 b hb).1, w0⟩
  rintro n s3 ⟨i, σ3, H3, I3, st3, fr3, w3⟩
  rcases turn i n σ3 H3 w3 with ⟨stop, qn⟩ | ⟨go, N, hN, step⟩
  · refine wpAny_passesOwn hp (thn (T.done X rfl rfl rfl hc i pins s3 σ3 H3 _ I3 (stat fr3) st3 stop) fun r s4 ⟨hr, I4⟩ => ?_)
    subst hr
    exact wpAny_execs_nil ⟨σ3, H3, I4, qn⟩
  · refine wpAny_passesOwn hp (thn (T.item X rfl rfl rfl hc i pins s3 σ3 H3 _ I3 (stat fr3) st3 go) fun r s4 ⟨u, hr, h4⟩ => ?_)
    subst hr
    refine wpAny_passesOwn hp (thn h4 fun _ s5 ⟨x, H5, I5, r5, y5, st5, fr5⟩ => ?_)
    have I5' := I5.pinned (stat fr5) (T.obj _ _ st5)
    refine wpAny_passesOwn hp (nx (hg _ s5 σ3 H5 x u _ (I5'.wish _) r5 (step x H5 y5)) fun _ s6 ⟨σ6, H6, I6, q6⟩ => ?_)
    refine wpAny_passesOwn hp (wpAny_mono (hb _ s6 σ6 H6 _ R I6.unwish q6) (fun f s7 q7 => ?_) fun _ _ z => z.unpinned)
    have again : ∀ {σ7 : St} {H7 : Hp}, Inv X (pins ++ pinsAt fp s5.heap) σ7 H7 s7 → N σ7 H7 → ∃ m, m < n ∧ ∃ i σ' H', Inv X pins σ' H' s7 ∧ tn i s7.heap ∧ (∀ b ∈ fp, H' b = none) ∧ W i m σ' H' := fun {σ7 H7} I7 n7 => by
      obtain ⟨m', hm, w7⟩ := hN σ7 H7 n7
      refine ⟨m', hm, i + 1, σ7, H7, I7.unpinned, T.keep _ _ _ st5 fun b hb o e => (I7.pin (b, o) (List.mem_append_right _ (List.mem_append_right _ (mem_pinsAt hb e)))).1, fun b hb => ?_, w7⟩
      obtain ⟨o, e, d⟩ := T.obj _ _ st5 b hb
      exact (I7.pin (b, o) (List.mem_append_right _ (List.mem_append_right _ (mem_pinsAt hb e)))).2.1
    cases f with
    | next => obtain ⟨σ7, H7, I7, n7⟩ := q7; exact again I7 n7
    | cont => obtain ⟨σ7, H7, I7, n7⟩ := q7; exact again I7 n7
    | brk => obtain ⟨σ7, H7, I7, q7⟩ := q7; exact ⟨σ7, H7, I7.unpinned, q7⟩
    | ret v => obtain ⟨x7, σ7, H7, I7, r7, q7⟩ := q7; exact ⟨x7, σ7, H7, I7.unpinned, r7, q7⟩
end
def tTry0 (K : PySem.W.Frag) (C : Addr) (tb : TSX) (ts : TS) : TS := fun D σ H => tb D (fun σ' cls H' => PySem.W.exmOne K cls (.ref C) = some true ∧ ts D σ' H') σ H
section
variable {X : Cx} {C : Addr} {x : Str} {np hpos pos : Pos} {body suite : List Stmt} {b₀ : Stmt} {tb : TSX} {ts : TS}
theorem ps_try0 (hst : X.stack = X.env :: X.outer) (hf : X.env.frame = some X.env.locals) (hg : Gl X x) (hm : X.mg x = some (.ref C))
    (hb : PSsX X body tb) (hs : ∀ e, PSs (X.hand e).nox (b₀ :: suite) ts) (hd : (x == ("__debug__" : Str)) = false := by decide) :
    PS X (.Try body [.ExceptHandler (some (.Name x np)) none (b₀ :: suite) hpos] [] [] pos) (tTry0 X.K C tb ts) := by
  intro pins s σ H D I h
  refine wpAny_Try_except (wpAny_mono (hb pins s σ H D _ I h) (fun f s1 q => ?_) fun v s1 hx => ?_)
  · cases f with
    | next => exact wpAny_execs_nil q
    | ret v => exact q
    | brk => exact q
    | cont => exact q
  obtain ⟨e, cls, a0, B, σ1, H1, rfl, fl, be, new, hmt, hk⟩ := hx
  have stay : B.StaysIn s1.heap := by
    rcases fl with z | z | ⟨_, _, z⟩
    · exact z.1
    · exact z.1
    · exact z.1
  have I1 := be.now stay
  have hfr := I1.ok.frames
  rw [hst] at fl hfr
  have okX := I1.ok
  refine made_looks hfr hf fl fun h4 held up4 => ?_
  refine wpAny_landsW held fun h5 fl5 up5 => ?_
  have up5' := up4.trans up5
  have I5 := (be h5 s1.toks fl5.1 up5').hand e
  obtain ⟨ob, hob, hobc⟩ := fl5.there
  refine wpAny_handleBy_cons (codeAny_handlers_test (ld_glob (X := X.hand e) I5 hg hm ?_ hd)) (by intro q; cases q)
  have LT : PySem.W.Looks (model X.prog X.w) h5 (typeOf (.ref e)) cls := hobc ▸ (PySem.W.Looks.ld hob).andThen .now
  refine (PySem.W.exm_one I5.kIn LT hmt).here (s := { s1 with heap := h5 }) ?_
  refine codeAny_handlers_suite ?_
  refine lands_againW fl5 fun h6 fl6 up6 => ?_
  have I6 := (be h6 s1.toks fl6.1 (up5'.trans up6)).hand e
  refine nx (hs e pins _ _ _ _ (I6.wish _) hk) fun f s8 hq => ?_
  have fin : ∀ {σ8 : St} {H8 : Hp}, Inv (X.hand e).nox pins σ8 H8 s8 → Inv X pins σ8 H8 s8 := fun I8 => (I8.unwish).unhand okX
  cases f with
  | next =>
    obtain ⟨σ8, H8, I8, q⟩ := hq
    exact ⟨_, _, fin I8, q⟩
  | brk =>
    obtain ⟨σ8, H8, I8, q⟩ := hq
    exact ⟨_, _, fin I8, q⟩
  | cont =>
    obtain ⟨σ8, H8, I8, q⟩ := hq
    exact ⟨_, _, fin I8, q⟩
  | ret u =>
    obtain ⟨v, σ8, H8, I8, rv, q⟩ := hq
    exact ⟨v, _, _, fin I8, rv, q⟩
end
end L2

namespace L2
open PySem PySem.Spec PyProof.Rows

section
variable {κ : Type} [DecidableEq κ]
def valV (kvs : List (κ × V)) (k : κ) : Option V := (kvs.find? fun kv => decide (kv.1 = k)).map (·.2)
/-- in its place, or at the end -/
def putK (kvs : List (κ × V)) (k : κ) (v : V) : List (κ × V) :=
  if (kvs.any fun kv => decide (kv.1 = k)) = true then kvs.map (fun kv => if kv.1 = k then (kv.1, v) else kv) else kvs ++ [(k, v)]
theorem valV_pos {p : κ × V} {r : List (κ × V)} {k : κ} (e : p.1 = k) : valV (p :: r) k = some p.2 := by simp [valV, List.find?_cons, e]
theorem valV_neg {p : κ × V} {r : List (κ × V)} {k : κ} (e : ¬ p.1 = k) : valV (p :: r) k = valV r k := by simp [valV, List.find?_cons, e]
theorem valV_any (k : κ) : ∀ kvs : List (κ × V), (kvs.any fun kv => decide (kv.1 = k)) = (valV kvs k).isSome
  | [] => rfl
  | p :: r => by
    rw [List.any_cons]
    by_cases e : p.1 = k
    · simp only [valV_pos e, decide_eq_true e, Bool.true_or, Option.isSome_some]
    · rw [valV_neg e, decide_eq_false e, Bool.false_or]; exact valV_any k r
theorem length_putK (kvs : List (κ × V)) (k : κ) (v : V) : (putK kvs k v).length ≤ kvs.length + 1 := by
  unfold putK
  split
  · rw [List.length_map]; omega
  · rw [List.length_append, List.length_cons, List.length_nil]; omega
theorem putK_new {kvs : List (κ × V)} {k : κ} (v : V) (h : valV kvs k = none) : putK kvs k v = kvs ++ [(k, v)] := by
  unfold putK
  rw [valV_any, h]
  exact if_neg (by decide)

theorem RelO.isSome_eq {o : Option V} {u : Option Value} (r : RelO o u) : o.isSome = u.isSome := by
  cases o with
  | none => cases u with
    | none => rfl
    | some _ => exact (show False from r).elim
  | some _ => cases u with
    | none => exact (show False from r).elim
    | some _ => rfl
theorem RelO.getD {o : Option V} {u : Option Value} {d : V} {d' : Value} (r : RelO o u) (rd : RelV d d') : RelV (o.getD d) (u.getD d') := by
  cases o with
  | none => cases u with
    | none => exact rd
    | some _ => exact (show False from r).elim
  | some _ => cases u with
    | none => exact (show False from r).elim
    | some _ => exact r

/-- raw tables of the same keys -/
theorem KV.val {kvs : List (κ × V)} {vs : List (κ × Value)} (r : KV kvs vs) (k : κ) : RelO (valV kvs k) (valueAt vs k) := by
  unfold KV at r
  induction r with
  | nil => exact True.intro
  | @cons p q ps qs h t ih =>
    obtain ⟨h1, h2⟩ := h
    by_cases e : p.1 = k
    · have e' : q.1 = k := h1.symm.trans e
      have b : valueAt (q :: qs) k = some q.2 := by simp [valueAt, List.find?_cons, e']
      rw [valV_pos e, b]; exact h2
    · have e' : ¬ q.1 = k := fun z => e (h1.trans z)
      have b : valueAt (q :: qs) k = valueAt qs k := by simp [valueAt, List.find?_cons, e']
      rw [valV_neg e, b]; exact ih
theorem KV.any {kvs : List (κ × V)} {vs : List (κ × Value)} (r : KV kvs vs) (k : κ) : (kvs.any fun kv => decide (kv.1 = k)) = vs.any fun kv => decide (kv.1 = k) := by
  unfold KV at r
  induction r with
  | nil => rfl
  | cons h t ih => rw [List.any_cons, List.any_cons, ih, h.1]
theorem KV.repl {kvs : List (κ × V)} {vs : List (κ × Value)} (r : KV kvs vs) (k : κ) {y : V} {u : Value} (ry : RelV y u) :
    KV (kvs.map fun kv => if kv.1 = k then (kv.1, y) else kv) (vs.map fun kv => if kv.1 = k then (kv.1, u) else kv) := by
  unfold KV at r ⊢
  induction r with
  | nil => exact .nil
  | @cons p q ps qs h t ih =>
    rw [List.map_cons, List.map_cons]
    refine .cons ?_ ih
    obtain ⟨h1, h2⟩ := h
    by_cases e : p.1 = k
    · rw [if_pos e, if_pos (h1.symm.trans e)]; exact ⟨h1, ry⟩
    · rw [if_neg e, if_neg (fun z => e (h1.trans z))]; exact ⟨h1, h2⟩
theorem KV.put {kvs : List (κ × V)} {vs : List (κ × Value)} (r : KV kvs vs) (k : κ) {y : V} {u : Value} (ry : RelV y u) : KV (putK kvs k y) (stored vs k u) := by
  unfold putK stored
  rw [r.any k]
  by_cases e : (vs.any fun kv => decide (kv.1 = k)) = true
  · rw [if_pos e, if_pos e]; exact r.repl k ry
  · rw [if_neg e, if_neg e]; exact Paired.snoc r ⟨rfl, ry⟩
theorem KV.keys {kvs : List (κ × V)} {vs : List (κ × Value)} (r : KV kvs vs) : kvs.map (·.1) = vs.map (·.1) := by
  unfold KV at r
  induction r with
  | nil => rfl
  | cons h t ih => rw [List.map_cons, List.map_cons, ih, h.1]
theorem KV.length {kvs : List (κ × V)} {vs : List (κ × Value)} (r : KV kvs vs) : kvs.length = vs.length := Paired.length r
end


theorem kV_is {P : Program} {w : World} {k : Key} {u : Value} (r : RelV (kV k) u) : (mixKind P w).is k u = true := by
  cases k with
  | inl i => obtain ⟨t, e⟩ := (show ∃ t, u = Value.int i t from r); subst e; exact mixKind_int P w i t
  | inr x => obtain ⟨t, e⟩ := (show ∃ t, u = Value.str x t from r); subst e; exact mixKind_str P w x t
theorem items_are {P : Program} {w : World} : ∀ {ks : List Key} {us : List Value}, Vals (ks.map kV) us → ItemsAre (mixKind P w) ks us
  | [], _, r => by rw [List.map_nil] at r; cases r; exact .nil
  | k :: ks, _, r => by
    rw [List.map_cons] at r
    cases r with
    | cons h t => exact .cons (kV_is h) (items_are t)

/-- raw entries of a dict with tuple keys -/
abbrev KT (H : Hp) : List (List Key × V) → List (List Key × Addr × Value) → Prop := Paired fun p q => p.1 = q.1 ∧ H q.2.1 = some (.tup (p.1.map kV)) ∧ RelV p.2 q.2.2
theorem KT.val {H : Hp} {kvs : List (List Key × V)} {xs : List (List Key × Addr × Value)} (r : KT H kvs xs) (k : List Key) : RelO (valV kvs k) ((atKey xs k).map (·.2)) := by
  induction r with
  | nil => exact True.intro
  | @cons p q ps qs h t ih =>
    obtain ⟨h1, _, h2⟩ := h
    by_cases e : p.1 = k
    · have e' : q.1 = k := h1.symm.trans e
      have b : atKey (q :: qs) k = some q.2 := by simp [atKey, List.find?_cons, e']
      rw [valV_pos e, b]; exact h2
    · have e' : ¬ q.1 = k := fun z => e (h1.trans z)
      have b : atKey (q :: qs) k = atKey qs k := by simp [atKey, List.find?_cons, e']
      rw [valV_neg e, b]; exact ih
theorem KT.repl {H : Hp} {kvs : List (List Key × V)} {xs : List (List Key × Addr × Value)} (r : KT H kvs xs) (k : List Key) {y : V} {u : Value} (ry : RelV y u) :
    KT H (kvs.map fun kv => if kv.1 = k then (kv.1, y) else kv) (xs.map (putAt k u)) := by
  induction r with
  | nil => exact .nil
  | @cons p q ps qs h t ih =>
    rw [List.map_cons, List.map_cons]
    refine .cons ?_ ih
    obtain ⟨h1, h2, h3⟩ := h
    unfold putAt
    by_cases e : p.1 = k
    · rw [if_pos e, if_pos (h1.symm.trans e)]; exact ⟨h1, h2, ry⟩
    · rw [if_neg e, if_neg (fun z => e (h1.trans z))]; exact ⟨h1, h2, h3⟩
theorem KT.put {H : Hp} {kvs : List (List Key × V)} {xs : List (List Key × Addr × Value)} (r : KT H kvs xs) (k : List Key) {b : Addr} {y : V} {u : Value} (hb : H b = some (.tup (k.map kV))) (ry : RelV y u) :
    KT H (putK kvs k y) (storedH xs k b u) := by
  have e : (kvs.any fun kv => decide (kv.1 = k)) = (atKey xs k).isSome := by
    rw [valV_any, (r.val k).isSome_eq, Option.isSome_map]
  unfold putK storedH
  rw [e]
  by_cases q : (atKey xs k).isSome = true
  · rw [if_pos q, if_pos q]; exact r.repl k ry
  · rw [if_neg q, if_neg q]; exact Paired.snoc r ⟨rfl, hb, ry⟩
theorem KT.keeps {H H' : Hp} {kvs : List (List Key × V)} {xs : List (List Key × Addr × Value)} (r : KT H kvs xs) (ht : ∀ b ys, H b = some (.tup ys) → H' b = some (.tup ys)) : KT H' kvs xs :=
  Paired.mapP r fun _ _ z => ⟨z.1, ht _ _ z.2.1, z.2.2⟩

section
variable {P : Program} {w : World} {H : Hp} {h : Heap} {a : Addr}
theorem rd_of {u : HO} (ok : HOk P w H h) (e : Rd H a u) : ObjOk P w H h a u := e.ok ok
theorem dk_rd {kvs : List (Key × V)} (ok : HOk P w H h) (e : Rd H a (.dK kvs)) : kvs.length ≤ sizeLine ∧ (a == sysModules) = false ∧ ∃ vs, KV kvs vs ∧ h.DictOf (mixKind P w) a vs :=
  show ObjOk P w H h a (.dK kvs) from rd_of ok e
theorem dk_of {kvs : List (Key × V)} (ok : HOk P w H h) (e : H a = some (.dK kvs)) : kvs.length ≤ sizeLine ∧ (a == sysModules) = false ∧ ∃ vs, KV kvs vs ∧ h.DictOf (mixKind P w) a vs := dk_rd ok (.inl e)
/-- a tracked tuple of ints and texts is a key -/
theorem key_of {ks : List Key} (ok : HOk P w H h) (e : H a = some (.tup (ks.map kV))) : (tupleKind (mixKind P w)).is h ks a := by
  obtain ⟨_, its, r, o, h1, h2, n, h3⟩ := (show ObjOk P w H h a (.tup (ks.map kV)) from ok a _ e)
  exact ⟨o, its.toArray, n, h1, h2, h3, by simpa using items_are r⟩
theorem dt_rd {kvs : List (List Key × V)} (ok : HOk P w H h) (e : Rd H a (.dT kvs)) : kvs.length ≤ sizeLine ∧ (a == sysModules) = false ∧
    ∃ xs, KT H kvs xs ∧ h.DictOfH (tupleKind (mixKind P w)) a xs := by
  obtain ⟨z, y, xs, r, o, es, ep, h1, h2, h3, h4, h5⟩ := (show ObjOk P w H h a (.dT kvs) from rd_of ok e)
  refine ⟨z, y, xs, r, o, es, ep, h1, h2, h3, h4, fun x hx => ?_, h5⟩
  have all : ∀ {l : List (List Key × V)} {m : List (List Key × Addr × Value)}, KT H l m → ∀ x ∈ m, (tupleKind (mixKind P w)).is h x.1 x.2.1 := by
    intro l m q
    induction q with
    | nil => intro x hx; exact nomatch hx
    | @cons p q ps qs hq t ih =>
      intro x hx
      rcases List.mem_cons.mp hx with e | hx
      · subst e
        exact key_of ok (by rw [← hq.1]; exact hq.2.1)
      · exact ih x hx
  exact all r x hx
theorem dt_of {kvs : List (List Key × V)} (ok : HOk P w H h) (e : H a = some (.dT kvs)) : kvs.length ≤ sizeLine ∧ (a == sysModules) = false ∧
    ∃ xs, KT H kvs xs ∧ h.DictOfH (tupleKind (mixKind P w)) a xs := dt_rd ok (.inl e)
end

/-- what the dict at a holds at the key y -/
def DGet (H : Hp) (a : Addr) (y : V) (r : Option V) : Prop :=
  (∃ kvs k, Rd H a (.dK kvs) ∧ y = kV k ∧ r = valV kvs k) ∨ ∃ kvs k b, Rd H a (.dT kvs) ∧ y = .ref b ∧ H b = some (.tup (k.map kV)) ∧ r = valV kvs k
/-- the heap behind a[y] = v -/
def DPut (H : Hp) (a : Addr) (y v : V) (H' : Hp) : Prop :=
  (∃ kvs k, H a = some (.dK kvs) ∧ y = kV k ∧ kvs.length < sizeLine ∧ H' = upd H a (.dK (putK kvs k v))) ∨
  ∃ kvs k b, H a = some (.dT kvs) ∧ y = .ref b ∧ H b = some (.tup (k.map kV)) ∧ kvs.length < sizeLine ∧ H' = upd H a (.dT (putK kvs k v))
theorem DGet.k {H : Hp} {a : Addr} {kvs : List (Key × V)} {k : Key} (e : H a = some (.dK kvs)) : DGet H a (kV k) (valV kvs k) := .inl ⟨kvs, k, .inl e, rfl, rfl⟩
theorem DPut.k {H : Hp} {a : Addr} {kvs : List (Key × V)} {k : Key} {v : V} (e : H a = some (.dK kvs)) (hl : kvs.length < sizeLine) : DPut H a (kV k) v (upd H a (.dK (putK kvs k v))) := .inl ⟨kvs, k, e, rfl, hl, rfl⟩
section
variable {X : Cx} {pins : List (Addr × Obj)} {σ : St} {H : Hp} {s : Shared} {a : Addr} {y v : V} {u r : Value} {o : Option V} {A : Around} {E : Value → Shared → Prop}

theorem Inv.big (I : Inv X pins σ H s) : sysModules < s.heap.objs.size := by
  have h : mainGlobals < s.heap.objs.size := (I.mod.glob.keeps I.bk).lt
  exact Nat.lt_trans (by decide) h

/-- d[y], there -/
theorem d_getItem {Q : Value → Shared → Prop} (hu : A.units + 1 < cLine) (I : Inv X pins σ H s) (g : DGet H a y (some v)) (ry : RelV y u) (h : ∀ w' s', Inv X pins σ H s' → RelV v w' → Q w' s') :
    wpAny (model X.prog X.w) A (getItem (.ref a) u) Q E s := by
  rcases g with ⟨kvs, k, e, ey, l⟩ | ⟨kvs, k, b, e, ey, eb, l⟩
  · subst ey
    obtain ⟨z, hd, vs, rel, dd⟩ := dk_rd I.hok e
    obtain ⟨w', hw, rw'⟩ := RelO.some_of (v := v) (o := valueAt vs k) (by rw [l]; exact rel.val k)
    exact wpAny_getItem_of (kV_is ry) dd.mapOf hw (h w' _ (I.tok _) rw')
  · subst ey
    cases (show u = Value.ref b from ry)
    obtain ⟨z, hd, xs, rel, dd⟩ := dt_rd I.hok e
    obtain ⟨w', hw, rw'⟩ := RelO.some_of (v := v) (o := (atKey xs k).map (·.2)) (by rw [l]; exact rel.val k)
    obtain ⟨p, hp, hp2⟩ := Option.map_eq_some_iff.mp hw
    refine wpAny_getItem_heap (tupleKind_room_in1 hu) (key_of I.hok eb) dd hp ?_
    rw [hp2]
    exact h w' _ (I.tok _) rw'
/-- a dict's object is replaced -/
theorem d_write {h' : Heap} {t' : Nat} {ob : HO} (I : Inv X pins σ H s) (mu : Mut (H a)) (hs : Heap.SameBut a s.heap h') (he : ∃ q, h'.get? a = some q) (new : ObjOk X.prog X.w (upd H a ob) h' a ob) :
    Inv X pins σ (upd H a ob) { s with heap := h', toks := t' } :=
  I.write (x := a) (e := a) mu (.inl rfl) (fun b q hb z => (hs.2 b hb).trans z) he new
theorem dk_new {P : Program} {w : World} {H' : Hp} {h' : Heap} {kvs : List (Key × V)} {vs : List (Key × Value)} (z : kvs.length ≤ sizeLine) (hd : (a == sysModules) = false) (rel : KV kvs vs) (dd : h'.DictOf (mixKind P w) a vs) :
    ObjOk P w H' h' a (.dK kvs) := ⟨z, hd, vs, rel, dd⟩
/-- d[y] = v -/
theorem d_setItem {H' : Hp} {Q : Unit → Shared → Prop} (hu : A.units + 1 < cLine) (I : Inv X pins σ H s) (g : DPut H a y v H') (ry : RelV y u) (rv : RelV v r) (h : ∀ s', Inv X pins σ H' s' → Q () s') :
    wpAny (model X.prog X.w) A (setItem (.ref a) u r) Q E s := by
  rcases g with ⟨kvs, k, e, ey, l, eH⟩ | ⟨kvs, k, b, e, ey, eb, l, eH⟩
  · subst ey eH
    obtain ⟨z, hd, vs, rel, dd⟩ := dk_of I.hok e
    have hz : vs.length ≤ sizeLine := by rw [← rel.length]; exact z
    have hl : (putK kvs k v).length ≤ sizeLine := by have := length_putK kvs k v; omega
    refine wpAny_setItem_pairs (hsz := hz) (kV_is ry) dd fun h' dd' hs => h _ ?_
    have he : ∃ q, h'.get? a = some q := let ⟨q, _, _, hq, _⟩ := dd'; ⟨q, hq⟩
    exact d_write I (by rw [e]; exact True.intro) hs he (dk_new hl hd (rel.put k rv) dd')
  · subst ey eH
    cases (show u = Value.ref b from ry)
    obtain ⟨z, hd, xs, rel, dd⟩ := dt_of I.hok e
    have hz : xs.length ≤ sizeLine := by rw [← Paired.length rel]; exact z
    have hl : (putK kvs k v).length ≤ sizeLine := by have := length_putK kvs k v; omega
    refine wpAny_setItem_heap (hsz := hz) (tupleKind_room_in1 hu) (key_of I.hok eb) dd fun h' dd' hs => h _ ?_
    obtain ⟨q, es, ep, hq, h2, h3, h4, _, h5⟩ := dd'
    refine d_write I (by rw [e]; exact True.intro) hs ⟨q, hq⟩ ⟨hl, hd, _, (rel.put k eb rv).keeps fun c ys ec => ?_, q, es, ep, hq, h2, h3, h4, h5⟩
    rw [upd_ne (ne_of ec e (fun z => nomatch z))]
    exact ec
end

section
variable {X : Cx} {pins : List (Addr × Obj)} {σ : St} {H : Hp} {s : Shared} {a : Addr} {kvs : List (Key × V)} {k : Key} {u : Value} {A : Around} {E : Value → Shared → Prop}
/-- len(d) -/
theorem d_len {Q : Value → Shared → Prop} (I : Inv X pins σ H s) (e : Rd H a (.dK kvs)) (h : ∀ t s', Inv X pins σ H s' → Q (.int kvs.length t) s') : wpAny (model X.prog X.w) A (call (.builtin "len") [.ref a]) Q E s := by
  obtain ⟨z, hd, vs, rel, dd⟩ := dk_rd I.hok e
  refine call_len_dict hd dd (by rw [← rel.length]; rw [sizeLine_eq] at z; omega) ?_
  rw [← rel.length]
  exact h _ _ (I.tok _)
end


/-- the element of a subscription, not a slice -/
def NoSl (i : Expr) : Prop := ∀ ov iv, subscripted i false ov iv = operate [ov, iv] (getItem ov iv)
theorem subD_of {prog : Program} {w : World} {A : Around} {E : Value → Shared → Prop} {s : Shared} {env : Env} {value slice : Expr} {pos : Pos} {T id : String} {Q : Value → Shared → Prop}
    (hl : typeLookup (.type T) "__getitem__" = pure (some (.builtin id))) (hs : NoSl slice)
    (h : wpAny (model prog w) A (eval value env) (fun o s₁ => wpAny (model prog w) A (eval slice env) (fun i s₂ => s₂.TypeIs o T ∧ wpAny (model prog w) A (getItem o i) Q E s₂) E s₁) E s) :
    wpAny (model prog w) A (eval (.Subscript value slice pos) env) Q E s := by
  refine Subscript_ (wpAny_mono h (fun o s₁ h₁ => wpAny_mono h₁ (fun i s₂ h₂ => ?_) fun _ _ x => x) fun _ _ x => x)
  obtain ⟨hT, h₂⟩ := h₂
  unfold subscriptTail
  refine wpAny_bind ?_
  rw [getitemInPython_of_ne hT.not_modules]
  refine wpAny_bind (wpAny_specialOf hT hl ?_)
  have fin : wpAny (model prog w) A (subscripted slice false o i) (fun r s₃ => wpAny (model prog w) A (letTemporaryGo value o r >>= fun _ => pure r) Q E s₃) E s₂ := by
    rw [hs o i]
    exact wpAny_operating (wpAny_mono h₂ (fun r s₃ h₃ => wpAny_bind (wpAny_letTemporaryGo (wpAny_pure h₃))) fun _ _ x => x)
  first
    | exact wpAny_pure (wpAny_bind fin)
    | exact wpAny_bind (wpAny_pure (wpAny_bind fin))
    | exact wpAny_bind fin

theorem dict_typeIs {X : Cx} {pins : List (Addr × Obj)} {σ : St} {H : Hp} {s : Shared} {a : Addr} {y : V} {o : Option V} (I : Inv X pins σ H s) (g : DGet H a y o) : s.TypeIs (.ref a) "dict" := by
  rcases g with ⟨kvs, k, e, _, _⟩ | ⟨kvs, k, b, e, _, _, _⟩
  · obtain ⟨_, _, vs, _, dd⟩ := dk_rd I.hok e
    exact dd.typeIs
  · obtain ⟨_, _, xs, _, dd⟩ := dt_rd I.hok e
    exact dd.typeIs
/-- d[y] -/
def tDGet (td ty : TE) : TE := fun σ H Q => td σ H fun x H1 => ty σ H1 fun y H2 => ∃ a v, x = .ref a ∧ DGet H2 a y (some v) ∧ Q v H2
/-- d[y] = v -/
def sDPut (td ty tv : TE) : TS := fun D σ H => tv σ H fun v H1 => td σ H1 fun x H2 => ty σ H2 fun y H3 => ∃ a H4, x = .ref a ∧ DPut H3 a y v H4 ∧ D.nx σ H4
section
variable {X : Cx} {o i e value : Expr} {pos pos' tpos : Pos} {td ty tv : TE}
theorem pe_dget (hu : X.A.units + 1 < cLine) (ho : PE X o td) (hi : PE X i ty) (hs : NoSl i) : PE X (.Subscript o i pos) (tDGet td ty) := by
  intro pins s σ H Q I h
  refine subD_of PySem.F.slot_dict_getitem.lookup hs (thn (ho pins s σ H _ I h) fun u s1 ⟨x, H1, I1, rx, q1⟩ => thn (hi pins s1 σ H1 _ I1 q1) fun iv s2 ⟨y, H2, I2, ry, a, v, ex, g, q2⟩ => ?_)
  subst ex
  obtain rfl : u = Value.ref a := rx
  exact ⟨dict_typeIs I2 g, d_getItem hu I2 g ry fun w' s3 I3 rw' => ⟨v, H2, I3, rw', q2⟩⟩
theorem ps_dput (hu : X.A.units + 1 < cLine) (ho : PE X o td) (hi : PE X i ty) (hv : PE X value tv) (hs : swapsWith value (some (.Subscript o i pos')) pos.line X.env = pure false) :
    PS X (.Assign [.Subscript o i pos'] value pos) (sDPut td ty tv) := by
  intro pins s σ H D I h
  refine wpAny_Assign_Subscript (thn (hv pins s σ H _ I h) fun r s1 ⟨v, H1, I1, rv, q1⟩ => thn (ho pins s1 σ H1 _ I1 q1) fun u s2 ⟨x, H2, I2, rx, q2⟩ => thn (hi pins s2 σ H2 _ I2 q2) fun iv s3 ⟨y, H3, I3, ry, a, H4, ex, g, q3⟩ => ?_) hs
  subst ex
  obtain rfl : u = Value.ref a := rx
  exact d_setItem hu I3 g ry rv fun s4 I4 => ⟨σ, H4, I4, q3⟩
end


theorem dk_empty {P : Program} {w : World} {H : Hp} (h : Heap) (hb : sysModules < h.objs.size) : ObjOk P w H (h.push { cls := .type "dict", data := .dict #[] }) h.objs.size (.dK []) :=
  ⟨Nat.zero_le _, beq_eq_false_iff_ne.mpr (Ne.symm (Nat.ne_of_lt hb)), [], .nil, Heap.DictOf.new h⟩
/-- {}, to be a dict of the kind that is wanted -/
def tDNewK : TE := fun _ H Q => ∀ p, H p = none → Q (.ref p) (upd H p (.dK []))
section
variable {X : Cx} {pos : Pos}
theorem pe_dnewK : PE X (.Dict [] [] pos) tDNewK := fun pins s σ H Q I h =>
  wpAny_Dict_empty ⟨.ref s.heap.objs.size, _, I.laid (a := s.heap.objs.size) (o := .dK []) (t' := s.toks) (fun _ _ q => Heap.get?_push_of_some _ q) (Nat.le_refl _) (dk_empty s.heap I.big), rfl, h _ (I.hok.fresh (Nat.le_refl _))⟩
end

structure M2 (X : Cx) (o : Expr) (m : Str) (apos : Pos) (e f : Expr) (cpos : Pos) : Prop where
  base : attributeBase o m X.env (eval o X.env) = eval o X.env
  few : ((backTo cpos (starEach [e, f] X.env)).all (fun x => !x.1) && (backToKw cpos (keywordEach [] X.env)).all (fun x => x.1.isSome)
    && decide (([e, f] : List Expr).length + ([] : List Keyword).length + (if ([] : List Keyword).isEmpty then 0 else 1) < 30)) = true
  line : (apos.endLine == cpos.line) = true
  trees : backTo cpos (starEach [e, f] X.env) = [(false, eval e X.env), (false, eval f X.env)]

/-- a is a dict, whatever its keys -/
def IsD (H : Hp) (a : Addr) : Prop := (∃ kvs, Rd H a (.dK kvs)) ∨ ∃ kvs, Rd H a (.dT kvs)
theorem isD_at {X : Cx} {pins : List (Addr × Obj)} {σ : St} {H : Hp} {s : Shared} {a : Addr} (I : Inv X pins σ H s) (d : IsD H a) :
    s.TypeIs (.ref a) "dict" ∧ (∀ b, Value.ref a = .ref b → ∃ ob, s.heap.get? b = some ob ∧ ob.dict = none) ∧ (a == sysModules) = false := by
  rcases d with ⟨kvs, e⟩ | ⟨kvs, e⟩
  · obtain ⟨_, hd, vs, _, dd⟩ := dk_rd I.hok e
    refine ⟨dd.typeIs, fun b q => ?_, hd⟩
    cases q
    obtain ⟨ob, _, _, h1, h2, _⟩ := dd
    exact ⟨ob, h1, h2.2.1⟩
  · obtain ⟨_, hd, xs, _, dd⟩ := dt_rd I.hok e
    refine ⟨dd.typeIs, fun b q => ?_, hd⟩
    cases q
    obtain ⟨ob, _, _, h1, h2, _⟩ := dd
    exact ⟨ob, h1, h2.2.1⟩

section
variable {X : Cx} {pins : List (Addr × Obj)} {σ : St} {H : Hp} {s : Shared} {a : Addr} {y d : V} {u r : Value} {o : Option V} {A : Around} {E : Value → Shared → Prop}
/-- d.get(y, x) -/
theorem d_get2 {Q : Value → Shared → Prop} (hu : A.units + 1 < cLine) (I : Inv X pins σ H s) (g : DGet H a y o) (ry : RelV y u) (rd : RelV d r) (h : ∀ w' s', Inv X pins σ H s' → RelV (o.getD d) w' → Q w' s') :
    wpAny (model X.prog X.w) A (call (.builtin "dict.get") [.ref a, u, r]) Q E s := by
  rcases g with ⟨kvs, k, e, ey, l⟩ | ⟨kvs, k, b, e, ey, eb, l⟩
  · subst ey
    obtain ⟨z, hd, vs, rel, dd⟩ := dk_rd I.hok e
    refine call_meetsIn PySem.F.slot_dict_get dd.typeIs PySem.F.entry_dict_get (PySem.F.args_dict_get_3 _ _ _) (meets_dict_get_default (mixKind X.prog X.w) a (kV_is ry) hd r) ⟨_, dd.mapOf, h _ _ (I.tok _) ?_⟩
    rw [l]
    exact (rel.val k).getD rd
  · subst ey
    cases (show u = Value.ref b from ry)
    obtain ⟨z, hd, xs, rel, dd⟩ := dt_rd I.hok e
    refine call_meetsIn PySem.F.slot_dict_get dd.typeIs PySem.F.entry_dict_get (PySem.F.args_dict_get_3 _ _ _) (meetsH_dict_get_default (tupleKind (mixKind X.prog X.w)) a b hd r) ⟨tupleKind_room_in1 hu, k, xs, key_of I.hok eb, dd, h _ _ (I.tok _) ?_⟩
    rw [l]
    exact (rel.val k).getD rd
end

def tDGet2 (td ty tx : TE) : TE := fun σ H Q => td σ H fun x H1 => ∃ a, x = .ref a ∧ IsD H1 a ∧ ty σ H1 fun y H2 => tx σ H2 fun z H3 => ∃ o, DGet H3 a y o ∧ Q (o.getD z) H3
section
variable {X : Cx} {o e f : Expr} {apos cpos : Pos} {td ty tx : TE}
theorem pe_dget2 (hu : X.A.units + 1 < cLine) (ho : PE X o td) (he : PE X e ty) (hf : PE X f tx) (m : M2 X o "get" apos e f cpos) : PE X (.Call (.Attribute o "get" apos) [e, f] [] cpos) (tDGet2 td ty tx) := by
  intro pins s σ H Q I h
  refine wpAny_Call_method m.base m.few m.line PySem.F.plainAttrs_dict PySem.F.slot_dict_get PySem.F.type_dict_get (thn (ho pins s σ H _ I h) fun u s1 ⟨x, H1, I1, rx, a, ex, d, q1⟩ => ?_)
  subst ex
  obtain rfl : u = Value.ref a := rx
  obtain ⟨t1, t2, _⟩ := isD_at I1 d
  refine ⟨t1, t2, ?_⟩
  rw [m.trees]
  refine Calls.callWith_builtin rfl (Calls.evalArgs_plain (Calls.spliced_cons (thn (he pins s1 σ H1 _ I1 q1) fun iv s2 ⟨y, H2, I2, ry, q2⟩ =>
    Calls.spliced_cons (thn (hf pins s2 σ H2 _ I2 q2) fun fv s3 ⟨z, H3, I3, rz, ov, g, q3⟩ => Calls.spliced_nil ?_))))
  exact d_get2 hu I3 g ry rz fun w' s4 I4 rw' => ⟨_, H3, I4, rw', q3⟩
end

section
variable {X : Cx} {pins : List (Addr × Obj)} {σ : St} {H : Hp} {s : Shared} {a : Addr} {kvs : List (Key × V)} {A : Around} {E : Value → Shared → Prop}
end


section
variable {X : Cx} {pins : List (Addr × Obj)} {σ : St} {H : Hp} {s : Shared} {a : Addr} {y : V} {u : Value} {A : Around} {E : Value → Shared → Prop}
end
end L2
namespace L2
open PySem PySem.Spec PyProof.Rows
section
variable {X : Cx}
/-- len of a dict -/
theorem call_lenD : CallR X (.builtin "len") (fun xs H Q => ∃ a kvs, xs = [V.ref a] ∧ H a = some (.dK kvs) ∧ Q (.int kvs.length) H) := by
  intro pins s σ H xs us Q I r h
  obtain ⟨a, kvs, rfl, ha, q⟩ := h
  obtain ⟨u, rfl, ru⟩ := vals1 r
  cases ru
  exact d_len I (.inl ha) fun t s' I' => ⟨.int kvs.length, H, I', ⟨t, rfl⟩, q⟩
end
section
variable {κ : Type} [DecidableEq κ]
end
end L2

namespace L2
open PySem PySem.Spec PyProof.Rows

section
variable {X : Cx} {pins : List (Addr × Obj)} {σ : St} {H : Hp} {s : Shared} {a : Addr} {kvs : List (Key × V)} {k : Key} {u r : Value} {d : V} {A : Around} {E : Value → Shared → Prop}
end
section
variable {X : Cx} {o e f : Expr} {apos cpos : Pos} {td ty tx : TE}
end

section
variable {X : Cx} {pins : List (Addr × Obj)} {σ : St} {H : Hp} {s : Shared} {a : Addr} {o : Obj} {u : HO} {kvs : List (Key × V)}
theorem Inv.swap {w : HO} (I : Inv X pins σ H s) (h : H a = some u) (h1 : ∀ o u', X.H₀ a ≠ some (.frz o u')) (h2 : ∀ xs, u ≠ .tup xs) (h3 : ∀ ps, u ≠ .tbl ps) (h4 : ∀ x, u ≠ .own x) (new : ObjOk X.prog X.w (upd H a w) s.heap a w) : Inv X pins σ (upd H a w) s := by
  have ne : ∀ b, H b = none → b ≠ a := fun b q z => by rw [z, h] at q; cases q
  refine ⟨I.ok, I.os, I.bare, ⟨I.base.keep, I.base.slot, fun b o q nn hx => ?_, I.base.there, fun b xs q => ?_, fun b o u' q => ?_, fun b ps q => ?_⟩, I.loc, I.cell, ?_, fun y c q => ?_, fun p hp => ?_, fun b v q => ?_, I.len⟩
  · have z := I.base.free b o q nn hx
    rw [upd_ne (ne b z)]; exact z
  · have z := I.base.tups b xs q
    rw [upd_ne (fun e => h2 xs (by rw [e, h] at z; exact Option.some.inj z))]; exact z
  · have z := I.base.frzs b o u' q
    rw [upd_ne (fun e => h1 o u' (by rw [← e]; exact q))]; exact z
  · obtain ⟨more, z⟩ := I.base.tbls b ps q
    exact ⟨more, by rw [upd_ne (fun e => h3 _ (by rw [e, h] at z; exact Option.some.inj z))]; exact z⟩
  · rw [upd_ne (ne _ I.free)]; exact I.free
  · rw [upd_ne (ne _ (I.freeC y c q))]; exact I.freeC y c q
  · obtain ⟨a1, a2, a3⟩ := I.pin p hp
    exact ⟨a1, by rw [upd_ne (ne _ a2)]; exact a2, a3⟩
  · by_cases hb : b = a
    · subst hb
      rw [upd_same] at q
      cases q
      exact new
    · rw [upd_ne hb] at q
      exact (I.hok b v q).stay (fun _ _ _ z => z) (fun c z => by rw [upd_ne (fun e => h4 b (by rw [e, h] at z; exact Option.some.inj z))]; exact z) fun c xs z => by rw [upd_ne (fun e => h2 xs (by rw [e, h] at z; exact Option.some.inj z))]; exact z
theorem Inv.freeze (I : Inv X pins σ H s) (h : H a = some (.dK kvs)) (ho : s.heap.get? a = some o) (h1 : ∀ o u', X.H₀ a ≠ some (.frz o u')) : Inv X pins σ (upd H a (.frz o (.dK kvs))) s :=
  I.swap h h1 (fun _ z => nomatch z) (fun _ z => nomatch z) (fun _ z => nomatch z) ⟨ho, (show ObjOk X.prog X.w H s.heap a (.dK kvs) from I.hok a _ h)⟩
theorem Inv.thaw (I : Inv X pins σ H s) (h : H a = some (.frz o (.dK kvs))) (h1 : ∀ o u', X.H₀ a ≠ some (.frz o u')) : Inv X pins σ (upd H a (.dK kvs)) s :=
  I.swap h h1 (fun _ z => nomatch z) (fun _ z => nomatch z) (fun _ z => nomatch z) (show ObjOk X.prog X.w H s.heap a (.frz o (.dK kvs)) from I.hok a _ h).2
end
def epO (o : Obj) : Nat := match o.data with
  | .dict _ ep => ep
  | _ => 0
theorem kV_rel {P : Program} {w : World} {k : Key} {u : Value} (h : (mixKind P w).is k u = true) : RelV (kV k) u := by
  rcases keyIs_shape (show keyIs k u = true from h) with ⟨i, t, rfl, rfl⟩ | ⟨x, t, rfl, rfl⟩
  · exact ⟨t, rfl⟩
  · exact ⟨t, rfl⟩
theorem frz_at {P : Program} {w : World} {H : Hp} {h : Heap} {a : Addr} {o : Obj} {kvs : List (Key × V)} (ok : HOk P w H h) (e : H a = some (.frz o (.dK kvs))) : (a == sysModules) = false ∧ ∃ vs, KV kvs vs ∧ h.DictAt (mixKind P w) a vs (epO o) := by
  obtain ⟨ho, _, hd, vs, r, o', es, ep, h1, h2, h3, h4⟩ := (show ObjOk P w H h a (.frz o (.dK kvs)) from ok a _ e)
  rw [ho] at h1
  cases h1
  have ee : epO o = ep := by unfold epO; rw [h3]
  exact ⟨hd, vs, r, o, es, ho, h2, by rw [ee]; exact h3, h4⟩
section
variable {X : Cx} {tg : Expr}
end
section
variable {X : Cx}
/-- != of two lists of flat items -/
def rNeL (K : PySem.W.Frag) : R2 := fun x y H Q => ∃ p q xs ys, x = .ref p ∧ y = .ref q ∧ SqL K H p xs ∧ SqL K H q ys ∧ xs.all flatV = true ∧ ys.all flatV = true ∧ Q (.bl (!eqLV xs ys)) H
theorem op_neL (hu : X.A.units < cLine) : OpR X (compareOp .NotEq) (rNeL X.K) := by
  intro pins s σ H x y v u Q I rx ry h
  obtain ⟨p, q, xs, ys, rfl, rfl, hx, hy, fx, fy, hq⟩ := h
  cases rx
  cases ry
  obtain ⟨its, r, pl, hz⟩ := I.list hx
  obtain ⟨its2, r2, pl2, hz2⟩ := I.list hy
  have hl := r.length
  have hl2 := r2.length
  by_cases e : xs.length = ys.length
  · refine PySem.SeqAt.RcNeAt.lists (e := fun j => eqV (xs.getD j .non) (ys.getD j .non)) pl.isList pl2.isList (by rw [List.size_toArray, List.size_toArray]; omega) hu (fun j h1 h2 => ?_) _ _ _ _ ⟨.bl (!eqLV xs ys), H, I, ?_, hq⟩
    · have j1 : j < xs.length := by rw [List.size_toArray] at h1; omega
      have j2 : j < ys.length := by omega
      obtain ⟨a, ea, ra⟩ := r.get (i := j) (x := xs[j]) (by simp [j1])
      obtain ⟨b, eb, rb⟩ := r2.get (i := j) (x := ys[j]) (by simp [j2])
      obtain ⟨_, ea'⟩ := List.getElem?_eq_some_iff.mp ea
      obtain ⟨_, eb'⟩ := List.getElem?_eq_some_iff.mp eb
      have g1 : xs.getD j .non = xs[j] := by simp [j1]
      have g2 : ys.getD j .non = ys[j] := by simp [j2]
      show SeqAt.EqAt _ _ its.toArray[j] its2.toArray[j] (eqV (xs.getD j .non) (ys.getD j .non))
      rw [g1, g2]
      have f1 : flatV xs[j] = true := List.all_eq_true.mp fx _ (List.getElem_mem j1)
      have f2 : flatV ys[j] = true := List.all_eq_true.mp fy _ (List.getElem_mem j2)
      have z := eqAt_V (A := X.A.in1) (s := s) ra rb f1 f2
      have a1 : its.toArray[j] = a := by simpa using ea'
      have a2 : its2.toArray[j] = b := by simpa using eb'
      rw [a1, a2]
      exact z
    · show Value.bool _ = Value.bool _
      rw [List.size_toArray, ← hl, eqLV_range e]
  · refine PySem.SeqAt.RcNeAt.lists_lengths pl.isList pl2.isList ?_ hu _ _ _ _ ⟨.bl (!eqLV xs ys), H, I, ?_, hq⟩
    · rw [List.size_toArray, List.size_toArray, ← hl, ← hl2]
      exact bne_iff_ne.mpr e
    · show Value.bool _ = Value.bool _
      rw [eqLV_len e]
      rfl
end
end L2

namespace L2
open PySem PySem.Spec PyProof.Rows

section
variable {X : Cx} {tg : Expr}
end
end L2

namespace Srt
open PySem PyProof.Rows
structure SI (a₀ : Array Keyed) (st : SortSt) : Prop where
  perm : (arrOf st).Perm a₀
  kind : kindOf st = oneType'
  failed : failedOf st = none
/-- int keys, all different -/
structure Ks (a₀ : Array Keyed) : Prop where
  ik : IntKeys a₀
  nd : (a₀.toList.map fun p => numOf p.1).Nodup
def SFT (xs : Array Keyed) (lo hi : Nat) : Prop := ∀ i j, lo ≤ i → i ≤ j → j < hi → K xs i ≤ K xs j
theorem SI.size {a₀ : Array Keyed} {st : SortSt} (h : SI a₀ st) : (arrOf st).size = a₀.size := h.perm.size_eq
theorem key_at {a₀ xs : Array Keyed} (hp : xs.Perm a₀) (k : Ks a₀) {i : Nat} (hi : i < xs.size) : ∃ t q, xs[i]? = some (.int (K xs i) t, q) := by
  have hm : xs[i] ∈ a₀.toList := (Array.perm_iff_toList_perm.mp hp).mem_iff.mp (by simp)
  obtain ⟨n, t, hn⟩ := k.ik _ hm
  have e : xs[i]? = some xs[i] := getElem?_pos _ i hi
  have e2 : xs[i] = (.int n t, xs[i].2) := Prod.ext hn rfl
  refine ⟨t, xs[i].2, ?_⟩
  unfold K
  rw [e, e2]
  rfl
theorem key_ne {a₀ xs : Array Keyed} (hp : xs.Perm a₀) (k : Ks a₀) {i j : Nat} (hi : i < j) (hj : j < xs.size) : K xs i ≠ K xs j := by
  have hl := (Array.perm_iff_toList_perm.mp hp).map fun p : Keyed => numOf p.1
  have hn : (xs.toList.map fun p => numOf p.1).Nodup := hl.nodup_iff.mpr k.nd
  have h1 : i < xs.size := by omega
  have a := List.pairwise_iff_getElem.mp hn i j (by simpa using h1) (by simpa using hj) hi
  unfold K
  rw [getElem?_pos xs i h1, getElem?_pos xs j hj]
  simpa using a
theorem SI.setArr {a₀ : Array Keyed} {st : SortSt} (h : SI a₀ st) {xs : Array Keyed} (hp : xs.Perm (arrOf st)) : SI a₀ (setArr st xs) := ⟨hp.trans h.perm, h.kind, h.failed⟩
section
variable {prog : Program} {w : World} {A : Around} {E : Value → Shared → Prop} {s : Shared} {a₀ : Array Keyed}
theorem lt_ix {st : SortSt} {i j : Nat} {Q : Option Bool → SortSt → Prop} (S : SI a₀ st) (k : Ks a₀) (hi : i < a₀.size) (hj : j < a₀.size) (h : Q (some (decide (K (arrOf st) i < K (arrOf st) j))) st) :
    wpS (model prog w) A E s (ltAt' i j) Q st := by
  obtain ⟨t, p, e1⟩ := key_at S.perm k (by rw [S.size]; exact hi)
  obtain ⟨u, q, e2⟩ := key_at S.perm k (by rw [S.size]; exact hj)
  exact wpS_ltAt S.kind e1 e2 h
/-- what a run's finding leaves: the same below lo, the same pending -/
structure Cut (a₀ : Array Keyed) (st st' : SortSt) (lo : Nat) : Prop where
  S : SI a₀ st'
  pre : ∀ i, i < lo → (arrOf st')[i]? = (arrOf st)[i]?
  pend : pendingOf st' = pendingOf st
theorem run_find {st : SortSt} {lo nrem : Nat} {Q : Option Nat → SortSt → Prop} (S : SI a₀ st) (k : Ks a₀) (hn : lo + nrem ≤ a₀.size) (h1 : 1 ≤ nrem)
    (h : ∀ m st', Cut a₀ st st' lo → 1 ≤ m → m ≤ nrem → SFT (arrOf st') lo (lo + m) → Q (some m) st') : wpS (model prog w) A E s (countRun' lo nrem) Q st := by
  rw [countRun'_eq]
  refine wpS_bind (wpS_mono (wpS_forRange (I := fun x c st' => st' = st ∧ c = (none, x) ∧ SFT (arrOf st) lo (lo + x)) (Q := fun c st' => st' = st ∧ ∃ n, c = (none, n) ∧ 1 ≤ n ∧ n ≤ nrem ∧ SFT (arrOf st) lo (lo + n) ∧ (n = nrem ∨ K (arrOf st) (lo + n) < K (arrOf st) (lo + n - 1))) ?_ ?_ ?_) ?_)
  · rintro x c st' hx1 hx2 ⟨rfl, rfl, hs⟩
    dsimp only
    refine wpS_bind (lt_ix S k (by omega) (by omega) ?_)
    by_cases c : K (arrOf st') (lo + x) < K (arrOf st') (lo + x - 1)
    · simp only [c, decide_true, if_true]
      exact wpS_pure ⟨rfl, x, rfl, hx1, by omega, hs, .inr c⟩
    · simp only [c, decide_false, Bool.false_eq_true, if_false]
      refine wpS_pure ⟨rfl, rfl, fun i j hi hij hj => ?_⟩
      by_cases z : j < lo + x
      · exact hs i j hi hij z
      · by_cases z2 : i = j
        · rw [z2]; exact Int.le_refl _
        · have := hs i (lo + x - 1) hi (by omega) (by omega)
          have ej : j = lo + x := by omega
          rw [ej]
          omega
  · rintro c st' ⟨rfl, rfl, hs⟩
    rw [show max 1 nrem = nrem by omega] at hs ⊢
    exact ⟨rfl, nrem, rfl, h1, Nat.le_refl _, hs, .inl rfl⟩
  · exact ⟨rfl, rfl, fun i j hi hij hj => by rw [show i = j by omega]; exact Int.le_refl _⟩
  · rintro c st' ⟨rfl, n, rfl, n1, n2, hs, hor⟩
    dsimp only
    by_cases e : n = nrem
    · rw [if_pos (by simpa using e)]
      exact wpS_pure (h n st' ⟨S, fun _ _ => rfl, rfl⟩ n1 n2 hs)
    · rw [if_neg (by simpa using e)]
      have hlt := hor.resolve_left e
      by_cases g : n > 1
      · rw [if_pos g]
        refine wpS_bind (lt_ix S k (by omega) (by omega) ?_)
        have r : K (arrOf st') lo < K (arrOf st') (lo + n - 1) := by
          have a := hs lo (lo + n - 1) (Nat.le_refl _) (by omega) (by omega)
          have b := key_ne S.perm k (i := lo) (j := lo + n - 1) (by omega) (by rw [S.size]; omega)
          omega
        simp only [r, decide_true, if_true]
        exact wpS_pure (h n st' ⟨S, fun _ _ => rfl, rfl⟩ n1 n2 hs)
      · rw [if_neg g]
        have e1 : n = 1 := by omega
        subst e1
        refine wpS_bind (wpS_lift (wpAny_rule ⟨rfl, ?_⟩))
        have dec2 : ∀ i j, lo ≤ i → i ≤ j → j < lo + 2 → K (arrOf st') j ≤ K (arrOf st') i := fun i j hi hij hj => by
          by_cases z : i = j
          · rw [z]; exact Int.le_refl _
          · have ei : i = lo := by omega
            have ej : j = lo + 1 := by omega
            rw [ei, ej]
            exact Int.le_of_lt hlt
        refine wpS_bind (wpS_mono (wpS_forRange (I := fun x c st2 => st2 = st' ∧ c = (none, x, 0) ∧ ∀ i j, lo ≤ i → i ≤ j → j < lo + x → K (arrOf st') j ≤ K (arrOf st') i) (Q := fun c st2 => st2 = st' ∧ ∃ n, c = (none, n, 0) ∧ 2 ≤ n ∧ n ≤ nrem ∧ ∀ i j, lo ≤ i → i ≤ j → j < lo + n → K (arrOf st') j ≤ K (arrOf st') i) ?_ ?_ ?_) ?_)
        · rintro x c st2 hx1 hx2 ⟨rfl, rfl, hd⟩
          dsimp only
          refine wpS_bind (lt_ix S k (by omega) (by omega) ?_)
          by_cases c : K (arrOf st2) (lo + x) < K (arrOf st2) (lo + x - 1)
          · simp only [c, decide_true, if_true]
            rw [if_neg (by omega)]
            refine wpS_pure ⟨rfl, rfl, fun i j hi hij hj => ?_⟩
            by_cases z : j < lo + x
            · exact hd i j hi hij z
            · by_cases z2 : i = j
              · rw [z2]; exact Int.le_refl _
              · have := hd i (lo + x - 1) hi (by omega) (by omega)
                have ej : j = lo + x := by omega
                rw [ej]
                omega
          · simp only [c, decide_false, Bool.false_eq_true, if_false]
            refine wpS_bind (lt_ix S k (by omega) (by omega) ?_)
            have r : K (arrOf st2) (lo + x - 1) < K (arrOf st2) (lo + x) := by
              have b := key_ne S.perm k (i := lo + x - 1) (j := lo + x) (by omega) (by rw [S.size]; omega)
              omega
            simp only [r, decide_true, if_true]
            exact wpS_pure ⟨rfl, x, rfl, hx1, by omega, hd⟩
        · rintro c st2 ⟨rfl, rfl, hd⟩
          rw [show max (1 + 1) nrem = nrem by omega] at hd ⊢
          exact ⟨rfl, nrem, rfl, by omega, Nat.le_refl _, hd⟩
        · exact ⟨rfl, rfl, dec2⟩
        · rintro c st2 ⟨rfl, n, rfl, m1, m2, hd⟩
          dsimp only
          rw [if_neg (by omega)]
          refine wpS_bind (wpS_reverse ?_)
          have hsz : lo + n ≤ (arrOf st2).size := by rw [S.size]; omega
          have S3 := S.setArr (mirror_perm (arrOf st2) lo (lo + n) ((lo + n - lo) / 2))
          have C3 : Cut a₀ st2 (setArr st2 (mirror (arrOf st2) lo (lo + n) ((lo + n - lo) / 2))) lo := by
            refine ⟨S3, fun i hi => ?_, rfl⟩
            show (mirror (arrOf st2) lo (lo + n) ((lo + n - lo) / 2))[i]? = _
            rw [getElem?_mirror_all hsz, if_neg (by omega)]
          have hs3 : SFT (arrOf (setArr st2 (mirror (arrOf st2) lo (lo + n) ((lo + n - lo) / 2)))) lo (lo + n) := fun i j hi hij hj => by
            show K (mirror (arrOf st2) lo (lo + n) ((lo + n - lo) / 2)) i ≤ K (mirror (arrOf st2) lo (lo + n) ((lo + n - lo) / 2)) j
            rw [K_mirror hsz, K_mirror hsz, if_pos (by omega), if_pos (by omega)]
            exact hd _ _ (by omega) (by omega) (by omega)
          generalize setArr st2 (mirror (arrOf st2) lo (lo + n) ((lo + n - lo) / 2)) = st3 at S3 C3 hs3 ⊢
          refine wpS_bind (wpS_mono (wpS_forRange (I := fun x c st4 => st4 = st3 ∧ c = (none, x) ∧ SFT (arrOf st3) lo (lo + x)) (Q := fun c st4 => st4 = st3 ∧ ∃ m, c = (none, m) ∧ 1 ≤ m ∧ m ≤ nrem ∧ SFT (arrOf st3) lo (lo + m)) ?_ ?_ ?_) ?_)
          · rintro x c st4 hx1 hx2 ⟨rfl, rfl, hs⟩
            dsimp only
            refine wpS_bind (lt_ix S3 k (by omega) (by omega) ?_)
            by_cases c : K (arrOf st4) (lo + x) < K (arrOf st4) (lo + x - 1)
            · simp only [c, decide_true, if_true]
              exact wpS_pure ⟨rfl, x, rfl, by omega, by omega, hs⟩
            · simp only [c, decide_false, Bool.false_eq_true, if_false]
              refine wpS_pure ⟨rfl, rfl, fun i j hi hij hj => ?_⟩
              by_cases z : j < lo + x
              · exact hs i j hi hij z
              · by_cases z2 : i = j
                · rw [z2]; exact Int.le_refl _
                · have := hs i (lo + x - 1) hi (by omega) (by omega)
                  have ej : j = lo + x := by omega
                  rw [ej]
                  omega
          · rintro c st4 ⟨rfl, rfl, hs⟩
            rw [show max n nrem = nrem by omega] at hs ⊢
            exact ⟨rfl, nrem, rfl, h1, Nat.le_refl _, hs⟩
          · exact ⟨rfl, rfl, hs3⟩
          · rintro c st4 ⟨rfl, m, rfl, q1, q2, hs⟩
            exact wpS_pure (h m st4 C3 q1 q2 hs)
theorem run_fill {st : SortSt} {lo n ok : Nat} {Q : Bool → SortSt → Prop} (S : SI a₀ st) (k : Ks a₀) (hn : lo + n ≤ a₀.size) (h1 : 1 ≤ ok) (hok : ok ≤ n) (hs : SFT (arrOf st) lo (lo + ok))
    (h : ∀ st', Cut a₀ st st' lo → SFT (arrOf st') lo (lo + n) → Q true st') : wpS (model prog w) A E s (binarySort' lo n ok) Q st := by
  rw [binarySort'_eq]
  refine wpS_bind (wpS_mono (wpS_forRange (I := fun x c st' => c = (none, ()) ∧ Cut a₀ st st' lo ∧ SFT (arrOf st') lo (lo + x)) (Q := fun c st' => c = (none, ()) ∧ Cut a₀ st st' lo ∧ SFT (arrOf st') lo (lo + n)) ?_ ?_ ?_) ?_)
  · rintro x c st' hx1 hx2 ⟨rfl, C, hs'⟩
    have hxs : lo + x < (arrOf st').size := by rw [C.S.size]; omega
    refine wpS_bind (wpS_mono (wpS_forRange (I := fun y c st2 => st2 = st' ∧ ∃ l r, c = (none, l, r) ∧ l ≤ r ∧ r ≤ x ∧ r - l ≤ x - y ∧ (∀ i, lo ≤ i → i < lo + l → K (arrOf st') i ≤ K (arrOf st') (lo + x)) ∧ ∀ i, lo + r ≤ i → i < lo + x → K (arrOf st') (lo + x) < K (arrOf st') i)
      (Q := fun c st2 => st2 = st' ∧ ∃ l, c = (none, l, l) ∧ l ≤ x ∧ (∀ i, lo ≤ i → i < lo + l → K (arrOf st') i ≤ K (arrOf st') (lo + x)) ∧ ∀ i, lo + l ≤ i → i < lo + x → K (arrOf st') (lo + x) < K (arrOf st') i) ?_ ?_ ?_) ?_)
    · rintro y c st2 hy1 hy2 ⟨rfl, l, r, rfl, lr, rx, hm, a1, a2⟩
      dsimp only
      by_cases g : l ≥ r
      · rw [if_pos g]
        obtain rfl : l = r := by omega
        exact wpS_pure ⟨rfl, l, rfl, rx, a1, a2⟩
      · rw [if_neg g]
        refine wpS_bind (lt_ix C.S k (by omega) (by omega) ?_)
        by_cases c : K (arrOf st2) (lo + x) < K (arrOf st2) (lo + (l + r) / 2)
        · simp only [c, decide_true, if_true]
          refine wpS_pure ⟨rfl, l, (l + r) / 2, rfl, by omega, by omega, by omega, a1, fun i hi hix => ?_⟩
          have := hs' (lo + (l + r) / 2) i (by omega) hi (by omega)
          omega
        · simp only [c, decide_false, Bool.false_eq_true, if_false]
          refine wpS_pure ⟨rfl, (l + r) / 2 + 1, r, rfl, by omega, by omega, by omega, fun i hi hix => ?_, a2⟩
          have := hs' i (lo + (l + r) / 2) hi (by omega) (by omega)
          omega
    · rintro c st2 ⟨rfl, l, r, rfl, lr, rx, hm, a1, a2⟩
      obtain rfl : l = r := by omega
      exact ⟨rfl, l, rfl, rx, a1, a2⟩
    · exact ⟨rfl, 0, x, rfl, by omega, by omega, by omega, fun i hi hi2 => by omega, fun i hi hi2 => by omega⟩
    · rintro c st2 ⟨rfl, l, rfl, lx, a1, a2⟩
      dsimp only
      rw [moveDown'_eq]
      refine wpS_bind (wpS_modify (wpS_pure ⟨rfl, ⟨C.S.setArr (bubble_perm _ _ _), fun i hi => ?_, C.pend⟩, fun i j hi hij hj => ?_⟩))
      · show (bubble (arrOf st2) (lo + x) (lo + x - (lo + l)))[i]? = _
        rw [getElem?_bubble hxs _ (by omega), if_neg (by omega), if_neg (by omega)]
        exact C.pre i hi
      · show K (bubble (arrOf st2) (lo + x) (lo + x - (lo + l))) i ≤ K (bubble (arrOf st2) (lo + x) (lo + x - (lo + l))) j
        rw [K_bubble hxs (by omega), K_bubble hxs (by omega), show lo + x - (lo + x - (lo + l)) = lo + l by omega]
        by_cases c1 : i = lo + l
        · rw [if_pos c1]
          by_cases c2 : j = lo + l
          · rw [if_pos c2]; exact Int.le_refl _
          · rw [if_neg c2, if_pos (by omega)]
            have := a2 (j - 1) (by omega) (by omega)
            omega
        · rw [if_neg c1]
          by_cases c2 : j = lo + l
          · rw [if_pos c2, if_neg (by omega)]
            exact a1 i hi (by omega)
          · rw [if_neg c2]
            by_cases c3 : lo + l < i ∧ i ≤ lo + x
            · rw [if_pos c3, if_pos (by omega)]
              exact hs' _ _ (by omega) (by omega) (by omega)
            · rw [if_neg c3]
              by_cases c4 : lo + l < j ∧ j ≤ lo + x
              · rw [if_pos c4]
                exact hs' _ _ (by omega) (by omega) (by omega)
              · rw [if_neg c4]
                exact hs' _ _ (by omega) (by omega) (by omega)
  · rintro c st' ⟨rfl, C, hs'⟩
    rw [show max (max ok 1) n = n by omega] at hs'
    exact ⟨rfl, C, hs'⟩
  · rw [show max ok 1 = ok by omega]
    exact ⟨rfl, ⟨S, fun _ _ => rfl, rfl⟩, hs⟩
  · rintro c st' ⟨rfl, C, hs'⟩
    exact wpS_pure (h st' C hs')
end
end Srt

namespace Srt
open PySem PyProof.Rows
section
variable {prog : Program} {w : World} {A : Around} {E : Value → Shared → Prop} {s : Shared} {a₀ : Array Keyed}
end
end Srt

namespace Srt
open PySem PyProof.Rows
end Srt

namespace Srt
open PySem PyProof.Rows
section
variable {prog : Program} {w : World} {A : Around} {E : Value → Shared → Prop} {s : Shared} {a₀ : Array Keyed}
theorem ite_at {α : Type} {c : Prop} [Decidable c] {m n : StateT SortSt Sem α} {Q : α → SortSt → Prop} {st : SortSt} (h1 : c → wpS (model prog w) A E s m Q st) (h2 : ¬ c → wpS (model prog w) A E s n Q st) : wpS (model prog w) A E s (if c then m else n) Q st := by
  by_cases z : c
  · rw [if_pos z]; exact h1 z
  · rw [if_neg z]; exact h2 z
end
end Srt

namespace Srt
open PySem PyProof.Rows
end Srt

namespace Srt
open PySem PyProof.Rows
section
variable {prog : Program} {w : World} {A : Around} {E : Value → Shared → Prop} {s : Shared} {a₀ : Array Keyed}
end
end Srt

namespace Srt
open PySem PyProof.Rows
section
variable {prog : Program} {w : World} {A : Around} {E : Value → Shared → Prop} {s : Shared} {a₀ : Array Keyed}
end
end Srt

namespace Srt
open PySem PyProof.Rows
/-- runs, one behind the other, from s to e -/
def Chain (xs : Array Keyed) : Nat → List (Nat × Nat × Nat) → Nat → Prop
  | s, [], e => s = e
  | s, (t, n, _) :: r, e => t = s ∧ 1 ≤ n ∧ SFT xs s (s + n) ∧ Chain xs (s + n) r e
theorem Chain.le {xs : Array Keyed} : ∀ {s : Nat} {l : List (Nat × Nat × Nat)} {e : Nat}, Chain xs s l e → s + l.length ≤ e
  | s, [], e, h => Nat.le_of_eq h
  | s, (t, n, p) :: r, e, ⟨_, h2, _, h4⟩ => by
    have := Chain.le h4
    rw [List.length_cons]
    omega
theorem Chain.app {xs : Array Keyed} : ∀ {s : Nat} {l l2 : List (Nat × Nat × Nat)} {e : Nat}, Chain xs s (l ++ l2) e ↔ ∃ m, Chain xs s l m ∧ Chain xs m l2 e
  | s, [], l2, e => ⟨fun h => ⟨s, rfl, h⟩, fun ⟨m, h1, h2⟩ => by rw [show s = m from h1]; exact h2⟩
  | s, (t, n, p) :: r, l2, e => by
    constructor
    · rintro ⟨h1, h2, h3, h4⟩
      obtain ⟨m, q1, q2⟩ := Chain.app.mp h4
      exact ⟨m, ⟨h1, h2, h3, q1⟩, q2⟩
    · rintro ⟨m, ⟨h1, h2, h3, q1⟩, q2⟩
      exact ⟨h1, h2, h3, Chain.app.mpr ⟨m, q1, q2⟩⟩
theorem SFT.congr {xs ys : Array Keyed} {lo hi : Nat} (h : SFT xs lo hi) (e : ∀ i, lo ≤ i → i < hi → ys[i]? = xs[i]?) : SFT ys lo hi := fun i j hi hij hj => by
  rw [K_congr (e i hi (by omega)), K_congr (e j (by omega) hj)]
  exact h i j hi hij hj
theorem Chain.congr {xs ys : Array Keyed} : ∀ {s : Nat} {l : List (Nat × Nat × Nat)} {e : Nat}, Chain xs s l e → (∀ i, s ≤ i → i < e → ys[i]? = xs[i]?) → Chain ys s l e
  | s, [], e, h, _ => h
  | s, (t, n, p) :: r, e, ⟨h1, h2, h3, h4⟩, q => by
    have := Chain.le h4
    exact ⟨h1, h2, h3.congr fun i a b => q i a (by omega), h4.congr fun i a b => q i (by omega) b⟩
structure RI (a₀ : Array Keyed) (st : SortSt) (lo : Nat) : Prop where
  S : SI a₀ st
  ch : Chain (arrOf st) 0 (pendingOf st).toList lo
  le : lo ≤ a₀.size
theorem RI.push {a₀ : Array Keyed} {st : SortSt} {lo n p : Nat} (R : RI a₀ st lo) (hn : 1 ≤ n) (hl : lo + n ≤ a₀.size) (u : SFT (arrOf st) lo (lo + n)) : RI a₀ (setPending st ((pendingOf st).push (lo, n, p))) (lo + n) := by
  refine ⟨⟨R.S.perm, R.S.kind, R.S.failed⟩, ?_, hl⟩
  show Chain (arrOf st) 0 ((pendingOf st).push (lo, n, p)).toList (lo + n)
  rw [Array.toList_push]
  exact Chain.app.mpr ⟨lo, R.ch, rfl, hn, u, rfl⟩
section
variable {prog : Program} {w : World} {A : Around} {E : Value → Shared → Prop} {s : Shared} {a₀ : Array Keyed}
end
end Srt

namespace Srt
open PySem PyProof.Rows
theorem ks_of {vs : List Value} {ns : List Int} (hI : IntsAre vs ns) (hn : ns.Nodup) : Ks (pairsOf vs) := by
  refine ⟨hI.intKeys, ?_⟩
  have e : ((pairsOf vs).toList.map fun p => numOf p.1) = ns := by
    rw [pairsOf_toList, ← hI.nums]
    conv => rhs; rw [← List.map_fst_zip (l₁ := vs) (l₂ := vs) (Nat.le_refl _)]
    rw [List.map_map]
    rfl
  rw [e]
  exact hn
section
variable {prog : Program} {w : World} {A : Around} {E : Value → Shared → Prop} {s : Shared}
end
end Srt

namespace Srt
open PySem PyProof.Rows
theorem ints_of : ∀ {vs : List Value} {ns : List Int}, vs.length = ns.length → (∀ (j : Nat) (v : Value), vs[j]? = some v → ∃ (m : Int) (t : Tok), ns[j]? = some m ∧ v = .int m t) → IntsAre vs ns
  | [], [], _, _ => .nil
  | v :: vs, n :: ns, hl, h => by
    obtain ⟨m, t, e, rfl⟩ := h 0 v rfl
    cases e
    exact .cons n t (ints_of (by simpa using hl) fun j u hu => by simpa using h (j + 1) u (by simpa using hu))
  | [], _ :: _, hl, _ => by simp at hl
  | _ :: _, [], hl, _ => by simp at hl
section
variable {prog : Program} {w : World} {A : Around} {E : Value → Shared → Prop} {s : Shared} {T : String} {r d : Addr} {n : Nat} {P : Nat → Value → Prop} {OK : Heap → Prop}
end
end Srt
namespace L2
open PySem PySem.Spec PyProof.Rows
section
variable {X : Cx}
end
end L2

namespace Srt
open PySem PyProof.Rows
section
variable {prog : Program} {w : World} {A : Around} {s : Shared} {T : String} {r d : Addr} {n : Nat} {P : Nat → Value → Prop} {OK : Heap → Prop}
end
end Srt
namespace L2
open PySem PySem.Spec PyProof.Rows
section
variable {X : Cx}
end
end L2

namespace L2
open PySem PySem.Spec PyProof.Rows
section
variable {X : Cx} {pins : List (Addr × Obj)} {σ : St} {H : Hp} {s : Shared}
end
section
variable {X : Cx}
end
end L2

namespace PySem
open Sem (wp)
theorem lk_list_keys : typeLookup (.type "list") "keys" = pure none := by rw [typeLookup_type, builtinLookup_eq_fast]; kernel_rfl
theorem lk_list_hook : typeLookup (.type "list") "__getattr__" = pure none := by rw [typeLookup_type, builtinLookup_eq_fast]; kernel_rfl
section
variable {prog : Program} {w : World} {A : Around} {E : Value → Shared → Prop} {h : Heap} {g : Array GenState} {d : Drawn} {t : Nat} {os : OsState} {a : Addr} {its : Array Value} {n : Nat}
set_option maxHeartbeats 4000000 in
theorem noattr_entry {tk : Tok} {Q : Fin → Shared → Prop} (hh : A.handled = none) (hx : h.get? a = some { cls := .type "list", data := .seq its n })
    (hE : ∀ h' t' e, (∀ b u, h.get? b = some u → h'.get? b = some u) → (∃ oe, h'.get? e = some oe ∧ oe.cls = .type "AttributeError") → E (.ref e) ⟨h', g, d, t', os⟩) :
    wpAny (model prog w) A (Builtin.«object.__getattribute__» ⟨[.ref a, .str "keys" tk], []⟩) Q E ⟨h, g, d, t, os⟩ := by
  have hT : (⟨h, g, d, t, os⟩ : Shared).TypeIs (.ref a) "list" := ⟨_, hx, rfl⟩
  have f4 := lk_list_keys
  unfold Builtin.«object.__getattribute__»
  repeat (any_goals (first | assumption | wp_step))
  have hm : (Str.ofString (toString "'" ++ toString ((Manifest.find? "list").elim "list" fun x => x.tpName) ++ toString "' object has no attribute '") ++ Str.ofString "keys" ++ Str.ofString "'").length ≤ sizeLine := by decide +kernel
  generalize (Str.ofString (toString "'" ++ toString ((Manifest.find? "list").elim "list" fun x => x.tpName) ++ toString "' object has no attribute '") ++ Str.ofString "keys" ++ Str.ofString "'") = msg at hm ⊢
  unfold raiseAttrError newExc newTuple
  repeat (any_goals (first | assumption | wp_step))
  have fs : isSubtype (.type "AttributeError") (.type "AttributeError") = pure true := by rw [isSubtype_type]; kernel_rfl
  refine wpAny_of_eq fs ?_
  rw [if_neg (by decide)]
  generalize hH1 : (h.push { cls := Value.type "tuple", data := Data.seq #[Value.str msg t] }) = H1
  have h1 : ∀ b u, h.get? b = some u → H1.get? b = some u := fun b u e => by rw [← hH1]; exact Heap.get?_push_of_some _ e
  rw [show ownMembersOf (Value.type "AttributeError") [Value.str msg t] = #[unsetMember, unsetMember] from rfl]
  generalize (if ((Manifest.find? "AttributeError").elim false fun t => t.mro.contains "StopIteration" || t.mro.contains "SystemExit") = true then [Value.str msg t].headD Value.none else Value.none) = mv
  have e0 : (H1.push { cls := Value.type "AttributeError", data := Data.fields (#[Value.ref h.objs.size, Value.none, Value.none, Value.none, Value.bool false, mv] ++ #[unsetMember, unsetMember]) }).get? H1.objs.size = some _ := Heap.get?_push_size _ rfl
  generalize hH2 : (H1.push { cls := Value.type "AttributeError", data := Data.fields (#[Value.ref h.objs.size, Value.none, Value.none, Value.none, Value.bool false, mv] ++ #[unsetMember, unsetMember]) }) = H2 at e0 ⊢
  have h2 : ∀ b u, h.get? b = some u → H2.get? b = some u := fun b u e => by rw [← hH2]; exact Heap.get?_push_of_some _ (h1 b u e)
  refine wpAny_bind (wpAny_load e0 ?_)
  dsimp only
  rw [if_neg (by with_unfolding_all exact Bool.false_ne_true), if_neg (by with_unfolding_all exact Bool.false_ne_true)]
  refine wpAny_pure ?_
  rw [if_pos rfl]
  refine wpAny_bind (wpAny_rule (wpAny_bind (wpAny_typeOf (T := "AttributeError") ⟨_, e0, rfl⟩ ?_)))
  unfold layMembers
  refine wpAny_bind (wpAny_load e0 ?_)
  dsimp only
  refine wpAny_update e0 ?_
  have hlt : ∀ b u, h.get? b = some u → b ≠ H1.objs.size := fun b u e z => by
    have := Heap.lt_size (h1 b u e)
    exact absurd this (by rw [z]; exact Nat.lt_irrefl _)
  refine wpAny_raiseNew_none hh (hE _ _ _ (fun b u e => (Heap.get?_update_other _ _ (Ne.symm (hlt b u e))).trans (h2 b u e)) ?_)
  exact ⟨_, Heap.get?_update_self _ e0 rfl, rfl⟩
theorem noattr_call {tk : Tok} {R : Result → Shared → Prop} (hh : A.handled = none) (hx : h.get? a = some { cls := .type "list", data := .seq its n })
    (hE : ∀ h' t' e, (∀ b u, h.get? b = some u → h'.get? b = some u) → (∃ oe, h'.get? e = some oe ∧ oe.cls = .type "AttributeError") → R (.error (.ref e)) ⟨h', g, d, t', os⟩) :
    codeAny (model prog w) A (.call (.builtin "list.__getattribute__") ⟨[.ref a, .str "keys" tk], []⟩) R ⟨h, g, d, t, os⟩ :=
  codeAny_call_builtin F.slot_list_getattribute.plain F.entry_list_ga (F.slot_list_getattribute.check _ _ _ _ _ _ _ _ (show (⟨h, g, d, t, os⟩ : Shared).TypeIs (.ref a) "list" from ⟨_, hx, rfl⟩) (F.args_list_getattribute_2 _ _) (noattr_entry hh hx fun h' t' e k1 k2 => hE h' t' e k1 k2))
theorem noattr_by {tk : Tok} {Q : Value → Shared → Prop} (hh : A.handled = none) (hx : h.get? a = some { cls := .type "list", data := .seq its n })
    (hE : ∀ h' t' e, (∀ b u, h.get? b = some u → h'.get? b = some u) → (∃ oe, h'.get? e = some oe ∧ oe.cls = .type "AttributeError") → E (.ref e) ⟨h', g, d, t', os⟩) :
    wpAny (model prog w) A (getAttrBy (.ref a) (.str "keys" tk) false) Q E ⟨h, g, d, t, os⟩ := by
  have hT : (⟨h, g, d, t, os⟩ : Shared).TypeIs (.ref a) "list" := ⟨_, hx, rfl⟩
  have f2 := F.slot_list_getattribute.lookup
  have f3 := F.slot_list_getattribute.bind (.ref a)
  repeat (any_goals (first | assumption | wp_step))
  have fs : isSubtype (.type "AttributeError") (.type "AttributeError") = pure true := by rw [isSubtype_type]; kernel_rfl
  refine noattr_call hh hx fun h' t' e k1 k2 => ?_
  dsimp only
  unfold getattributeRaised
  obtain ⟨oe, k3, k4⟩ := id k2
  refine wpAny_bind (wpAny_isInstance (T := "AttributeError") (b := true) ⟨oe, k3, k4⟩ fs ?_)
  rw [if_pos rfl]
  unfold hookBehind
  refine wpAny_bind (wpAny_of_eq (a := none) (by rw [if_neg (by decide)]; exact lk_list_hook) ?_)
  unfold hookOrError attributeErrorLeaves
  dsimp only
  rw [if_pos (show (!false) = true from rfl)]
  exact wpAny_bind (wpAny_throw (hE h' t' e k1 k2))
theorem noattr_list {Q : Option Value → Shared → Prop} (hh : A.handled = none) (hx : h.get? a = some { cls := .type "list", data := .seq its n })
    (hQ : ∀ h' t', (∀ b u, h.get? b = some u → h'.get? b = some u) → Q none ⟨h', g, d, t', os⟩) : wpAny (model prog w) A (getAttr? (.ref a) "keys") Q E ⟨h, g, d, t, os⟩ := by
  have fs : isSubtype (.type "AttributeError") (.type "AttributeError") = pure true := by rw [isSubtype_type]; kernel_rfl
  unfold getAttr? getAttrBy?
  refine wpAny_bind ?_
  unfold mkText
  repeat (any_goals (first | assumption | with_reducible refine noattr_by hh hx ?_ | wp_step))
  intro h' t' e k1 k2
  obtain ⟨oe, k3, k4⟩ := id k2
  dsimp only
  refine wpAny_bind (wpAny_isInstance (T := "AttributeError") (b := true) ⟨oe, k3, k4⟩ fs ?_)
  rw [if_pos rfl]
  exact wpAny_pure (hQ h' t' k1)
end
end PySem

namespace PySem
open PyProof.Rows
namespace F
theorem entry_dict_update_loop : entryFor table "dict.update.loop" = some Builtin.«dict.update.loop» := entryFor_of_tree (by kernel_rfl)
theorem plain_dict_update_loop : plainId "dict.update.loop" = true := by decide +kernel
end F
section
variable {prog : Program} {w : World} {K : Type} [DecidableEq K] {knd : KeyKind prog w K} {A : Around} {E : Value → Shared → Prop}
theorem dictOf_at {h h' : Heap} {d : Addr} {kvs : List (K × Value)} (m : h.DictOf knd d kvs) (k : ∀ o, h.get? d = some o → h'.get? d = some o) : h'.DictOf knd d kvs :=
  let ⟨o, es, ep, ho, r⟩ := m; ⟨o, es, ep, k o ho, r⟩
theorem upd_loop (hh : A.handled = none) {R : Result → Shared → Prop} {d it l : Addr} {items : List Value} {res : Value} {ps : List (K × Value)} (h1 : d ≠ it) (h2' : d ≠ l) (h3 : l ≠ it) (hlen : items.length = ps.length) :
    ∀ (m i : Nat) (z : Int) (s : Shared) (kvs : List (K × Value)), ps.length - i = m → i ≤ ps.length → s.heap.IsListIter it l i → s.heap.IsList l items.toArray → s.heap.DictOf knd d kvs → kvs.length + m ≤ sizeLine →
      (∀ (j : Nat) (k : K) (v : Value), i ≤ j → ps[j]? = some (k, v) → ∃ T key, items[j]? = some (.ref T) ∧ IsTup s.heap T #[key, v] ∧ knd.is k key = true ∧ T ≠ it ∧ T ≠ d) →
      (∀ h' tk, h'.DictOf knd d ((ps.drop i).foldl (fun q p => stored q p.1 p.2) kvs) → (∀ b o, b ≠ d → b ≠ it → s.heap.get? b = some o → h'.get? b = some o) → R (.ok (.ret res)) { s with heap := h', toks := tk }) →
      codeAny (model prog w) A (.builtin "dict.update.loop" ⟨[.ref d, .ref it, rawInt z, res], []⟩) R s := by
  intro m
  induction m with
  | zero =>
    intro i z s kvs hm hi hit hl hd hz hp hR
    have e : i = ps.length := by omega
    subst e
    refine codeAny_builtin F.entry_dict_update_loop ?_
    rw [Around.under_plainId F.plain_dict_update_loop _]
    show wpAny _ A.in1 (pyNext (.ref it) >>= _) _ _ s
    refine wpAny_bind (wpAny_pyNext_list_end (A := A.in1) hh hit hl (by rw [← hlen]; simp) fun h' eb => ?_)
    refine wpAny_bind (m := Builtin.Dict.addKeywords d []) (wpAny_pure (wpAny_pure ?_))
    refine hR h' s.toks ?_ fun b o _ hb q => eb b o hb q
    rw [List.drop_length]
    exact dictOf_at hd fun o q => eb d o h1 q
  | succ m ih =>
    intro i z s kvs hm hi hit hl hd hz hp hR
    have hlt : i < ps.length := by omega
    obtain ⟨T, key, e1, e2, e3, e4, e5⟩ := hp i (ps[i]).1 (ps[i]).2 (Nat.le_refl _) (by rw [List.getElem?_eq_getElem hlt])
    refine codeAny_builtin F.entry_dict_update_loop ?_
    rw [Around.under_plainId F.plain_dict_update_loop _]
    show wpAny _ A.in1 (pyNext (.ref it) >>= _) _ _ s
    refine wpAny_bind (wpAny_pyNext_list_item hit hl (x := .ref T) (by simpa using e1) fun h' hit' sb => ?_)
    obtain ⟨oT, g1, g2, nT, g3⟩ := e2
    have gT : h'.get? T = some oT := (sb.2 T e4).trans g1
    have hd' : h'.DictOf knd d kvs := dictOf_at hd fun o q => (sb.2 d h1).trans q
    dsimp only
    refine wpAny_bind (wpAny_holding (wpAny_bind ?_))
    unfold Builtin.Dict.pairItems
    have hTT : Shared.TypeIs { s with heap := h' } (.ref T) "tuple" := ⟨oT, gT, g2⟩
    refine wpAny_tryCatch (wpAny_bind (wpAny_typeOf hTT ?_))
    rw [if_pos (by decide)]
    refine wpAny_bind (wpAny_seqItems gT g3 (wpAny_pure ?_))
    show wpAny _ A.in1 (holding [key, (ps[i]).2] (dictSet d key (ps[i]).2)) _ _ _
    refine wpAny_holding (wpAny_dictSet_pairs (hsz := by omega) e3 hd' fun h2 hd2 sb2 => ?_)
    replace sb2 : Heap.SameBut d h' h2 := sb2
    have hl2 : (stored kvs (ps[i]).1 (ps[i]).2).length ≤ kvs.length + 1 := stored_length_le _ _ _
    have up : ∀ b o, b ≠ d → b ≠ it → s.heap.get? b = some o → h2.get? b = some o := fun b o n1 n2 q => (sb2.2 b n1).trans ((sb.2 b n2).trans q)
    refine wpAny_pure ⟨plainId_quiet F.plain_dict_update_loop _, ih (i + 1) (z + 1) _ _ (by omega) (by omega) (hit'.extBut sb2.extBut (Ne.symm h1)) ?_ hd2 (by omega) (fun j k v hj hjk => ?_) fun h4 tk q1 q2 => ?_⟩
    · exact hl.at fun o q => up l o (Ne.symm h2') h3 q
    · obtain ⟨T', key', a1, ⟨oT', b1, b2, nT', b3⟩, a3, a4, a5⟩ := hp j k v (by omega) hjk
      exact ⟨T', key', a1, ⟨oT', up T' _ a5 a4 b1, b2, nT', b3⟩, a3, a4, a5⟩
    · refine hR h4 tk ?_ fun b o n1 n2 q => q2 b o n1 n2 (up b o n1 n2 q)
      rw [List.drop_eq_getElem_cons hlt, List.foldl_cons]
      exact q1
theorem call_dict_pairs {s : Shared} {l : Addr} {its : List Value} {n : Nat} {ps : List (K × Value)} {Q : Value → Shared → Prop} (hh : A.handled = none) (hx : s.heap.get? l = some { cls := .type "list", data := .seq its.toArray n }) (hlen : its.length = ps.length) (hz : ps.length ≤ sizeLine)
    (hp : ∀ (j : Nat) (k : K) (v : Value), ps[j]? = some (k, v) → ∃ T key, its[j]? = some (.ref T) ∧ IsTup s.heap T #[key, v] ∧ knd.is k key = true)
    (h : ∀ h' tk, h'.DictOf knd s.heap.objs.size (ps.foldl (fun q p => stored q p.1 p.2) []) → (∀ b o, s.heap.get? b = some o → h'.get? b = some o) → Q (.ref s.heap.objs.size) { s with heap := h', toks := tk }) :
    wpAny (model prog w) A (call (.type "dict") [.ref l]) Q E s := by
  refine callType_codes (Q₁ := fun obj s₁ => obj = .ref s.heap.objs.size ∧ s₁ = { s with heap := s.heap.push { cls := .type "dict", data := .dict #[] } }) F.kt_called_dict (F.kt_typeCall_dict_1 _) F.entry_dict_init (kt_code_dict_new _ ⟨rfl, rfl⟩) ?_
  rintro obj s₁ ⟨rfl, rfl⟩
  have hnew : (s.heap.push { cls := .type "dict", data := .dict #[] }).DictOf knd s.heap.objs.size [] := Heap.DictOf.new s.heap
  have llt : l < s.heap.objs.size := Heap.lt_size hx
  have hx1 : (s.heap.push { cls := .type "dict", data := .dict #[] }).get? l = some { cls := .type "list", data := .seq its.toArray n } := Heap.get?_push_of_some _ hx
  refine ⟨hnew.typeIs, F.args_dict_init_2 _ _, ?_⟩
  unfold Builtin.«dict.__init__»
  refine wpAny_bind ?_
  unfold Builtin.Dict.selfAndRest
  refine wpAny_bind (wpAny_notOrdered_dict hnew.typeIs ?_)
  show wpAny _ _ (pure (s.heap.objs.size, [Value.ref l])) _ _ _
  refine wpAny_pure ?_
  show wpAny _ _ (Builtin.Dict.updateFrom "dict.__init__" s.heap.objs.size (.ref l) [] .none) _ _ _
  unfold Builtin.Dict.updateFrom
  refine wpAny_bind (wpAny_typeOf (T := "list") ⟨_, hx1, rfl⟩ ?_)
  rw [if_pos (by decide)]
  refine wpAny_bind (noattr_list hh hx1 fun h2 t2 k2 => ?_)
  rw [if_pos (show (none : Option Value).isNone = true from rfl)]
  have hx2 := k2 _ _ hx1
  have hd2 : h2.DictOf knd s.heap.objs.size [] := dictOf_at hnew fun o q => k2 _ _ q
  refine wpAny_bind (wpAny_rule (wpAny_bind (wpAny_pyIter_list ⟨_, hx2, rfl, _, rfl⟩ ?_)))
  have lt2 : s.heap.objs.size < h2.objs.size := let ⟨_, _, _, q, _⟩ := hd2; Heap.lt_size q
  refine wpAny_pure ⟨plainId_quiet F.plain_dict_update_loop _, ?_⟩
  refine upd_loop (A := A.in1) hh (items := its) (ps := ps) (Nat.ne_of_lt lt2) (Nat.ne_of_gt llt) (Nat.ne_of_lt (Nat.lt_trans llt lt2)) hlen ps.length 0 0 _ [] (by omega) (Nat.zero_le _) ⟨_, Heap.get?_push_size _ rfl, rfl, rfl⟩ ⟨_, Heap.get?_push_of_some _ hx2, rfl, _, rfl⟩ (dictOf_at hd2 fun o q => Heap.get?_push_of_some _ q) (by simpa using hz) (fun j k v _ hj => ?_) fun h4 tk q1 q2 => ?_
  · obtain ⟨T, key, a1, ⟨oT, b1, b2, nT, b3⟩, a3⟩ := hp j k v hj
    have Tlt : T < s.heap.objs.size := Heap.lt_size b1
    exact ⟨T, key, a1, ⟨oT, Heap.get?_push_of_some _ (k2 _ _ (Heap.get?_push_of_some _ b1)), b2, nT, b3⟩, a3, Nat.ne_of_lt (Nat.lt_trans Tlt lt2), Nat.ne_of_lt Tlt⟩
  · refine ⟨rfl, h h4 tk q1 fun b o q => ?_⟩
    have blt : b < s.heap.objs.size := Heap.lt_size q
    exact q2 b o (Nat.ne_of_lt blt) (Nat.ne_of_lt (Nat.lt_trans blt lt2)) (Heap.get?_push_of_some _ (k2 _ _ (Heap.get?_push_of_some _ q)))
end
end PySem

namespace L2
open PySem PySem.Spec PyProof.Rows
def capN2 (t : Str × Str) (caps : List (Str × Nat)) : List Str := t.1 :: t.2 :: caps.map (·.1)
def capS2 (caps : List (Str × Nat)) (σ : St) (v v' : Option V) : St := v :: v' :: caps.map fun p => (σ[p.2]?).join

structure CapOk2 (X : Cx) (scope : Scope) (cl : List (Str × Addr)) (t : Str × Str) (caps : List (Str × Nat)) : Prop where
  kind : scope.kind = .function
  nocell : ∀ y ∈ scope.names, y.2 ≠ .cell
  names : ∀ y ∈ scope.names, y.2 = .local → scope.names.lookup y.1 = some .local
  clos : closureFor scope X.env = pure cl
  sub : ∀ p ∈ cl, X.env.cells.lookup p.1 = some p.2
  has : ((relabel scope X.env).names.all fun y => !(y.2 == .cell || y.2 == .free) || (cl.lookup y.1).isSome) = true
  cap : ∀ p ∈ caps, X.N[p.2]? = some p.1 ∧ (X.env.kindOf p.1 = some .cell ∨ X.env.kindOf p.1 = some .free) ∧ ((relabel scope X.env).names.lookup p.1 = some .cell ∨ (relabel scope X.env).names.lookup p.1 = some .free)
  nd : (capN2 t caps).Nodup

section
variable {X : Cx} {scope : Scope} {cl : List (Str × Addr)} {t : Str × Str} {caps : List (Str × Nat)} {pins : List (Addr × Obj)} {σ : St} {H : Hp} {s : Shared} {C : Addr} {fp : List Addr}
theorem CapOk2.look (K : CapOk2 X scope cl t caps) {x : Str} {c : Addr} (h : cl.lookup x = some c) : X.env.cells.lookup x = some c := K.sub (x, c) (PySem.mem_of_lookup h)
theorem CapOk2.hs (K : CapOk2 X scope cl t caps) {x : Str} (h : (relabel scope X.env).names.lookup x = some .cell ∨ (relabel scope X.env).names.lookup x = some .free) : ∃ c, cl.lookup x = some c := by
  have go : ∀ k, (relabel scope X.env).names.lookup x = some k → (k == NameKind.cell || k == NameKind.free) = true → ∃ c, cl.lookup x = some c := fun k e hk => by
    have := List.all_eq_true.mp K.has (x, k) (PySem.mem_of_lookup e)
    dsimp only at this
    rw [hk] at this
    exact Option.isSome_iff_exists.mp (by simpa using this)
  rcases h with h | h
  · exact go _ h rfl
  · exact go _ h rfl

theorem okC2 (I : Inv X pins σ H s) (K : CapOk2 X scope cl t caps) (hf : ∀ b ∈ fp, FpOk X pins H b) (ho : ∀ b ∈ fp, b < s.heap.objs.size) (hC : s.heap.objs.size ≤ C) : (cxC X (capN2 t caps) scope cl C s H fp).Ok where
  mod := I.ok.mod
  kind := K.kind
  glob := I.ok.glob
  blt := I.ok.blt
  above := hC
  inj := fun x y c h1 h2 => I.ok.inj x y c (K.look h1) (K.look h2)
  has := fun x hx => K.hs hx
  cab := fun x c h => nomatch (show false = true from h)
  hd := I.ok.hd
  frames := I.ok.frames
  stk := .inl rfl
  exf := fun b hb => ⟨Nat.ne_of_lt (Nat.lt_of_lt_of_le (ho b hb) hC), fun x c e => (hf b hb).2.2.2.2.1 x c (K.look e)⟩
  bs := I.bs
  bsz := Nat.le_trans I.ok.bsz I.sz
  noex := fun b o e hb => by
    rcases (hf b hb).2.2.2.1 with z | z
    · exact I.ok.noex b o e z
    · exact absurd (Nat.lt_of_lt_of_le (Heap.lt_size e) (Nat.le_trans I.ok.bsz z)) (Nat.lt_irrefl _)
  exfs := fun b hb hfs => by
    rcases List.mem_cons.mp (I.stkSub b hfs) with e | e
    · exact (hf b hb).2.1 e
    · exact (hf b hb).2.2.1 e
  funs := I.stack
  frf := I.stkFree

theorem invC2 {h₁ : Heap} {m : Str → Option Value} {tk : Nat} (I : Inv X pins σ H s) (K : CapOk2 X scope cl t caps) (hf : ∀ b ∈ fp, FpOk X pins H b) (ho : ∀ b ∈ fp, b < s.heap.objs.size) (hC : s.heap.objs.size ≤ C)
    (old : ∀ b o, s.heap.get? b = some o → h₁.get? b = some o) (ns : h₁.Ns C m) : Inv (cxC X (capN2 t caps) scope cl C s H fp) [] (capS2 caps σ none none) H { s with heap := h₁, toks := tk } := by
  have cellK : ∀ c v, s.heap.IsCell c v → h₁.IsCell c v := fun c v ⟨o, e, d⟩ => ⟨o, old c o e, d⟩
  refine ⟨okC2 I K hf ho hC, rfl, I.bare, Un.kept old, ⟨m, ns, fun i x v e1 e2 e3 => ?_⟩, fun x c e => ?_, I.hok.fresh hC, fun x c e => I.freeC x c (K.look e), fun p hp => absurd (show p ∈ ([] : List (Addr × Obj)) from hp) (by simp), I.hok.kept old, by simp [capS2, capN2, cxC]⟩
  · match i, e1, e2 with
    | 0, e1, e2 =>
      have e2' : some (none : Option V) = some (some v) := e2
      cases e2'
    | 1, e1, e2 =>
      have e2' : some (none : Option V) = some (some v) := e2
      cases e2'
    | j + 2, e1, e2 =>
      have e1' : (caps.map (·.1))[j]? = some x := e1
      have e2' : (caps.map fun p => (σ[p.2]?).join)[j]? = some (some v) := e2
      rw [List.getElem?_map] at e1' e2'
      cases hp : caps[j]? with
      | none => rw [hp] at e1'; cases e1'
      | some p =>
        rw [hp] at e1' e2'
        have ex : p.1 = x := Option.some.inj e1'
        have ev : (σ[p.2]?).join = some v := Option.some.inj e2'
        have ev' : σ[p.2]? = some (some v) := by
          cases q : σ[p.2]? with
          | none => rw [q] at ev; cases ev
          | some z => rw [q] at ev; exact congrArg some ev
        obtain ⟨hN, hk, hk'⟩ := K.cap p (List.mem_of_getElem? hp)
        subst ex
        obtain ⟨m', _, hl⟩ := I.loc
        have vis : Vis X.env.scope p.1 := by
          rcases hk with z | z
          · exact .inr (.inl z)
          · exact .inr (.inr z)
        obtain ⟨u, r, l⟩ := hl p.2 p.1 v hN ev' vis
        obtain ⟨c, hc⟩ := K.hs hk'
        rcases l with ⟨z, _⟩ | ⟨_, c', hc', hcell⟩
        · rcases hk with y | y <;> (rw [y] at z; cases z)
        · rw [K.look hc] at hc'
          cases hc'
          exact ⟨u, r, .inr ⟨hk', c, hc, cellK c _ hcell⟩⟩
  · obtain ⟨v, z⟩ := I.cell x c (K.look e)
    exact ⟨v, cellK c v z⟩

end

/-- what the block's turns want: W by the turn, a measure, the items so far -/
def CompW2 (caps : List (Str × Nat)) (g : TG) (tt : TT) (te : TE) (σ : St) (J : It) (Q : List V → Hp → Prop) (W : Nat → Nat → List V → Hp → Prop) : Prop :=
  ∀ i m ys H, W i m ys H → (J.stop i H ∧ Q ys H) ∨ (J.go i H ∧ ∃ N : List V → Hp → Prop, (∀ ys' H', N ys' H' → ∃ m', m' < m ∧ W (i + 1) m' ys' H') ∧ ∀ x H', J.yld i H x H' → ∀ v0 v1, g x (capS2 caps σ v0 v1) H' fun τ H1 => ∃ a b, τ = capS2 caps σ a b ∧ tt τ H1 fun c H2 =>
    if c = true then te τ H2 (fun y H3 => ys.length < sizeLine ∧ N (ys ++ [y]) H3) else N ys H2)
def tComp2 (caps : List (Str × Nat)) (g : TG) (wi : TI) (tt : TT) (te : TE) : TE := fun σ H Q => wi σ H fun J H1 =>
  ∃ W : Nat → Nat → List V → Hp → Prop, (∃ m, W 0 m [] H1) ∧ CompW2 caps g tt te σ J (fun ys H2 => ∀ p, H2 p = none → Q (.ref p) (upd H2 p (.lst ys))) W

section
variable {X : Cx} {scope : Scope} {cl : List (Str × Addr)} {t : Str × Str} {caps : List (Str × Nat)} {elt iter : Expr} {ifs : List Expr} {px pos : Pos} {es : List Expr} {kx : Nat} {g : TG} {wi : TI} {tt : TT} {te : TE}

theorem comp_block2 {pins : List (Addr × Obj)} {σ : St} {H : Hp} {s : Shared} {J : It} {fp : List Addr} {it : Addr} {tn : Nat → Heap → Prop} {W : Nat → Nat → List V → Hp → Prop} {QE : List V → Hp → Prop} {E : Value → Shared → Prop} {RR : Value → Addr → Result → Shared → Prop} {m0 : Nat}
    (K : CapOk2 X scope cl t caps) (hc : X.calm = true)
    (hgt : ∀ C s₀ H₀ ex, PG (cxC X (capN2 t caps) scope cl C s₀ H₀ ex) (.Tuple es kx px) g)
    (ht : ∀ C s₀ H₀ ex, PTs (cxC X (capN2 t caps) scope cl C s₀ H₀ ex) ifs tt) (he : ∀ C s₀ H₀ ex, PE (cxC X (capN2 t caps) scope cl C s₀ H₀ ex) elt te)
    (I : Inv X pins σ H s) (T : Turn X.prog X.w X.K (.Tuple es kx px) J fp it tn) (st : tn 0 s.heap) (hf : ∀ b ∈ fp, FpOk X pins H b) (w0 : W 0 m0 [] H) (hW : CompW2 caps g tt te σ J QE W)
    (fin : ∀ D C ys H' s' m, H' D = none → Inv X pins σ (upd H' D (.lst ys)) s' → s'.heap.Ns C m → FpOk X pins (upd H' D (.lst ys)) C → QE ys H' → RR (.ref D) C (.ok .next) s') :
    wpAny (model X.prog X.w) X.A (newList []) (fun acc s₃ => wpAny (model X.prog X.w) X.A (newFunctionEnv scope X.env.globals cl [] X.env.qual none .none (some X.env)) (fun cenv s₄ =>
      codeAny (model X.prog X.w) X.A (.compStart (.ListComp elt [⟨.Tuple es kx px, iter, ifs, 0⟩] scope pos) 0 (.ref it) acc { cenv with scope := relabel scope X.env }) (RR acc cenv.locals) s₄) E s₃) E s := by
  refine wpAny_newObj_type (wpAny_newFunctionEnv K.nocell (by intro y hy; simp at hy) (fun h₁ hns₁ hsb₁ => ?_) K.kind)
  dsimp only at hns₁ hsb₁ ⊢
  generalize hH2 : s.heap.push { cls := .type "list", dict := none, data := .seq ([] : List Value).toArray } = H2 at hns₁ hsb₁ ⊢
  have hC : H2.objs.size = s.heap.objs.size + 1 := by rw [← hH2, Heap.size_push]
  have hDC : s.heap.objs.size ≠ H2.objs.size := by rw [hC]; exact Nat.ne_of_lt (Nat.lt_succ_self _)
  have hCle : s.heap.objs.size ≤ H2.objs.size := by rw [hC]; exact Nat.le_succ _
  have below : ∀ b, b < s.heap.objs.size → b ≠ H2.objs.size := fun b hb => by rw [hC]; exact Nat.ne_of_lt (Nat.lt_succ_of_lt hb)
  have old : ∀ b o, s.heap.get? b = some o → h₁.get? b = some o := fun b o e => hsb₁.extBut b o (below b (Heap.lt_size e)) (Heap.get?_push_of_some _ (hH2 ▸ Heap.get?_push_of_some _ e))
  have hacc : h₁.get? s.heap.objs.size = some { cls := .type "list", data := .seq ([] : List Value).toArray } := hsb₁.extBut _ _ hDC (Heap.get?_push_of_some _ (hH2 ▸ Heap.get?_push_size _ rfl))
  have ho : ∀ b ∈ fp, b < s.heap.objs.size := fun b hb => let ⟨_, e, _⟩ := T.obj 0 _ st b hb; Heap.lt_size e
  have hDf : s.heap.objs.size ∉ fp := fun hm => Nat.lt_irrefl _ (ho _ hm)
  have st₁ : tn 0 h₁ := T.keep 0 _ _ st fun b _ o e => old b o e
  have hDfs : s.heap.objs.size ∉ frs X.stack := fun z => by
    rcases List.mem_cons.mp (I.stkSub _ z) with e | e
    · exact absurd (e ▸ I.lt) (Nat.lt_irrefl _)
    · exact I.nofs (Nat.le_refl _) e
  have hDcell : ∀ x c, cl.lookup x = some c → c ≠ s.heap.objs.size := fun x c e z => by
    obtain ⟨v, q⟩ := I.cell x c (K.look e)
    exact absurd (z ▸ q.lt) (Nat.lt_irrefl _)
  -- what stays true of the iterator's objects
  have stat : ∀ {pl : List (Addr × Obj)} {HC : Hp}, (∀ b ∈ fp, HC b = none) → (∀ p ∈ pl, p.1 ∉ fp) → ∀ b ∈ fp, FpOk (cxC X (capN2 t caps) scope cl H2.objs.size s H fp) pl HC b := fun {pl HC} hn hp b hb =>
    ⟨hn b hb, below b (ho b hb), (okC2 I K hf ho hCle).exfs b hb, .inl hb, fun x c e => (hf b hb).2.2.2.2.1 x c (K.look e), fun p hpp z => by
      have hpp' : p ∈ pl := hpp
      exact hp p hpp' (z ▸ hb)⟩
  have loop : ∀ s₃ : Shared, s₃ = { s with heap := h₁, toks := s.toks + ([] : List (Str × Value)).length } →
      codeAny (model X.prog X.w) X.A (.compLoop (.ListComp elt [⟨.Tuple es kx px, iter, ifs, 0⟩] scope pos) 0 (.ref it) (.ref s.heap.objs.size) (compEnvC scope cl H2.objs.size X.env)) (RR (.ref s.heap.objs.size) H2.objs.size) s₃ := by
    rintro s₃ rfl
    refine codeAny_loop rfl (fun n s' => ∃ i ys its nn HC v0 v1, Inv (cxC X (capN2 t caps) scope cl H2.objs.size s H fp) [] (capS2 caps σ v0 v1) HC s' ∧ tn i s'.heap ∧ (∀ b ∈ fp, HC b = none) ∧ HC s.heap.objs.size = none ∧
      s'.heap.get? s.heap.objs.size = some { cls := .type "list", data := .seq its.toArray nn } ∧ Vals ys its ∧ ys.length ≤ sizeLine ∧ W i n ys HC) (fun n s' hI => ?_) m0
      ⟨0, [], [], 0, H, none, none, invC2 I K hf ho hCle old hns₁, st₁, fun b hb => (hf b hb).1, I.hok.fresh (Nat.le_refl _), hacc, .nil, Nat.zero_le _, w0⟩
    obtain ⟨i, ys, its, nn, HC, v0, v1, I3, st3, fr3, hD3, e3, r3, z3, w3⟩ := hI
    show wpAny _ X.A ((compTurn (.ListComp elt [⟨.Tuple es kx px, iter, ifs, 0⟩] scope pos) 0 (.ref it) (.ref s.heap.objs.size) (compEnvC scope cl H2.objs.size X.env)).onRaise (fun x => do noteFrame x (compEnvC scope cl H2.objs.size X.env); theTreesLotGoes x)) _ _ s'
    refine wpAny_noted ?_
    rw [compTurn_list]
    -- the list is pinned
    have I3p : Inv (cxC X (capN2 t caps) scope cl H2.objs.size s H fp) [(s.heap.objs.size, { cls := .type "list", data := .seq its.toArray nn })] (capS2 caps σ v0 v1) HC s' := I3.pins_of fun p hp => by
      have ep : p = (s.heap.objs.size, { cls := .type "list", data := .seq its.toArray nn }) := by simpa using hp
      subst ep
      exact ⟨e3, hD3, hDC, hDfs, fun v z => by cases (show Data.seq its.toArray nn = Data.cell v from z)⟩
    have pD : ∀ p ∈ [((s.heap.objs.size : Addr), ({ cls := .type "list", data := .seq its.toArray nn } : Obj))], p.1 ∉ fp := fun p hp => by
      have ep : p = (s.heap.objs.size, { cls := .type "list", data := .seq its.toArray nn }) := by simpa using hp
      subst ep
      exact hDf
    rcases hW i n ys HC w3 with ⟨stop, q⟩ | ⟨go, N, hN, step⟩
    · refine wpAny_bind (wpAny_standAt (wpAny_bind (thn (T.done (cxC X (capN2 t caps) scope cl H2.objs.size s H fp) rfl rfl rfl hc i _ s' _ HC _ I3p (stat fr3 pD) st3 stop) fun r s4 ⟨hr, I4⟩ => ?_)))
      subst hr
      refine wpAny_pure ?_
      have I5 : Inv X pins σ HC s4 := I.call' (ch := fp) I4.os I4.base I4.hok I4.bare fun b hb => ⟨(hf b hb).2.2.2.1, (hf b hb).2.1, (hf b hb).2.2.2.2.1, (hf b hb).2.2.2.2.2⟩
      have e4 := (I4.pin _ (List.mem_append_right _ List.mem_cons_self)).1
      have fD : FpOk X pins HC s.heap.objs.size := I.fpOk (Nat.le_refl _) hD3
      have I6 := I5.track fD e4 r3 z3
      obtain ⟨m, hn, _⟩ := I4.loc
      refine fin _ _ ys HC s4 m hD3 I6 hn (I.fpOk hCle ?_) q
      rw [upd_ne (Ne.symm hDC)]
      exact I4.free
    · refine wpAny_bind (wpAny_standAt (wpAny_bind (thn (T.item (cxC X (capN2 t caps) scope cl H2.objs.size s H fp) rfl rfl rfl hc i _ s' _ HC _ I3p (stat fr3 pD) st3 go) fun r s4 ⟨u, hr, h4⟩ => ?_)))
      subst hr
      refine wpAny_bind (thn h4 fun _ s5 ⟨x, H5, I5, r5, y5, st5, fr5⟩ => ?_)
      have hD5 := (I5.pin _ (List.mem_append_right _ List.mem_cons_self)).2.1
      have I5' := I5.pinned (stat fr5 pD) (T.obj _ _ st5)
      have nox : ∀ {α : Type} {tr : Sem α} {Q : α → Shared → Prop} {E' : Value → Shared → Prop} {sx : Shared}, wpAny (model X.prog X.w) X.A tr Q (fun _ _ => False) sx → wpAny (model X.prog X.w) X.A tr Q E' sx := fun h => wpAny_mono h (fun _ _ z => z) fun _ _ z => z.elim
      refine wpAny_bind (nox (thn (hgt _ _ _ _ _ s5 _ H5 x u _ I5' r5 (step x H5 y5 v0 v1)) fun _ s6 ⟨τ, H6, I6, va, vb, eτ, q6⟩ => ?_))
      subst eτ
      refine wpAny_bind (nox (thn (ht _ _ _ _ _ s6 _ H6 _ I6 q6) fun ok s7 ⟨H7, I7, q7⟩ => ?_))
      -- what is known of the pinned objects behind any step
      have pinD : ∀ {σ' : St} {H' : Hp} {sx : Shared}, Inv (cxC X (capN2 t caps) scope cl H2.objs.size s H fp) ([(s.heap.objs.size, { cls := .type "list", data := .seq its.toArray nn })] ++ pinsAt fp s5.heap) σ' H' sx →
          sx.heap.get? s.heap.objs.size = some { cls := .type "list", data := .seq its.toArray nn } ∧ H' s.heap.objs.size = none ∧ tn (i + 1) sx.heap ∧ (∀ b ∈ fp, H' b = none) := fun {σ' H' sx} Ix => by
        have a := Ix.pin _ (List.mem_append_right _ (List.mem_append_left _ List.mem_cons_self))
        refine ⟨a.1, a.2.1, T.keep _ _ _ st5 fun b hb o e => (Ix.pin (b, o) (List.mem_append_right _ (List.mem_append_right _ (mem_pinsAt hb e)))).1, fun b hb => ?_⟩
        obtain ⟨o, e, d⟩ := T.obj _ _ st5 b hb
        exact (Ix.pin (b, o) (List.mem_append_right _ (List.mem_append_right _ (mem_pinsAt hb e)))).2.1
      have bare : ∀ {pl : List (Addr × Obj)} {σ' : St} {H' : Hp} {sx : Shared}, Inv (cxC X (capN2 t caps) scope cl H2.objs.size s H fp) pl σ' H' sx → Inv (cxC X (capN2 t caps) scope cl H2.objs.size s H fp) [] σ' H' sx := fun Ix => Ix.pins_of fun p hp => absurd hp (by simp)
      cases ok with
      | false =>
        rw [if_neg Bool.false_ne_true] at q7
        obtain ⟨m', hm, w7⟩ := hN _ _ q7
        obtain ⟨a1, a2, a3, a4⟩ := pinD I7
        exact wpAny_pure ⟨rfl, m', hm, i + 1, ys, its, nn, H7, va, vb, bare I7, a3, a4, a2, a1, r3, z3, w7⟩
      | true =>
        rw [if_pos rfl] at q7
        refine wpAny_bind (wpAny_bind (nox (thn (he _ _ _ _ _ s7 _ H7 _ I7 q7) fun y s8 ⟨yv, H8, I8, r8, hz8, n8⟩ => ?_)))
        obtain ⟨m', hm, w8⟩ := hN _ _ n8
        obtain ⟨a1, a2, a3, a4⟩ := pinD I8
        have hlen := r3.length
        refine wpAny_bind (call_meets F.slot_list_append ⟨_, a1, rfl⟩ F.entry_list_append (F.args_list_append_2 _ _) (PySem.list_append s.heap.objs.size its.toArray nn y (by rw [List.size_toArray]; omega)) ⟨a1, ?_⟩)
        obtain ⟨nn', q⟩ : ∃ nn' : Nat, (s8.heap.update s.heap.objs.size (Obj.mapSeq (·.push y))).get? s.heap.objs.size = some { cls := .type "list", data := .seq (its ++ [y]).toArray nn' } := by
          have q := PySem.IsL.update a1 (·.push y)
          have ea : its.toArray.push y = (its ++ [y]).toArray := by simp
          rw [ea] at q
          exact ⟨_, q⟩
        have I9 : Inv (cxC X (capN2 t caps) scope cl H2.objs.size s H fp) [] (capS2 caps σ va vb) H8 { s8 with heap := s8.heap.update s.heap.objs.size (Obj.mapSeq (·.push y)) } :=
          (bare I8).turned (t' := s8.toks) (fun b o hb e => (Heap.get?_update_other _ _ (Ne.symm hb)).trans e) a2 hDC (.inr (Nat.le_refl _)) hDcell (fun p hp => absurd (show p ∈ ([] : List (Addr × Obj)) from hp) (by simp))
        refine wpAny_pure (wpAny_pure ⟨rfl, m', hm, i + 1, ys ++ [yv], its ++ [y], nn', H8, va, vb, I9, T.keep _ _ _ a3 fun b hb o e => (Heap.get?_update_other _ _ (show s.heap.objs.size ≠ b from fun z => hDf (by rw [z]; exact hb))).trans e, a4, a2, q, r3.append (.cons r8 .nil), ?_, w8⟩)
        · rw [List.length_append, List.length_singleton]; omega
  exact codeAny_compStart_list (loop _ rfl) (T.self _ 0 _ _ _ st₁ (loop _ rfl))

theorem pe_comp2 (K : CapOk2 X scope cl t caps) (hc : X.calm = true) (hi : PI X (.Tuple es kx px) iter wi)
    (hgt : ∀ C s₀ H₀ ex, PG (cxC X (capN2 t caps) scope cl C s₀ H₀ ex) (.Tuple es kx px) g)
    (ht : ∀ C s₀ H₀ ex, PTs (cxC X (capN2 t caps) scope cl C s₀ H₀ ex) ifs tt) (he : ∀ C s₀ H₀ ex, PE (cxC X (capN2 t caps) scope cl C s₀ H₀ ex) elt te)
    (hs : ∀ x, foldedSetIterable iter X.env x = pure x := by intro _; rfl) : PE X (.ListComp elt [⟨.Tuple es kx px, iter, ifs, 0⟩] scope pos) (tComp2 caps g wi tt te) := by
  intro pins s σ H Q I h
  rw [eval_ListComp]
  refine wpAny_comprehension_free (use := none) rfl hs K.clos K.kind K.names (thn (hi pins s σ H _ I h) fun v s1 h1 => thn h1 fun itv s2 h2 => ?_)
  obtain ⟨it, fp, tn, J, H2, e, I2, T, st2, f2, W, ⟨m0, w0⟩, hW⟩ := h2
  subst e
  refine comp_block2 (RR := fun acc C => compPost (model X.prog X.w) X.A X.xe none (EP X pins σ Q) acc C) K hc hgt ht he I2 T st2 f2 w0 hW ?_
  intro D C ys H' s' m hD I' hn hC q
  refine ⟨m, hn, fun h' hs' => ?_⟩
  obtain ⟨c0, c1, c2, c3, c4, c5⟩ := hC
  exact ⟨.ref D, _, I'.turned (t' := s'.toks) (fun b o hb e => (hs'.2 b hb).trans e) c0 c1 c3 c4 c5, rfl, q D hD⟩

end
end L2

namespace L2
open PySem PySem.Spec PyProof.Rows
theorem bt_zip : bootBuiltins "zip" = some (.type "zip") := by decide +kernel
theorem bt_enumerate : bootBuiltins "enumerate" = some (.type "enumerate") := by decide +kernel
theorem bt_all : bootBuiltins "all" = some (.builtin "all") := by decide +kernel
theorem bt_abs : bootBuiltins "abs" = some (.builtin "abs") := by decide +kernel
theorem bt_min : bootBuiltins "min" = some (.builtin "min") := by decide +kernel
section
variable {X : Cx} {pins : List (Addr × Obj)} {σ : St} {H : Hp} {s : Shared} {h' : Heap}
/-- untracked records of ours have turned -/
theorem Inv.turnedL {t' : Nat} {ch : List Addr} (I : Inv X pins σ H s) (k : ∀ b o, b ∉ ch → s.heap.get? b = some o → h'.get? b = some o) (hf : ∀ b ∈ ch, FpOk X pins H b) : Inv X pins σ H { s with heap := h', toks := t' } := by
  have nit : ∀ b u, H b = some u → b ∉ ch := fun b u e z => by rw [(hf b z).1] at e; cases e
  refine I.step (g' := s.gens) (d' := s.drawn) (ch := ch) (fun b hb => ?_) (fun b o _ _ hc e _ => k b o hc e) (fun b o _ _ hc e _ => ⟨o.slots, k b o hc e⟩) (fun _ _ _ _ n => n)
    (fun b o hc e => ⟨o, k b o hc e⟩) (fun _ _ e => e) (fun _ _ _ e => e) (fun b ps e => ⟨#[], by rw [e]; simp⟩) (fun m hm => ?_) (fun b u e => ?_) I.bare
  · obtain ⟨_, f1, f2, f3, f4, f5⟩ := hf b hb
    exact ⟨f3, f1, f4, f5⟩
  · obtain ⟨o, es, ep, ho, r⟩ := hm
    exact ⟨o, es, ep, k _ o (fun z => (hf _ z).2.1 rfl) ho, r⟩
  · refine (I.hok b u e).stay (fun c v hc q => k c v ?_ q) (fun _ q => q) fun _ _ q => q
    rcases hc with z | z
    · rw [z]; exact nit b u e
    · exact nit c _ z
/-- an untracked tuple of ours is tracked from now on -/
theorem Inv.trackT {D : Addr} {ys : List V} {its : List Value} (I : Inv X pins σ H s) (f : FpOk X pins H D) (e : IsTup s.heap D its.toArray) (r : Vals ys its) (hz : ys.length ≤ sizeLine) :
    Inv X pins σ (upd H D (.tup ys)) s := by
  obtain ⟨f0, f1, f2, f3, f4, f5⟩ := f
  obtain ⟨hh, g, d, tk, os⟩ := s
  refine I.step (g' := g) (d' := d) (t' := tk) (h' := hh) (ch := [D]) (fun b hb => ?_) (fun b o _ _ _ e _ => e) (fun b o _ _ _ e _ => ⟨o.slots, e⟩) (fun b o hb _ n => ?_) (fun b o _ e => ⟨o, e⟩) (fun b xs q => ?_) (fun b o u q => ?_) (fun b ps q => ⟨#[], ?_⟩) (fun m hm => hm) (fun b u q => ?_) I.bare
  · have z : b = D := by simpa using hb
    subst z
    exact ⟨f3, f1, f4, f5⟩
  · rw [upd_ne (fun z => hb (by simp [z]))]; exact n
  · rw [upd_ne (ne_of_none q f0)]; exact q
  · rw [upd_ne (ne_of_none q f0)]; exact q
  · rw [upd_ne (ne_of_none q f0), q]; simp
  · by_cases hb : b = D
    · subst hb
      rw [upd_same] at q
      cases q
      exact ⟨hz, its, r, e⟩
    · rw [upd_ne hb] at q
      exact (I.hok b u q).stay (fun _ _ _ z => z) (fun c z => by rw [upd_ne (ne_of_none z f0)]; exact z) fun c xs z => by rw [upd_ne (ne_of_none z f0)]; exact z
end
/-- two lists, side by side -/
def Itz (K : PySem.W.Frag) (l1 l2 : Addr) : It :=
  ⟨fun i H => ∃ xs ys x y, SqL K H l1 xs ∧ SqL K H l2 ys ∧ xs[i]? = some x ∧ ys[i]? = some y,
   fun i H v H' => ∃ T x y, v = .ref T ∧ H T = none ∧ H' = upd H T (.tup [x, y]) ∧ (∀ xs, SqL K H l1 xs → xs[i]? = some x) ∧ ∀ ys, SqL K H l2 ys → ys[i]? = some y,
   fun i H => ∃ xs ys, SqL K H l1 xs ∧ SqL K H l2 ys ∧ (xs.length ≤ i ∨ ys.length ≤ i)⟩
def znT (z TI TO i1 i2 l1 l2 : Addr) (i : Nat) (h : Heap) : Prop := IsZip h z TI TO .none ∧ IsPair h TI (.ref i1) (.ref i2) ∧ (∃ a b, IsPair h TO a b) ∧ h.IsListIter i1 l1 i ∧ h.IsListIter i2 l2 i
theorem two_le : 2 ≤ sizeLine := by rw [sizeLine_eq]; decide
theorem turn_zip {P : Program} {w : World} {K : PySem.W.Frag} {es : List Expr} {kx : Nat} {px : Pos} {z TI TO i1 i2 l1 l2 : Addr} (D : ZipApart z TI TO i1 i2 l1 l2) : Turn P w K (.Tuple es kx px) (Itz K l1 l2) [z, TI, TO, i1, i2] z (znT z TI TO i1 i2 l1 l2) where
  mem := by simp
  obj := by
    rintro i h ⟨hz, hTI, ⟨a, b', hTO⟩, h1, h2⟩ b hb
    simp only [List.mem_cons, List.not_mem_nil, or_false] at hb
    rcases hb with rfl | rfl | rfl | rfl | rfl
    · exact ⟨_, hz, fun v q => by cases (show Data.fields _ = Data.cell v from q)⟩
    · exact ⟨_, hTI, fun v q => by cases (show Data.seq _ _ = Data.cell v from q)⟩
    · exact ⟨_, hTO, fun v q => by cases (show Data.seq _ _ = Data.cell v from q)⟩
    · obtain ⟨o, e, c, d⟩ := h1; exact ⟨o, e, fun v q => by rw [d] at q; cases q⟩
    · obtain ⟨o, e, c, d⟩ := h2; exact ⟨o, e, fun v q => by rw [d] at q; cases q⟩
  keep := fun i h h' ⟨hz, hTI, ⟨a, b, hTO⟩, h1, h2⟩ k => ⟨k z (by simp) _ hz, k TI (by simp) _ hTI, ⟨a, b, k TO (by simp) _ hTO⟩, h1.at fun o e => k i1 (by simp) o e, h2.at fun o e => k i2 (by simp) o e⟩
  item := by
    intro X hP hw hK hc i pins s σ H E I hf st hg
    subst hP hw hK
    obtain ⟨hz, hTI, ⟨a, b, hTO⟩, h1, h2⟩ := st
    obtain ⟨xs, ys, x, y, q1, q2, e1, e2⟩ := hg
    obtain ⟨its1, rv1, p1, _⟩ := I.list q1
    obtain ⟨its2, rv2, p2, _⟩ := I.list q2
    obtain ⟨u1, hu1, ru1⟩ := rv1.get e1
    obtain ⟨u2, hu2, ru2⟩ := rv2.get e2
    have f4 : ∀ b ∈ [z, TO, i1, i2], FpOk X pins H b := fun b hb => hf b (by simp only [List.mem_cons, List.not_mem_nil, or_false] at hb ⊢; rcases hb with h | h | h | h <;> simp [h])
    refine wpAny_pyNext_zip_item D hz hTI hTO h1 h2 p1.isList p2.isList (x := u1) (y := u2) (by simpa using hu1) (by simpa using hu2) fun h' z' TO' a1 a2 pT sz kk => ?_
    have I1 : Inv X pins σ H { s with heap := h' } := I.turnedL (t' := s.toks) (ch := [z, TO, i1, i2]) (fun b o hb e => kk b o (fun q => hb (by simp [q])) (fun q => hb (by simp [q])) (fun q => hb (by simp [q])) (fun q => hb (by simp [q])) e) f4
    refine ⟨_, rfl, wpAny_letOwnedTupleGo_zip z' fun h2' z2 sb => ?_⟩
    replace sb : Heap.SameBut z h' h2' := sb
    have I2 : Inv X pins σ H { s with heap := h2' } := I1.turnedL (s := { s with heap := h' }) (h' := h2') (t' := s.toks) (ch := [z]) (fun b o hb e => (sb.2 b (fun q => hb (by simp [q]))).trans e) fun b hb => hf b (by simp only [List.mem_singleton] at hb; simp [hb])
    have fT : FpOk X pins H s.heap.objs.size := I.fpOk (Nat.le_refl _) (I.hok.fresh (Nat.le_refl _))
    have nz : s.heap.objs.size ≠ z := Nat.ne_of_gt (Heap.lt_size hz)
    have pT2 : IsPair h2' s.heap.objs.size u1 u2 := sb.extBut _ _ nz pT
    have I3 : Inv X pins σ (upd H s.heap.objs.size (.tup [x, y])) { s with heap := h2' } := I2.trackT (its := [u1, u2]) fT ⟨_, pT2, rfl, _, rfl⟩ (.cons ru1 (.cons ru2 .nil)) two_le
    refine ⟨.ref s.heap.objs.size, _, I3, rfl, ⟨_, x, y, rfl, fT.1, rfl, fun zs hzs => by rw [I.list_inj hzs q1]; exact e1, fun zs hzs => by rw [I.list_inj hzs q2]; exact e2⟩, ⟨z2, sb.extBut _ _ D.TIz (kk _ _ D.TIz D.TITO D.TIi1 D.TIi2 hTI), ⟨_, _, sb.extBut _ _ D.TOz TO'⟩, a1.extBut sb.extBut D.i1z, a2.extBut sb.extBut D.i2z⟩, fun b hb => ?_⟩
    have nb : b ≠ s.heap.objs.size := by
      intro q
      simp only [List.mem_cons, List.not_mem_nil, or_false] at hb
      obtain ⟨o1, g1, _⟩ := h1
      obtain ⟨o2, g2, _⟩ := h2
      rcases hb with e | e | e | e | e <;> rw [e] at q
      · exact nz q.symm
      · exact Nat.ne_of_lt (Heap.lt_size hTI) q
      · exact Nat.ne_of_lt (Heap.lt_size hTO) q
      · exact Nat.ne_of_lt (Heap.lt_size g1) q
      · exact Nat.ne_of_lt (Heap.lt_size g2) q
    rw [upd_ne nb]
    exact (hf b hb).1
  done := by
    intro X hP hw hK hc i pins s σ H E I hf st hg
    subst hP hw hK
    obtain ⟨hz, hTI, ⟨a, b, hTO⟩, h1, h2⟩ := st
    obtain ⟨xs, ys, q1, q2, e⟩ := hg
    obtain ⟨its1, rv1, p1, _⟩ := I.list q1
    obtain ⟨its2, rv2, p2, _⟩ := I.list q2
    have hl1 := rv1.length
    have hl2 := rv2.length
    have f4 : ∀ b ∈ [z, TO, i1, i2], FpOk X pins H b := fun b hb => hf b (by simp only [List.mem_cons, List.not_mem_nil, or_false] at hb ⊢; rcases hb with h | h | h | h <;> simp [h])
    refine wpAny_pyNext_zip_end (I.ok.hd hc) D hz hTI hTO h1 h2 p1.isList p2.isList (e.elim (fun e => .inl (by simp; omega)) fun e => .inr (by simp; omega)) fun h' kk => ⟨rfl, I.turnedL (t' := s.toks) (ch := [z, TO, i1, i2]) (fun b o hb e => kk b o (fun q => hb (by simp [q])) (fun q => hb (by simp [q])) (fun q => hb (by simp [q])) (fun q => hb (by simp [q])) e) f4⟩
  self := fun _ _ _ _ _ st h => wpAny_pyIter_zip st.1 h
section
variable {X : Cx}
def iZip (K : PySem.W.Frag) (ta : TA) : TI := fun σ H R => ta σ H fun vs H1 => ∃ l1 l2, vs = [.ref l1, .ref l2] ∧ (∃ xs, SqL K H1 l1 xs) ∧ (∃ ys, SqL K H1 l2 ys) ∧ R (Itz K l1 l2) H1
theorem pi_zip {es : List Expr} {kx : Nat} {px : Pos} {a b : Expr} {ta : TA} {p pos : Pos} (hg : Gl X "zip") (hm : X.mg "zip" = none) (ha : PA X [a, b] ta) (hs : starEach [a, b] X.env = [(false, eval a X.env), (false, eval b X.env)] := by rfl) (hs2 : starEach [b] X.env = [(false, eval b X.env)] := by rfl) :
    PI X (.Tuple es kx px) (.Call (.Name "zip" p) [a, b] [] pos) (iZip X.K ta) := by
  intro pins s σ H R I h
  refine Call_ (ld_blt I hg hm bt_zip (PyProof.Rows.callWith_type1 (thn (ha pos pins s σ H _ I h) fun us s1 ⟨vs, H1, I1, r1, q1⟩ => ?_) (by rw [hs, hs2]) (by rw [hs2]; rfl)))
  obtain ⟨l1, l2, rfl, ⟨xs, g1⟩, ⟨ys, g2⟩, q⟩ := q1
  obtain ⟨u1, u2, rfl, e1, e2⟩ := vals2 r1
  obtain rfl : u1 = Value.ref l1 := e1
  obtain rfl : u2 = Value.ref l2 := e2
  obtain ⟨its1, rv1, p1, _⟩ := I1.list g1
  obtain ⟨its2, rv2, p2, _⟩ := I1.list g2
  have lt1 : l1 < s1.heap.objs.size := let ⟨_, e, _⟩ := p1.isList; Heap.lt_size e
  have lt2 : l2 < s1.heap.objs.size := let ⟨_, e, _⟩ := p2.isList; Heap.lt_size e
  refine call_zip_2 p1.isList p2.isList fun h' hz hTI hTO hi1 hi2 hsz hk => ?_
  refine wpAny_pyIter_zip hz ?_
  refine ⟨s1.heap.objs.size + 4, [s1.heap.objs.size + 4, s1.heap.objs.size + 2, s1.heap.objs.size + 3, s1.heap.objs.size, s1.heap.objs.size + 1], _, _, H1, rfl, I1.kept (t' := s1.toks) hk, turn_zip (zipApart_new lt1 lt2), ⟨hz, hTI, ⟨_, _, hTO⟩, hi1, hi2⟩, fun b hb => ?_, q⟩
  have le : s1.heap.objs.size ≤ b := by
    simp only [List.mem_cons, List.not_mem_nil, or_false] at hb
    rcases hb with e | e | e | e | e <;> rw [e] <;> first | exact Nat.le_refl _ | exact Nat.le_add_right _ _
  exact I1.fpOk le (I1.hok.fresh le)
/-- a list with its places -/
def Ite (K : PySem.W.Frag) (l : Addr) : It :=
  ⟨fun i H => ∃ xs x, SqL K H l xs ∧ xs[i]? = some x,
   fun i H v H' => ∃ T x, v = .ref T ∧ H T = none ∧ H' = upd H T (.tup [.int i, x]) ∧ ∀ xs, SqL K H l xs → xs[i]? = some x,
   fun i H => ∃ xs, SqL K H l xs ∧ xs.length ≤ i⟩
def enT (e it l : Addr) (i : Nat) (h : Heap) : Prop := (∃ old, IsEnum h e it i old) ∧ h.IsListIter it l i
theorem turn_enum {P : Program} {w : World} {K : PySem.W.Frag} {es : List Expr} {kx : Nat} {px : Pos} {e it l : Addr} (D : e ≠ it) : Turn P w K (.Tuple es kx px) (Ite K l) [e, it] e (enT e it l) where
  mem := by simp
  obj := by
    rintro i h ⟨⟨old, he⟩, h1⟩ b hb
    simp only [List.mem_cons, List.not_mem_nil, or_false] at hb
    rcases hb with rfl | rfl
    · exact ⟨_, he, fun v q => by cases (show Data.fields _ = Data.cell v from q)⟩
    · obtain ⟨o, e, c, d⟩ := h1; exact ⟨o, e, fun v q => by rw [d] at q; cases q⟩
  keep := fun i h h' ⟨⟨old, he⟩, h1⟩ k => ⟨⟨old, k e (by simp) _ he⟩, h1.at fun o q => k it (by simp) o q⟩
  item := by
    intro X hP hw hK hc i pins s σ H E I hf st hg
    subst hP hw hK
    obtain ⟨⟨old, he⟩, h1⟩ := st
    obtain ⟨xs, x, q1, e1⟩ := hg
    obtain ⟨its1, rv1, p1, _⟩ := I.list q1
    obtain ⟨u1, hu1, ru1⟩ := rv1.get e1
    refine wpAny_pyNext_enum_item he h1 p1.isList (x := u1) (by simpa using hu1) D fun h' eo a1 pT sz kk => ?_
    have I1 : Inv X pins σ H { s with heap := h', toks := s.toks + 1 } := I.turnedL (t' := s.toks + 1) (ch := [e, it]) (fun b o hb q => kk b o (fun z => hb (by simp [z])) (fun z => hb (by simp [z])) q) hf
    refine ⟨_, rfl, wpAny_letOwnedTupleGo_enum eo fun h2' e2 sb => ?_⟩
    replace sb : Heap.SameBut e h' h2' := sb
    have I2 : Inv X pins σ H { s with heap := h2', toks := s.toks + 1 } := I1.turnedL (s := { s with heap := h', toks := s.toks + 1 }) (h' := h2') (t' := s.toks + 1) (ch := [e]) (fun b o hb q => (sb.2 b (fun z => hb (by simp [z]))).trans q) fun b hb => hf b (by simp only [List.mem_singleton] at hb; simp [hb])
    have fT : FpOk X pins H s.heap.objs.size := I.fpOk (Nat.le_refl _) (I.hok.fresh (Nat.le_refl _))
    have ne : s.heap.objs.size ≠ e := Nat.ne_of_gt (Heap.lt_size he)
    have pT2 := sb.extBut _ _ ne pT
    have I3 : Inv X pins σ (upd H s.heap.objs.size (.tup [.int i, x])) { s with heap := h2', toks := s.toks + 1 } := I2.trackT (its := [.int i s.toks, u1]) fT ⟨_, pT2, rfl, _, rfl⟩ (.cons ⟨_, rfl⟩ (.cons ru1 .nil)) two_le
    refine ⟨.ref s.heap.objs.size, _, I3, rfl, ⟨_, x, rfl, fT.1, rfl, fun zs hzs => by rw [I.list_inj hzs q1]; exact e1⟩, ⟨⟨u1, ?_⟩, a1.extBut sb.extBut (Ne.symm D)⟩, fun b hb => ?_⟩
    · have ec : ((i + 1 : Nat) : Int) = (i : Int) + 1 := by push_cast; rfl
      rw [ec]
      exact e2
    · have nb : b ≠ s.heap.objs.size := by
        intro q
        simp only [List.mem_cons, List.not_mem_nil, or_false] at hb
        obtain ⟨o1, g1, _⟩ := h1
        rcases hb with z | z <;> rw [z] at q
        · exact ne q.symm
        · exact Nat.ne_of_lt (Heap.lt_size g1) q
      rw [upd_ne nb]
      exact (hf b hb).1
  done := by
    intro X hP hw hK hc i pins s σ H E I hf st hg
    subst hP hw hK
    obtain ⟨⟨old, he⟩, h1⟩ := st
    obtain ⟨xs, q1, e1⟩ := hg
    obtain ⟨its1, rv1, p1, _⟩ := I.list q1
    have hl1 := rv1.length
    obtain ⟨f0, f1, f2, f3, f4, f5⟩ := hf it (by simp)
    exact wpAny_pyNext_enum_end (I.ok.hd hc) he h1 p1.isList (by simp; omega) fun h' eb => ⟨rfl, I.turned (t' := s.toks) (fun b o hb q => eb b o hb q) f0 f1 f3 f4 f5⟩
  self := fun _ _ _ _ _ st h => let ⟨⟨_, he⟩, _⟩ := st; wpAny_pyIter_enum he h
def iEnum (K : PySem.W.Frag) (ta : TA) : TI := fun σ H R => ta σ H fun vs H1 => ∃ l, vs = [.ref l] ∧ (∃ xs, SqL K H1 l xs) ∧ R (Ite K l) H1
theorem pi_enum {es : List Expr} {kx : Nat} {px : Pos} {a : Expr} {ta : TA} {p pos : Pos} (hg : Gl X "enumerate") (hm : X.mg "enumerate" = none) (ha : PA X [a] ta) (hs : starEach [a] X.env = [(false, eval a X.env)] := by rfl) :
    PI X (.Tuple es kx px) (.Call (.Name "enumerate" p) [a] [] pos) (iEnum X.K ta) := by
  intro pins s σ H R I h
  refine Call_ (ld_blt I hg hm bt_enumerate (PyProof.Rows.callWith_type1 (thn (ha pos pins s σ H _ I h) fun us s1 ⟨vs, H1, I1, r1, q1⟩ => ?_) hs rfl))
  obtain ⟨l, rfl, ⟨xs, g1⟩, q⟩ := q1
  obtain ⟨u1, rfl, e1⟩ := vals1 r1
  obtain rfl : u1 = Value.ref l := e1
  obtain ⟨its1, rv1, p1, _⟩ := I1.list g1
  refine call_enumerate_list p1.isList fun h' he hi hsz hk => ?_
  refine wpAny_pyIter_enum he ?_
  refine ⟨s1.heap.objs.size + 1, [s1.heap.objs.size + 1, s1.heap.objs.size], _, _, H1, rfl, I1.kept (t' := s1.toks) hk, turn_enum (l := l) (Nat.succ_ne_self _), ⟨⟨_, he⟩, hi⟩, fun b hb => ?_, q⟩
  have le : s1.heap.objs.size ≤ b := by
    simp only [List.mem_cons, List.not_mem_nil, or_false] at hb
    rcases hb with e | e <;> rw [e] <;> first | exact Nat.le_refl _ | exact Nat.le_add_right _ _
  exact I1.fpOk le (I1.hok.fresh le)
theorem vals_bl : ∀ {bs : List Bool} {its : List Value}, Vals (bs.map V.bl) its → its = bs.map Value.bool
  | [], _, .nil => rfl
  | b :: bs, _, .cons r t => by rw [vals_bl t, show _ = Value.bool b from r]; rfl
theorem call_allB (hc : X.calm = true) : CallR X (.builtin "all") (fun xs H Q => ∃ (l : Addr) (bs : List Bool), xs = [.ref l] ∧ SqL X.K H l (bs.map V.bl) ∧ Q (.bl (bs.all id)) H) := by
  intro pins s σ H xs us Q I r h
  obtain ⟨l, bs, rfl, hl, q⟩ := h
  obtain ⟨u, rfl, ru⟩ := vals1 r
  obtain rfl : u = Value.ref l := ru
  obtain ⟨its, rv, p, _⟩ := I.list hl
  have ei := vals_bl rv
  subst ei
  have hL := p.isList
  have hlt : l < s.heap.objs.size := let ⟨_, e, _⟩ := hL; Heap.lt_size e
  refine call_all_walk (wpAny_pyIter_list hL ?_)
  refine ⟨s.heap.objs.size, [s.heap.objs.size, l], [s.heap.objs.size], (bs.map Value.bool).toArray.size, _, _, fun i => (bs[i]?).getD true, rfl, Walks.list (A := X.A.in1) (I.ok.hd hc) _ l (Nat.ne_of_lt hlt) (bs.map Value.bool).toArray,
    ⟨⟨_, Heap.get?_push_size _ rfl, rfl, rfl⟩, hL.push _⟩, fun i v s' Q' E' hP hQ => ?_, fun h' tk hk => ?_⟩
  · have hP' : (bs.map Value.bool).toArray[i]? = some v := hP
    have e0 : (bs.map Value.bool)[i]? = some v := by simpa using hP'
    rw [List.getElem?_map] at e0
    cases e1 : bs[i]? with
    | none => rw [e1] at e0; cases e0
    | some b =>
      rw [e1] at e0
      have e2 : Value.bool b = v := Option.some.inj e0
      subst e2
      simp only [e1, Option.getD_some] at hQ
      exact wpAny_truthy_bool hQ
  · have e : ((List.range (bs.map Value.bool).toArray.size).all fun i => (bs[i]?).getD true) = bs.all id := by
      rw [List.size_toArray, List.length_map]; exact LSm.range_all bs
    rw [e]
    exact ⟨.bl _, H, I.kept (LSm.kept_iter hk), rfl, q⟩
end
abbrev g2 (K : PySem.W.Frag) : TG := gTup K 2 (gCons (gName 0) (gCons (gName 1) gNil))
theorem comp_zip0 {K : PySem.W.Frag} {a b : Addr} {xs ys : List V} {caps : List (Str × Nat)} {te : TE} {σ : St} {H : Hp} {QE : List V → Hp → Prop} (Pv : Nat → List V → Hp → Prop) (h0 : Pv 0 [] H) (he : xs.length = ys.length)
    (hl : ∀ i zs H, i ≤ xs.length → Pv i zs H → SqL K H a xs ∧ SqL K H b ys)
    (hs : ∀ i x y zs H T, xs[i]? = some x → ys[i]? = some y → H T = none → Pv i zs H → te (capS2 caps σ (some x) (some y)) (upd H T (.tup [x, y])) (fun z H3 => zs.length < sizeLine ∧ Pv (i + 1) (zs ++ [z]) H3))
    (hd : ∀ zs H, Pv xs.length zs H → QE zs H) : ∃ W : Nat → Nat → List V → Hp → Prop, (∃ m, W 0 m [] H) ∧ CompW2 caps (g2 K) tYes te σ (Itz K a b) QE W := by
  refine ⟨fun i m zs H => m = xs.length - i ∧ i ≤ xs.length ∧ Pv i zs H, ⟨xs.length, by simp, Nat.zero_le _, h0⟩, ?_⟩
  rintro i m zs H ⟨rfl, hi, p⟩
  obtain ⟨q1, q2⟩ := hl i zs H hi p
  by_cases hlt : i < xs.length
  · have hlt' : i < ys.length := by omega
    refine .inr ⟨⟨xs, ys, xs[i], ys[i], q1, q2, by simp [hlt], by simp [hlt']⟩, Pv (i + 1), fun zs' H' p' => ⟨xs.length - (i + 1), by omega, rfl, hlt, p'⟩, ?_⟩
    rintro v H' ⟨T, x, y, rfl, hT, rfl, e1, e2⟩ v0 v1
    refine ⟨T, [x, y], rfl, SqT.of upd_same, rfl, x, [y], rfl, y, [], rfl, rfl, some x, some y, rfl, ?_⟩
    unfold tYes
    dsimp only
    rw [if_pos rfl]
    exact hs i x y zs H T (e1 xs q1) (e2 ys q2) hT p
  · have e : i = xs.length := by omega
    subst e
    exact .inl ⟨⟨xs, ys, q1, q2, .inl (Nat.le_refl _)⟩, hd zs H p⟩
theorem comp_enum0 {K : PySem.W.Frag} {a : Addr} {xs : List V} {caps : List (Str × Nat)} {te : TE} {σ : St} {H : Hp} {QE : List V → Hp → Prop} (Pv : Nat → List V → Hp → Prop) (h0 : Pv 0 [] H)
    (hl : ∀ i zs H, i ≤ xs.length → Pv i zs H → SqL K H a xs)
    (hs : ∀ i x zs H T, xs[i]? = some x → H T = none → Pv i zs H → te (capS2 caps σ (some (.int i)) (some x)) (upd H T (.tup [.int i, x])) (fun z H3 => zs.length < sizeLine ∧ Pv (i + 1) (zs ++ [z]) H3))
    (hd : ∀ zs H, Pv xs.length zs H → QE zs H) : ∃ W : Nat → Nat → List V → Hp → Prop, (∃ m, W 0 m [] H) ∧ CompW2 caps (g2 K) tYes te σ (Ite K a) QE W := by
  refine ⟨fun i m zs H => m = xs.length - i ∧ i ≤ xs.length ∧ Pv i zs H, ⟨xs.length, by simp, Nat.zero_le _, h0⟩, ?_⟩
  rintro i m zs H ⟨rfl, hi, p⟩
  have q1 := hl i zs H hi p
  by_cases hlt : i < xs.length
  · refine .inr ⟨⟨xs, xs[i], q1, by simp [hlt]⟩, Pv (i + 1), fun zs' H' p' => ⟨xs.length - (i + 1), by omega, rfl, hlt, p'⟩, ?_⟩
    rintro v H' ⟨T, x, rfl, hT, rfl, e1⟩ v0 v1
    refine ⟨T, [.int i, x], rfl, SqT.of upd_same, rfl, .int i, [x], rfl, x, [], rfl, rfl, some (.int i), some x, rfl, ?_⟩
    unfold tYes
    dsimp only
    rw [if_pos rfl]
    exact hs i x zs H T (e1 xs q1) hT p
  · have e : i = xs.length := by omega
    subst e
    exact .inl ⟨⟨xs, q1, Nat.le_refl _⟩, hd zs H p⟩
theorem for_enum {K : PySem.W.Frag} {a : Addr} {xs : List V} {g : TG} {tb : TS} {D : Ends} {σ : St} {H : Hp} (Pv : Nat → St → Hp → Prop) (h0 : Pv 0 σ H) (hl : ∀ i σ H, i ≤ xs.length → Pv i σ H → SqL K H a xs)
    (hs : ∀ i x σ H T, xs[i]? = some x → H T = none → Pv i σ H → g (.ref T) σ (upd H T (.tup [.int i, x])) fun σ2 H2 => tb { D with nx := Pv (i + 1), ct := Pv (i + 1), bk := D.nx } σ2 H2) (hd : ∀ σ H, Pv xs.length σ H → D.nx σ H) :
    ∃ W : Nat → Nat → St → Hp → Prop, (∃ m, W 0 m σ H) ∧ ∀ i m σ H, W i m σ H →
      ((Ite K a).stop i H ∧ D.nx σ H) ∨ ((Ite K a).go i H ∧ ∃ N : St → Hp → Prop, (∀ σ' H', N σ' H' → ∃ m', m' < m ∧ W (i + 1) m' σ' H') ∧ ∀ x H', (Ite K a).yld i H x H' → g x σ H' fun σ2 H2 => tb { D with nx := N, ct := N, bk := D.nx } σ2 H2) := by
  refine ⟨fun i m σ H => m = xs.length - i ∧ i ≤ xs.length ∧ Pv i σ H, ⟨xs.length, by simp, Nat.zero_le _, h0⟩, ?_⟩
  rintro i m σ H ⟨rfl, hi, p⟩
  have q1 := hl i σ H hi p
  by_cases hlt : i < xs.length
  · refine .inr ⟨⟨xs, xs[i], q1, by simp [hlt]⟩, Pv (i + 1), fun σ' H' p' => ⟨xs.length - (i + 1), by omega, rfl, hlt, p'⟩, ?_⟩
    rintro v H' ⟨T, x, rfl, hT, rfl, e1⟩
    exact hs i x σ H T (e1 xs q1) hT p
  · have e : i = xs.length := by omega
    subst e
    exact .inl ⟨⟨xs, q1, Nat.le_refl _⟩, hd σ H p⟩
/-- a product of numbers of less than two thousand bits -/
def CMulB (i j : Int) : Prop := i.natAbs < 2 ^ 2000 ∧ j.natAbs < 2 ^ 2000
theorem bitsB {i : Int} (h : i.natAbs < 2 ^ 2000) : Builtin.Int.intBits i ≤ 2 ^ 20 := by
  unfold Builtin.Int.intBits
  split
  · exact Nat.zero_le _
  · rename_i z
    have nz : i.natAbs ≠ 0 := by
      intro e
      exact z (by simp [Int.natAbs_eq_zero.mp e])
    have := (Nat.log2_lt nz).mpr h
    omega
theorem op_mulB {X : Cx} : OpR X (binaryOp .Mult) (rI CMulB fun i j => .int (i * j)) := opI fun _ _ _ _ _ _ _ hc q => mul_int q (IntMulOk.of_bits (bitsB hc.1) (bitsB hc.2))
def rListOf (K : PySem.W.Frag) : List V → Hp → VK → Prop := fun xs H Q => ∃ p ys, xs = [.ref p] ∧ (SqL K H p ys ∨ SqT K H p ys) ∧ ∀ l, H l = none → Q (.ref l) (upd H l (.lst ys))
theorem call_listK {X : Cx} : CallR X (.type "list") (rListOf X.K) := call_list_of
def rIsi (K : PySem.W.Frag) : List V → Hp → VK → Prop := fun xs H Q => ∃ x n t b, xs = [x, .ty n] ∧ TyOf K H x t ∧ PySem.W.kitOne K t (.type n) = some b ∧ Q (.bl b) H
theorem call_isiK {X : Cx} : CallR X (.builtin "isinstance") (rIsi X.K) := call_isi
end L2

namespace L2
open PySem PySem.Spec PyProof.Rows
section
variable {X : Cx}
theorem pairs_of {P : Program} {w : World} {H : Hp} {h : Heap} (ok : HOk P w H h) : ∀ {ts : List Addr} {kvs : List (Key × V)}, Paired (fun t (p : Key × V) => H t = some (.tup [kV p.1, p.2])) ts kvs →
    ∃ ps : List (Key × Value), KV kvs ps ∧ ∀ (j : Nat) (k : Key) (v : Value), ps[j]? = some (k, v) → ∃ T key, (ts.map Value.ref)[j]? = some (.ref T) ∧ IsTup h T #[key, v] ∧ (mixKind P w).is k key = true
  | _, _, .nil => ⟨[], .nil, fun j k v e => by simp at e⟩
  | t :: ts, p :: kvs, .cons r rest => by
    obtain ⟨ps, q1, q2⟩ := pairs_of ok rest
    obtain ⟨_, its, rv, it⟩ := (show ObjOk P w H h t (.tup [kV p.1, p.2]) from ok t _ r)
    obtain ⟨u1, u2, rfl, r1, r2⟩ := vals2 rv
    refine ⟨(p.1, u2) :: ps, .cons ⟨rfl, r2⟩ q1, fun j k v e => ?_⟩
    cases j with
    | zero =>
      have e' : (p.1, u2) = (k, v) := by simpa using e
      cases e'
      exact ⟨t, u1, rfl, it, kV_is r1⟩
    | succ j =>
      obtain ⟨T, key, a1, a2, a3⟩ := q2 j k v (by simpa using e)
      exact ⟨T, key, by simpa using a1, a2, a3⟩
theorem vals_refs : ∀ {ts : List Addr} {its : List Value}, Vals (ts.map V.ref) its → its = ts.map Value.ref
  | [], _, .nil => rfl
  | t :: ts, _, .cons r rest => by rw [vals_refs rest, show _ = Value.ref t from r]; rfl
theorem call_dictP (hc : X.calm = true) : CallR X (.type "dict") (fun xs H Q => ∃ (l : Addr) (ts : List Addr) (kvs : List (Key × V)), xs = [.ref l] ∧ H l = some (.lst (ts.map V.ref)) ∧ Paired (fun t (p : Key × V) => H t = some (.tup [kV p.1, p.2])) ts kvs ∧ (kvs.map (·.1)).Nodup ∧
    ∀ a, H a = none → Q (.ref a) (upd H a (.dK kvs))) := by
  intro pins s σ H xs us Q I r h
  obtain ⟨l, ts, kvs, rfl, hl, hp, hn, q⟩ := h
  obtain ⟨u, rfl, ru⟩ := vals1 r
  obtain rfl : u = Value.ref l := ru
  obtain ⟨hz, its, n, rv, hlen, hx⟩ := I.lstM hl
  have ei := vals_refs rv
  subst ei
  obtain ⟨ps, q1, q2⟩ := pairs_of I.hok hp
  have l1 := Paired.length hp
  have l2 := Paired.length q1
  rw [List.length_map] at hz
  refine call_dict_pairs (knd := mixKind X.prog X.w) (ps := ps) (I.ok.hd hc) hx (by rw [List.length_map]; omega) (by omega) q2 fun h' tk dd k => ?_
  have hk : (ps.map (·.1)).Nodup := by rw [← KV.keys q1]; exact hn
  have e := merged_nil_of_nodup ps hk
  unfold merged at e
  rw [e] at dd
  refine ⟨.ref s.heap.objs.size, _, I.laid (t' := tk) k (Nat.le_refl _) (dk_new (by omega) ?_ q1 dd), rfl, q _ I.fresh⟩
  exact beq_false_of_ne (Nat.ne_of_gt I.big)
def tThawE (H₀ : Hp) (t : TE) : TE := fun σ H Q => t σ H fun v H' => ∃ a o kvs, H' a = some (.frz o (.dK kvs)) ∧ (∀ o u', H₀ a ≠ some (.frz o u')) ∧ Q v (upd H' a (.dK kvs))
theorem pe_thaw {e : Expr} {t : TE} (h : PE X e t) : PE X e (tThawE X.H₀ t) := by
  intro pins s σ H Q I q
  refine thn (h pins s σ H _ I q) fun u s1 ⟨v, H', I', r, a, o, kvs, ha, hn, q'⟩ => ?_
  exact ⟨v, _, I'.thaw ha hn, r, q'⟩
end
theorem entry_itemiter : entryFor table "dict_itemiterator.__iter__" = some Builtin.«dict_keyiterator.__iter__» :=
  entryFor_alias (id' := "dict_keyiterator.__iter__") (by kernel_rfl) (by first | rfl | decide +kernel | (unfold String.splitOn; simp +decide [String.splitOnAux])) (by decide +kernel) (by kernel_rfl)
theorem wpAny_pyIter_itemiter {prog : Program} {w : World} {A : Around} {E : Value → Shared → Prop} {s : Shared} {it d : Addr} {i n ep : Nat} {ok ov : Value} {Q : Value → Shared → Prop} (hit : IsItemIter s.heap it d i n ep ok ov) (h : Q (.ref it) s) : wpAny (model prog w) A (pyIter (.ref it)) Q E s := by
  have hT : s.TypeIs (.ref it) "dict_itemiterator" := ⟨_, hit, rfl⟩
  refine wpAny_pyIter_slot hT PySem.F.slot_dict_itemiterator_iter (wpAny_call_entry PySem.F.slot_dict_itemiterator_iter hT entry_itemiter ?_ (PySem.F.args_dict_itemiterator_iter_1 _))
  show wpAny _ _ (ret (.ref it)) _ _ s
  exact wpAny_pure ⟨_, rfl, "dict_itemiterator", _, hT, PySem.F.slot_dict_itemiterator_next.lookup, h⟩
def Iti (a : Addr) (o : Obj) (kvs : List (Key × V)) : It :=
  ⟨fun i H => H a = some (.frz o (.dK kvs)) ∧ i < kvs.length, fun i H x H' => ∃ T k v, x = .ref T ∧ H T = none ∧ kvs[i]? = some (k, v) ∧ H' = upd H T (.tup [kV k, v]), fun i H => H a = some (.frz o (.dK kvs)) ∧ kvs.length ≤ i⟩
theorem kv_at' : ∀ {kvs : List (Key × V)} {vs : List (Key × Value)}, Paired (fun (p : Key × V) (q : Key × Value) => p.1 = q.1 ∧ RelV p.2 q.2) kvs vs → ∀ {i : Nat}, i < kvs.length → ∃ k v x, kvs[i]? = some (k, v) ∧ vs[i]? = some (k, x) ∧ RelV v x
  | _, _, .nil, _, h => by simp at h
  | p :: _, p' :: _, .cons q _, 0, _ => ⟨p.1, p.2, p'.2, rfl, by rw [q.1]; rfl, q.2⟩
  | _ :: _, _ :: _, .cons _ t, i + 1, h => by
    obtain ⟨k, v, x, e1, e2, e3⟩ := kv_at' t (i := i) (by simpa using h)
    exact ⟨k, v, x, by simpa using e1, by simpa using e2, e3⟩
theorem kv_at {kvs : List (Key × V)} {vs : List (Key × Value)} (r : KV kvs vs) {i : Nat} (hi : i < kvs.length) : ∃ k v x, kvs[i]? = some (k, v) ∧ vs[i]? = some (k, x) ∧ RelV v x := kv_at' r hi
theorem turn_items {P : Program} {w : World} {K : PySem.W.Frag} {es : List Expr} {kx : Nat} {px : Pos} (a it : Addr) (hne : a ≠ it) (o : Obj) (kvs : List (Key × V)) : Turn P w K (.Tuple es kx px) (Iti a o kvs) [it] it (fun i h => ∃ ok ov, IsItemIter h it a i kvs.length (epO o) ok ov) where
  mem := by simp
  obj := fun i h st b hb => by
    have e : b = it := by simpa using hb
    subst e
    obtain ⟨ok, ov, st⟩ := st
    exact ⟨_, st, fun v q => by cases (show Data.fields _ = Data.cell v from q)⟩
  keep := fun i h h' st k => let ⟨ok, ov, st⟩ := st; ⟨ok, ov, k it (by simp) _ st⟩
  item := by
    intro X hP hw hK hc i pins s σ H E I hf st hg
    subst hP hw hK
    obtain ⟨hg1, hg2⟩ := hg
    obtain ⟨f0, f1, f2, f3, f4, f5⟩ := hf it (by simp)
    obtain ⟨hd, vs, r, da⟩ := frz_at I.hok hg1
    have hlen := r.length
    obtain ⟨k, v, x, e1, e2, e3⟩ := kv_at r hg2
    obtain ⟨ok, ov, st⟩ := st
    rw [hlen] at st ⊢
    refine wpAny_pyNext_items_item st da e2 fun key h' hkey ho hT hsz hk => ?_
    have I1 : Inv X pins σ H { s with heap := h', toks := s.toks } := I.turned (fun b o hb e => hk b o hb e) f0 f1 f3 f4 f5
    refine ⟨_, rfl, wpAny_letOwnedTupleGo_items ho fun h2' e4 sb => ?_⟩
    replace sb : Heap.SameBut it h' h2' := sb
    have I2 : Inv X pins σ H { s with heap := h2', toks := s.toks } := I1.turned (s := { s with heap := h', toks := s.toks }) (h' := h2') (t' := s.toks) (fun b o hb e => (sb.2 b hb).trans e) f0 f1 f3 f4 f5
    have fT : FpOk X pins H s.heap.objs.size := I.fpOk (Nat.le_refl _) (I.hok.fresh (Nat.le_refl _))
    have ne : s.heap.objs.size ≠ it := Nat.ne_of_gt (Heap.lt_size st)
    have pT2 := sb.extBut _ _ ne hT
    have I3 : Inv X pins σ (upd H s.heap.objs.size (.tup [kV k, v])) { s with heap := h2', toks := s.toks } := I2.trackT (its := [key, x]) fT ⟨_, pT2, rfl, _, rfl⟩ (.cons (kV_rel hkey) (.cons e3 .nil)) two_le
    refine ⟨.ref s.heap.objs.size, _, I3, rfl, ⟨_, k, v, rfl, fT.1, e1, rfl⟩, ⟨_, _, e4⟩, fun b hb => ?_⟩
    have nb : b ≠ s.heap.objs.size := fun q => ne (by rw [← q]; simpa using hb)
    rw [upd_ne nb]
    exact (hf b hb).1
  done := by
    intro X hP hw hK hc i pins s σ H E I hf st hg
    subst hP hw hK
    obtain ⟨hg1, hg2⟩ := hg
    obtain ⟨f0, f1, f2, f3, f4, f5⟩ := hf it (by simp)
    obtain ⟨hd, vs, r, da⟩ := frz_at I.hok hg1
    have hlen := r.length
    obtain ⟨ok, ov, st⟩ := st
    rw [hlen] at st
    exact wpAny_pyNext_items_end (I.ok.hd hc) st da (by simp; omega) fun h' eb => ⟨rfl, I.turned (t' := s.toks) (fun b o hb e => eb b o hb e) f0 f1 f3 f4 f5⟩
  self := fun _ _ _ _ _ st h => by
    obtain ⟨ok, ov, st⟩ := st
    exact wpAny_pyIter_itemiter st h
section
variable {X : Cx}
def iItems (H₀ : Hp) (td : TE) : TI := fun σ H R => td σ H fun x H1 => ∃ a kvs, x = .ref a ∧ H1 a = some (.dK kvs) ∧ (∀ o u', H₀ a ≠ some (.frz o u')) ∧ ∀ o, R (Iti a o kvs) (upd H1 a (.frz o (.dK kvs)))
theorem pi_items {es : List Expr} {kx : Nat} {px : Pos} {o : Expr} {apos cpos : Pos} {td : TE} (ho : PE X o td) (hbase : attributeBase o "items" X.env (eval o X.env) = eval o X.env := by rfl) (hline : (apos.endLine == cpos.line) = true := by rfl) : PI X (.Tuple es kx px) (.Call (.Attribute o "items" apos) [] [] cpos) (iItems X.H₀ td) := by
  intro pins s σ H R I h
  refine wpAny_Call_method0_late hbase hline (thn (ho pins s σ H _ I h) fun u s1 ⟨x, H1, I1, rx, a, kvs, ex, ea, hn, q⟩ => ?_)
  subst ex
  obtain rfl : u = Value.ref a := rx
  obtain ⟨t1, t2, hd⟩ := isD_at I1 (.inl ⟨kvs, .inl ea⟩)
  obtain ⟨_, _, vs, rel, dd⟩ := dk_of I1.hok ea
  refine ⟨"dict", "dict.items", PySem.F.plainAttrs_dict, PySem.F.slot_dict_items, PySem.F.type_dict_items, t1, t2, Calls.callWith_builtin rfl (PySem.evalArgs_none ?_)⟩
  refine call_meetsIn PySem.F.slot_dict_items dd.typeIs PySem.F.entry_dict_items (PySem.F.args_dict_items_1 _) (meets_dict_items (mixKind X.prog X.w) a hd) ⟨⟨vs, dd⟩, ?_⟩
  have nw := Heap.get?_push_size s1.heap (o := { cls := .type "dict_items", data := .fields #[.ref a] }) rfl
  have I2 : Inv X pins σ H1 { s1 with heap := s1.heap.push { cls := .type "dict_items", data := .fields #[.ref a] }, toks := s1.toks } := I1.kept fun b o e => Heap.get?_push_of_some _ e
  obtain ⟨_, hd2, vs2, rel2, dd2⟩ := dk_of I2.hok ea
  obtain ⟨ob, es2, ep, g1, g2, g3, g4⟩ := id dd2
  have I3 := I2.freeze ea g1 hn
  have lt : a < (s1.heap.push { cls := .type "dict_items", data := .fields #[.ref a] }).objs.size := Heap.lt_size g1
  have da : (s1.heap.push { cls := .type "dict_items", data := .fields #[.ref a] }).DictAt (mixKind X.prog X.w) a vs2 (epO ob) := ⟨ob, es2, g1, g2, by unfold epO; rw [g3], g4⟩
  refine wpAny_pyIter_items ⟨_, nw, rfl, rfl⟩ da ?_
  refine ⟨(s1.heap.push { cls := .type "dict_items", data := .fields #[.ref a] }).objs.size, [(s1.heap.push { cls := .type "dict_items", data := .fields #[.ref a] }).objs.size], _, Iti a ob kvs, _, rfl, I3.kept (t' := s1.toks) fun b o e => Heap.get?_push_of_some _ e, turn_items a _ (Nat.ne_of_lt lt) ob kvs, ⟨.none, .none, ?_⟩, fun b hb => ?_, q ob⟩
  · rw [rel2.length]
    exact Heap.get?_push_size _ rfl
  · have e : b = (s1.heap.push { cls := .type "dict_items", data := .fields #[.ref a] }).objs.size := by simpa using hb
    subst e
    exact I3.fpOk (Nat.le_refl _) (I3.hok.fresh (Nat.le_refl _))
end
theorem comp_items0 {K : PySem.W.Frag} {a : Addr} {o : Obj} {kvs : List (Key × V)} {caps : List (Str × Nat)} {te : TE} {σ : St} {H : Hp} {QE : List V → Hp → Prop} (Pv : Nat → List V → Hp → Prop) (h0 : Pv 0 [] H)
    (hl : ∀ i zs H, i ≤ kvs.length → Pv i zs H → H a = some (.frz o (.dK kvs)))
    (hs : ∀ i k v zs H T, kvs[i]? = some (k, v) → H T = none → Pv i zs H → te (capS2 caps σ (some (kV k)) (some v)) (upd H T (.tup [kV k, v])) (fun z H3 => zs.length < sizeLine ∧ Pv (i + 1) (zs ++ [z]) H3))
    (hd : ∀ zs H, Pv kvs.length zs H → QE zs H) : ∃ W : Nat → Nat → List V → Hp → Prop, (∃ m, W 0 m [] H) ∧ CompW2 caps (g2 K) tYes te σ (Iti a o kvs) QE W := by
  refine ⟨fun i m zs H => m = kvs.length - i ∧ i ≤ kvs.length ∧ Pv i zs H, ⟨kvs.length, by simp, Nat.zero_le _, h0⟩, ?_⟩
  rintro i m zs H ⟨rfl, hi, p⟩
  have q1 := hl i zs H hi p
  by_cases hlt : i < kvs.length
  · refine .inr ⟨⟨q1, hlt⟩, Pv (i + 1), fun zs' H' p' => ⟨kvs.length - (i + 1), by omega, rfl, hlt, p'⟩, ?_⟩
    rintro v H' ⟨T, k, x, rfl, hT, e1, rfl⟩ v0 v1
    refine ⟨T, [kV k, x], rfl, SqT.of upd_same, rfl, kV k, [x], rfl, x, [], rfl, rfl, some (kV k), some x, rfl, ?_⟩
    unfold tYes
    dsimp only
    rw [if_pos rfl]
    exact hs i k x zs H T e1 hT p
  · have e : i = kvs.length := by omega
    subst e
    exact .inl ⟨⟨q1, Nat.le_refl _⟩, hd zs H p⟩
section
variable {X : Cx} {tg : Expr}
end
end L2

namespace Srt
open PySem PyProof.Rows
section
variable {prog : Program} {w : World} {A : Around} {E : Value → Shared → Prop} {s : Shared} {a₀ : Array Keyed}
theorem sort_runs_small {st : SortSt} {Q : Unit → SortSt → Prop} (k : Ks a₀) (S : SI a₀ st) (hp : pendingOf st = #[]) (h2 : 2 ≤ a₀.size) (h64 : a₀.size < 64) (h : ∀ st', (arrOf st').Perm a₀ → failedOf st' = none → SortedTo (arrOf st') a₀.size → Q () st') : wpS (model prog w) A E s sortRuns' Q st := by
  have hmr : minRun' a₀.size a₀.size 0 = a₀.size := by
    obtain ⟨z, hz⟩ : ∃ z, a₀.size = z + 1 := ⟨a₀.size - 1, by omega⟩
    have := minRun'_succ z a₀.size 0
    rw [← hz] at this
    rw [this, if_pos h64]
    omega
  rw [sortRuns'_eq]
  refine wpS_bind (wpS_get ?_)
  have hsz := S.size
  have hsz2 : (arrOf st).size = a₀.size := hsz
  dsimp only
  rw [hsz]
  refine wpS_bind (wpS_mono (wpS_forRange (I := fun x c st' => ∃ lo, c = (none, lo) ∧ RI a₀ st' lo ∧ x ≤ lo ∧ ((lo = 0 ∧ pendingOf st' = #[]) ∨ (lo = a₀.size ∧ (pendingOf st').size ≤ 1))) (Q := fun c st' => c = (none, a₀.size) ∧ RI a₀ st' a₀.size ∧ (pendingOf st').size ≤ 1) ?_ ?_ ?_) ?_)
  · rintro x c st1 hx1 hx2 ⟨lo, rfl, R, hx, hlo⟩
    have hle := R.le
    refine ite_at (fun g => ?_) (fun g => ?_)
    · have g' : a₀.size ≤ lo := g
      obtain rfl : lo = a₀.size := by omega
      exact wpS_pure ⟨rfl, R, hlo.elim (fun z => by rw [z.2]; exact Nat.zero_le _) fun z => z.2⟩
    have g' : ¬ a₀.size ≤ lo := g
    obtain ⟨rfl, hpe⟩ : lo = 0 ∧ pendingOf st1 = #[] := hlo.elim id fun z => absurd z.1 (by omega)
    refine wpS_bind (run_find R.S k (lo := 0) (nrem := a₀.size - 0) (by omega) (by omega) fun m st2 C m1 m2 us => ?_)
    dsimp only
    have hp2 : pendingOf st2 = #[] := by rw [C.pend]; exact hpe
    refine ite_at (fun gm => ?_) (fun gm => ?_)
    · refine wpS_bind (wpS_lift (wpAny_rule ⟨rfl, ?_⟩))
      generalize hf : min (a₀.size - 0) (minRun' a₀.size a₀.size 0) = n
      rw [hmr] at hf
      refine wpS_bind (run_fill C.S k (lo := 0) (n := n) (ok := m) (by omega) m1 (by omega) us fun st3 C3 us3 => ?_)
      have hp3 : pendingOf st3 = #[] := by rw [C3.pend]; exact hp2
      have R3 : RI a₀ st3 0 := ⟨C3.S, by
        rw [C3.pend, C.pend]
        exact R.ch.congr fun i _ hi => (C3.pre i hi).trans (C.pre i hi), R.le⟩
      refine wpS_bind (wpS_get ?_)
      cases e : (pendingOf st3).back? with
      | none => exact wpS_bind (wpS_modify (wpS_pure ⟨0 + n, rfl, R3.push (by omega) (by omega) us3, by omega, .inr ⟨by omega, by show ((pendingOf st3).push _).size ≤ 1; rw [hp3]; exact Nat.le_refl 1⟩⟩))
      | some t =>
        rw [hp3] at e
        cases e
    · have gm' : ¬ m < min (a₀.size - 0) (minRun' a₀.size a₀.size 0) ∨ True := .inr trivial
      have hmm : m = a₀.size := by
        have : ¬ m < minRun' a₀.size a₀.size 0 := by simpa using gm
        rw [hmr] at this
        omega
      have R3 : RI a₀ st2 0 := ⟨C.S, by
        rw [C.pend]
        exact R.ch.congr fun i _ hi => C.pre i hi, R.le⟩
      refine wpS_bind (wpS_get ?_)
      cases e : (pendingOf st2).back? with
      | none => exact wpS_bind (wpS_modify (wpS_pure ⟨0 + m, rfl, R3.push (by omega) (by omega) us, by omega, .inr ⟨by omega, by show ((pendingOf st2).push _).size ≤ 1; rw [hp2]; exact Nat.le_refl 1⟩⟩))
      | some t =>
        rw [hp2] at e
        cases e
  · rintro c st' ⟨lo, rfl, R, hx, hlo⟩
    have := R.le
    obtain rfl : lo = a₀.size := by omega
    exact ⟨rfl, R, hlo.elim (fun z => by rw [z.2]; exact Nat.zero_le _) fun z => z.2⟩
  · exact ⟨0, rfl, ⟨S, by rw [hp]; rfl, Nat.zero_le _⟩, Nat.le_refl _, .inl ⟨rfl, hp⟩⟩
  · rintro c st' ⟨rfl, R, hp1⟩
    dsimp only
    refine wpS_bind (wpS_mono (wpS_forRange (I := fun x c st2 => c = (none, ()) ∧ RI a₀ st2 a₀.size ∧ (pendingOf st2).size ≤ 1) (Q := fun c st2 => c = (none, ()) ∧ RI a₀ st2 a₀.size ∧ (pendingOf st2).size ≤ 1) ?_ ?_ ?_) ?_)
    · rintro x c st2 hx1 hx2 ⟨rfl, R2, hle⟩
      refine wpS_bind (wpS_get ?_)
      exact ite_at (fun g => wpS_pure ⟨rfl, R2, g⟩) (fun g => absurd hle g)
    · rintro c st2 ⟨rfl, R2, hle⟩
      exact ⟨rfl, R2, hle⟩
    · exact ⟨rfl, R, hp1⟩
    · rintro c st2 ⟨rfl, R2, hle⟩
      refine wpS_pure (h st2 R2.S.perm R2.S.failed ?_)
      have ch := R2.ch
      cases e : (pendingOf st2).toList with
      | nil =>
        rw [e] at ch
        have : 0 = a₀.size := ch
        omega
      | cons x r =>
        have hr : r = [] := by
          have z : (pendingOf st2).toList.length = r.length + 1 := by rw [e]; rfl
          rw [Array.length_toList] at z
          exact List.length_eq_zero_iff.mp (by omega)
        subst hr
        obtain ⟨t, n, p⟩ := x
        rw [e] at ch
        obtain ⟨_, _, u, e2⟩ := ch
        have e3 : 0 + n = a₀.size := e2
        rw [e3] at u
        exact fun i j hij hj => u i j (Nat.zero_le _) hij hj
end
section
variable {prog : Program} {w : World} {A : Around} {E : Value → Shared → Prop} {s : Shared}
theorem sort_tree_small {a : Addr} {vs : List Value} {ns : List Int} {n : Nat} {P : Fin → Shared → Prop} (at0 : s.heap.get? a = some (seqObj "list" vs.toArray n)) (hI : IntsAre vs ns) (hn : ns.Nodup) (hz : vs.length ≤ 60)
    (k : ∀ (out : Array Value) (ns' : List Int), IntsAre out.toList ns' → ns'.Perm ns → ns'.Pairwise (· ≤ ·) → P (.done (.ret .none)) { s with heap := sortedHeap s.heap a vs out }) : wpAny (model prog w) A (Builtin.«list.sort» ⟨[.ref a], []⟩) P E s := by
  have lz : sizeLine = 16777216 := sizeLine_eq
  rw [list_sort_plain]
  have lt := Heap.lt_size at0
  refine wpAny_bind (listItems_at at0 rfl (wpAny_bind (listUpdate_at at0 rfl ?_ (by simp only [List.size_toArray]; omega))))
  obtain ⟨ep, at1⟩ : ∃ ep, (s.heap.update a (Obj.mapSeq fun _ => #[])).get? a = some (seqObj "list" #[] ep) := ⟨_, get?_update_seq at0 fun _ => #[]⟩
  refine wpAny_bind (seqEpoch_at at1 rfl (wpAny_bind (wpAny_newTuple (wpAny_bind (wpAny_newList (wpAny_holding ?_))))))
  have at2 : (((s.heap.update a (Obj.mapSeq fun _ => #[])).push (seqObj "tuple" vs.toArray 0)).push (seqObj "list" #[] 0)).get? a = some (seqObj "list" #[] ep) := by
    have l1 : a < ((s.heap.update a (Obj.mapSeq fun _ => #[])).push (seqObj "tuple" vs.toArray 0)).objs.size := by rw [size_push', Heap.size_update]; exact Nat.lt_succ_of_lt lt
    rw [Heap.get?_push_ne _ _ _ (Nat.ne_of_lt l1), Heap.get?_push_ne _ _ _ (by rw [Heap.size_update]; exact Nat.ne_of_lt lt)]
    exact at1
  have done : ∀ st' : SortSt, (arrOf st').Perm (pairsOf vs) → SortedTo (arrOf st') (pairsOf vs).size → P (.done (.ret .none)) { s with heap := sortedHeap s.heap a vs ((arrOf st').map (·.2)) } := fun st' q1 q2 => by
    obtain ⟨ns', w1, w2, w3⟩ := sorted_out hI q1 q2
    exact k _ ns' w1 w2 w3
  show wpAny (model prog w) A _ P E { s with heap := ((s.heap.update a (Obj.mapSeq fun _ => #[])).push (seqObj "tuple" vs.toArray 0)).push (seqObj "list" #[] 0) }
  dsimp only
  by_cases two : vs.toArray.size < 2
  · rw [if_pos two, if_pos two]
    refine wpAny_bind (wpAny_pure ?_)
    rw [StateT.run_pure]
    refine wpAny_bind (wpAny_pure (wpAny_bind (seqEpoch_at at2 rfl (wpAny_bind (listUpdate_at at2 rfl ?_ (Nat.zero_le _) ?_)))))
    · simp only [bne_self_eq_false, Bool.false_eq_true, if_false]
      refine wpAny_pure (done (SortSt.mk' general' (vs.toArray.zip vs.toArray) #[] 7 none) (Array.Perm.refl _) fun i j hij hj => ?_)
      rw [pairsOf_size] at hj
      rw [List.size_toArray] at two
      rw [show i = j by omega]
      exact Int.le_refl _
    · show (Array.map (fun x : Keyed => x.2) (vs.toArray.zip vs.toArray)).size ≤ sizeLine + 1
      rw [Array.size_map]
      show (pairsOf vs).size ≤ sizeLine + 1
      rw [pairsOf_size]
      omega
  · rw [if_neg two, if_neg two]
    rw [List.size_toArray] at two
    obtain ⟨v1, v2, vr, rfl⟩ : ∃ v1 v2 vr, vs = v1 :: v2 :: vr := by
      match vs, two with
      | [], z => exact absurd (by decide) z
      | [_], z => exact absurd (by rw [List.length_singleton]; decide) z
      | v1 :: v2 :: vr, _ => exact ⟨v1, v2, vr, rfl⟩
    rw [keyKind_ints hI]
    have sr := sort_runs_small (prog := prog) (w := w) (A := A) (E := E) (s := { s with heap := ((s.heap.update a (Obj.mapSeq fun _ => #[])).push (seqObj "tuple" (v1 :: v2 :: vr).toArray 0)).push (seqObj "list" #[] 0) }) (ks_of hI hn)
      (st := SortSt.mk' oneType' (pairsOf (v1 :: v2 :: vr)) #[] 7 none) (Q := fun _ st' => (arrOf st').Perm (pairsOf (v1 :: v2 :: vr)) ∧ failedOf st' = none ∧ SortedTo (arrOf st') (pairsOf (v1 :: v2 :: vr)).size) ⟨Array.Perm.refl _, rfl, rfl⟩ rfl (by rw [pairsOf_size]; omega) (by rw [pairsOf_size]; omega) fun st' q1 q2 q3 => ⟨q1, q2, q3⟩
    refine wpAny_bind (wpAny_pure (wpAny_bind (wpAny_mono sr ?_ fun _ _ e => e)))
    rintro ⟨⟨⟩, st'⟩ s' ⟨rfl, q1, q2, q3⟩
    dsimp only
    refine wpAny_bind (seqEpoch_at at2 rfl (wpAny_bind (listUpdate_at at2 rfl ?_ (Nat.zero_le _) ?_)))
    · rw [q2]
      simp only [bne_self_eq_false, Bool.false_eq_true, if_false]
      exact wpAny_pure (done st' q1 q3)
    · show (Array.map (fun x : Keyed => x.2) (arrOf st')).size ≤ sizeLine + 1
      rw [Array.size_map, q1.size_eq, pairsOf_size]
      omega
end
section
variable {prog : Program} {w : World} {A : Around} {E : Value → Shared → Prop} {s : Shared} {T : String} {r d : Addr} {n : Nat} {P : Nat → Value → Prop} {OK : Heap → Prop}
theorem sorted_src_small {ns : List Int} {Q : Value → Shared → Prop} (S : PySem.W.KdlSrc prog w T r d n P OK) (hh : A.handled = none) (hok : OK s.heap) (hP : ∀ (i : Nat) (v : Value), P i v → ∃ (m : Int) (t : Tok), ns[i]? = some m ∧ v = .int m t) (hl : ns.length = n) (hn : ns.Nodup) (hz : n ≤ 60)
    (k : ∀ (h1 h' : Heap) (tk : Nat) (out : Array Value) (ns' : List Int) (e : Nat), (∀ b o, s.heap.get? b = some o → h1.get? b = some o) → (∀ b o, h1.get? b = some o → h'.get? b = some o) → h'.get? h1.objs.size = some (seqObj "list" out e) → IntsAre out.toList ns' → ns'.Perm ns → ns'.Pairwise (· ≤ ·) → Q (.ref h1.objs.size) { s with heap := h', toks := tk }) :
    wpAny (model prog w) A (call (.builtin "sorted") [.ref r]) Q E s := by
  have lz : sizeLine = 16777216 := sizeLine_eq
  refine Calls.call_function_entry kind_sorted plain_sorted entry_sorted (args_sorted1 _) ?_
  refine wpAny_bind (m := checkCount "sorted" 1 1 _) (wpAny_pure (wpAny_bind (PySem.W.kdu_collect (A := A.in1) S hh hok (by omega) fun h1 tk acc k1 hacc => ?_)))
  have ln : acc.toList.length = n := by rw [Array.length_toList]; exact hacc.1
  refine wpAny_bind (wpAny_newList ?_ (by omega))
  have hI : IntsAre acc.toList ns := ints_of (by omega) fun j v e => hP j v (hacc.2 j v (by rw [← Array.getElem?_toList]; exact e))
  have at1 := Heap.get?_push_size h1 (o := seqObj "list" acc.toList.toArray 0) rfl
  show wpAny _ _ _ _ _ { s with heap := h1.push (seqObj "list" acc.toList.toArray 0), toks := tk }
  refine wpAny_bind (wpAny_holding (wpAny_call_entry slot_list_sort ⟨_, at1, rfl⟩ entry_list_sort (sort_tree_small at1 hI hn (by omega) fun out ns' w1 w2 w3 => ⟨_, rfl, wpAny_pure ⟨_, rfl, ?_⟩⟩) (args_list_sort _)))
  obtain ⟨e, he⟩ := sortedHeap_at (vs := acc.toList) (out := out) at1
  refine k h1 _ tk out ns' e k1 (fun b o q1 => ?_) he w1 w2 w3
  have lt := Heap.lt_size q1
  rw [sortedHeap_old (Nat.ne_of_lt lt) (by rw [size_push']; exact Nat.lt_succ_of_lt lt), Heap.get?_push_ne _ _ _ (Nat.ne_of_lt lt)]
  exact q1
end
end Srt

namespace L2
open PySem PySem.Spec PyProof.Rows
section
variable {X : Cx}
theorem call_sortedKs (hc : X.calm = true) : CallR X (.builtin "sorted") (fun xs H Q => ∃ (a : Addr) (kvs : List (Key × V)) (ns : List Int), xs = [.ref a] ∧ H a = some (.dK kvs) ∧ kvs.map (·.1) = ns.map Sum.inl ∧ ns.Nodup ∧ ns.length ≤ 60 ∧
    ∀ (l : Addr) (ns' : List Int), H l = none → ns'.Perm ns → ns'.Pairwise (· ≤ ·) → Q (.ref l) (upd H l (.lst (ns'.map V.int)))) := by
  intro pins s σ H xs us Q I r h
  obtain ⟨a, kvs, ns, rfl, ha, hk, hnd, hn, q⟩ := h
  obtain ⟨u, rfl, ru⟩ := vals1 r
  cases ru
  obtain ⟨_, hd, vs, rel, dd⟩ := dk_of I.hok ha
  obtain ⟨ep, dat⟩ := dd.dictAt
  have el : vs.map (·.1) = ns.map Sum.inl := by rw [← rel.keys]; exact hk
  have ll : ns.length = vs.length := by
    have := congrArg List.length el
    simpa using this.symm
  have hs : sizeLine = 16777216 := sizeLine_eq
  refine Srt.sorted_src_small (PySem.W.kdl_dict (knd := mixKind X.prog X.w) (kvs := vs) (ep := ep) (d := a) hd) (I.ok.hd hc) dat (ns := ns) (fun i w' hw => ?_) ll hnd (by omega) fun h1 h' tk out ns' e k1 k2 he a1 a2 a3 => ?_
  · obtain ⟨k, x, e1, e2⟩ := hw
    have e3 : (vs.map (·.1))[i]? = some k := by rw [List.getElem?_map, e1]; rfl
    rw [el, List.getElem?_map] at e3
    cases e4 : ns[i]? with
    | none => rw [e4] at e3; cases e3
    | some m =>
      rw [e4] at e3
      obtain rfl : Sum.inl m = k := Option.some.inj e3
      obtain ⟨t, rfl⟩ := kV_rel e2
      exact ⟨m, t, rfl, rfl⟩
  · have I1 : Inv X pins σ H { s with heap := h1, toks := tk } := I.kept k1
    exact ⟨.ref h1.objs.size, _, I1.laid (t' := tk) k2 (Nat.le_refl _) (show ObjOk X.prog X.w _ _ _ (.lst (ns'.map V.int)) from ⟨by rw [List.length_map, a2.length_eq]; omega, out.toList, e, vals_ints a1, by simpa using he⟩), rfl, q _ ns' (I1.hok.fresh (Nat.le_refl _)) a2 a3⟩
end
theorem for_rangeX {lo : Int} {n : Nat} {g : TG} {tb : TSX} {R : XR} {D : Ends} {σ : St} {H : Hp} (Pv : Nat → St → Hp → Prop) (h0 : Pv 0 σ H)
    (hs : ∀ i σ H, i < n → Pv i σ H → g (.int (lo + i)) σ H fun σ2 H2 => tb { D with nx := Pv (i + 1), ct := Pv (i + 1), bk := D.nx } R σ2 H2) (hd : ∀ σ H, Pv n σ H → D.nx σ H) :
    ∃ W : Nat → Nat → St → Hp → Prop, (∃ m, W 0 m σ H) ∧ ∀ i m σ H, W i m σ H →
      ((Itr lo n).stop i H ∧ D.nx σ H) ∨ ((Itr lo n).go i H ∧ ∃ N : St → Hp → Prop, (∀ σ' H', N σ' H' → ∃ m', m' < m ∧ W (i + 1) m' σ' H') ∧ ∀ x H', (Itr lo n).yld i H x H' → g x σ H' fun σ2 H2 => tb { D with nx := N, ct := N, bk := D.nx } R σ2 H2) :=
  for_range (tb := fun D σ H => tb D R σ H) Pv h0 hs hd
theorem for_enumX {K : PySem.W.Frag} {a : Addr} {xs : List V} {g : TG} {tb : TSX} {R : XR} {D : Ends} {σ : St} {H : Hp} (Pv : Nat → St → Hp → Prop) (h0 : Pv 0 σ H) (hl : ∀ i σ H, i ≤ xs.length → Pv i σ H → SqL K H a xs)
    (hs : ∀ i x σ H T, xs[i]? = some x → H T = none → Pv i σ H → g (.ref T) σ (upd H T (.tup [.int i, x])) fun σ2 H2 => tb { D with nx := Pv (i + 1), ct := Pv (i + 1), bk := D.nx } R σ2 H2) (hd : ∀ σ H, Pv xs.length σ H → D.nx σ H) :
    ∃ W : Nat → Nat → St → Hp → Prop, (∃ m, W 0 m σ H) ∧ ∀ i m σ H, W i m σ H →
      ((Ite K a).stop i H ∧ D.nx σ H) ∨ ((Ite K a).go i H ∧ ∃ N : St → Hp → Prop, (∀ σ' H', N σ' H' → ∃ m', m' < m ∧ W (i + 1) m' σ' H') ∧ ∀ x H', (Ite K a).yld i H x H' → g x σ H' fun σ2 H2 => tb { D with nx := N, ct := N, bk := D.nx } R σ2 H2) :=
  for_enum (tb := fun D σ H => tb D R σ H) Pv h0 hl hs hd
end L2

namespace L2
open PySem PySem.Spec PyProof.Rows
section
variable {X : Cx}
/-- a dict against an empty one -/
def rNeD0 : R2 := fun x y H Q => ∃ p q ka, x = .ref p ∧ y = .ref q ∧ H p = some (.dK ka) ∧ H q = some (.dK []) ∧ Q (.bl (decide (ka.length ≠ 0))) H
theorem op_neD0 (hu : X.A.units < cLine) : OpR X (compareOp .NotEq) rNeD0 := by
  intro pins s σ H x y v u Q I rx ry h
  obtain ⟨p, q, ka, rfl, rfl, hp, hq, k⟩ := h
  cases rx
  cases ry
  obtain ⟨_, hd1, va, ra, da⟩ := dk_of I.hok hp
  obtain ⟨_, hd2, vb, rb, db⟩ := dk_of I.hok hq
  have lb : vb.length = 0 := by rw [← rb.length]; rfl
  have la := ra.length
  refine PySem.W.keq_ne hd1 hd2 da db hu (r := true) (fun e => ?_) ?_
  · have : va = [] := List.eq_nil_of_length_eq_zero (by omega)
    rw [this]
    exact .nil
  · refine ⟨.bl (decide (ka.length ≠ 0)), H, I, ?_, k⟩
    rw [lb, ← la]
    show Value.bool _ = Value.bool _
    congr 1
    cases ka with
    | nil => rfl
    | cons a t => rfl
def rLenSeq (K : PySem.W.Frag) : List V → Hp → VK → Prop := fun xs H Q => ∃ p ys, xs = [.ref p] ∧ (SqL K H p ys ∨ SqT K H p ys) ∧ Q (.int (ys.length : Nat)) H
theorem call_lenK : CallR X (.builtin "len") (rLenSeq X.K) := call_len_seq
end
theorem tNil_in {σ : St} {H : Hp} {Q : List V → Hp → Prop} (h : Q [] H) : tNil σ H Q := h
end L2

namespace Dk
open PySem L2
def top (i : Nat) : Stmt := PySem.Challenge.pw_ownroom_k28_each_fall_of_a_commit.main.body.getD i (.Pass ⟨0, 0, 0, 0⟩)
abbrev sInit : Stmt := inClass (top 6) 0
abbrev sRead : Stmt := inClass (top 6) 1
abbrev sWrite : Stmt := inClass (top 6) 2
abbrev sWrites : Stmt := inClass (top 6) 3
abbrev sFall : Stmt := inClass (top 6) 4
abbrev sRise : Stmt := inClass (top 6) 5
abbrev sImage : Stmt := inClass (top 6) 6
abbrev sNoBlock : Stmt := inClass (top 6) 7
abbrev sFallen : Stmt := inClass (top 6) 8
theorem same_new {H : Hp} {l : Addr} {X : HO} (h : H l = none) : Same H (upd H l X) := fun b o e => by rw [upd_ne (ne_of_none e h)]; exact e
/-- what is new to H may be written -/
theorem same_wr {H H' : Hp} {l : Addr} {X : HO} (s : Same H H') (h : H l = none) : Same H (upd H' l X) := fun b o e => by rw [upd_ne (ne_of_none e h)]; exact s b o e
/-- all is kept but what B names -/
def Off (B : Addr → Prop) (H H' : Hp) : Prop := ∀ b o, H b = some o → ¬ B b → H' b = some o
theorem k1 : ¬ (("blocks" : Str) = "done") := by decide +kernel
theorem k2 : ¬ (("blocks" : Str) = "until_fall") := by decide +kernel
theorem k3 : ¬ (("blocks" : Str) = "fallen") := by decide +kernel
theorem k4 : ¬ (("done" : Str) = "until_fall") := by decide +kernel
theorem k5 : ¬ (("done" : Str) = "fallen") := by decide +kernel
theorem k6 : ¬ (("until_fall" : Str) = "fallen") := by decide +kernel
def flds (bl : Addr) (d : Int) (uf : V) (fa : Bool) : List (Str × V) := putF "fallen" (.bl fa) (putF "until_fall" uf (putF "done" (.int d) (putF "blocks" (.ref bl) [])))
theorem putF_nil (f : Str) (v : V) : putF f v [] = [(f, v)] := rfl
theorem putF_hd {f g : Str} {v x : V} {r : List (Str × V)} (h : g = f) : putF f v ((g, x) :: r) = (g, v) :: r := by
  show (if g = f then (g, v) :: r else (g, x) :: putF f v r) = _
  rw [if_pos h]
theorem putF_tl {f g : Str} {v x : V} {r : List (Str × V)} (h : ¬ g = f) : putF f v ((g, x) :: r) = (g, x) :: putF f v r := by
  show (if g = f then (g, v) :: r else (g, x) :: putF f v r) = _
  rw [if_neg h]
theorem flds_eq (bl : Addr) (d : Int) (uf : V) (fa : Bool) : flds bl d uf fa = ([("blocks", V.ref bl), ("done", V.int d), ("until_fall", uf), ("fallen", V.bl fa)] : List (Str × V)) := by
  unfold flds
  rw [putF_nil, putF_tl k1, putF_nil, putF_tl k2, putF_tl k4, putF_nil, putF_tl k3, putF_tl k5, putF_tl k6, putF_nil]
theorem put_d (bl : Addr) (d e : Int) (uf : V) (fa : Bool) : putF "done" (.int e) (flds bl d uf fa) = flds bl e uf fa := by
  rw [flds_eq, flds_eq, putF_tl k1, putF_hd rfl]
theorem put_u (bl : Addr) (d : Int) (uf uf' : V) (fa : Bool) : putF "until_fall" uf' (flds bl d uf fa) = flds bl d uf' fa := by
  rw [flds_eq, flds_eq, putF_tl k2, putF_tl k4, putF_hd rfl]
theorem put_f (bl : Addr) (d : Int) (uf : V) (fa fa' : Bool) : putF "fallen" (.bl fa') (flds bl d uf fa) = flds bl d uf fa' := by
  rw [flds_eq, flds_eq, putF_tl k3, putF_tl k5, putF_tl k6, putF_hd rfl]
theorem flds_bl (bl : Addr) (d : Int) (uf : V) (fa : Bool) : (flds bl d uf fa).lookup ("blocks" : Str) = some (.ref bl) := by
  unfold flds
  rw [lookup_putF, if_neg k3, lookup_putF, if_neg k2, lookup_putF, if_neg k1, lookup_putF, if_pos rfl]
theorem flds_d (bl : Addr) (d : Int) (uf : V) (fa : Bool) : (flds bl d uf fa).lookup ("done" : Str) = some (.int d) := by
  unfold flds
  rw [lookup_putF, if_neg k5, lookup_putF, if_neg k4, lookup_putF, if_pos rfl]
theorem flds_u (bl : Addr) (d : Int) (uf : V) (fa : Bool) : (flds bl d uf fa).lookup ("until_fall" : Str) = some uf := by
  unfold flds
  rw [lookup_putF, if_neg k6, lookup_putF, if_pos rfl]
theorem flds_f (bl : Addr) (d : Int) (uf : V) (fa : Bool) : (flds bl d uf fa).lookup ("fallen" : Str) = some (.bl fa) := by
  unfold flds
  rw [lookup_putF, if_pos rfl]
theorem flds_no (bl : Addr) (d : Int) (uf : V) (fa : Bool) {m : Str} (h1 : ¬ m = "fallen") (h2 : ¬ m = "until_fall") (h3 : ¬ m = "done") (h4 : ¬ m = "blocks") : (flds bl d uf fa).lookup m = none := by
  unfold flds
  rw [lookup_putF, if_neg h1, lookup_putF, if_neg h2, lookup_putF, if_neg h3, lookup_putF, if_neg h4]
  all_goals rfl
theorem flds_len (bl : Addr) (d : Int) (uf : V) (fa : Bool) : (flds bl d uf fa).length < 1000 := by
  rw [flds_eq]
  show 4 < 1000
  decide
/-- lists of numbers at addresses -/
abbrev RowAt (H : Hp) (a : Addr) (ns : List Int) : Prop := H a = some (.lst (ns.map V.int)) ∧ ns.length = 16
abbrev Rows (H : Hp) (cs : List Addr) (bs : List (List Int)) : Prop := Paired (RowAt H) cs bs
theorem Rows.off {B : Addr → Prop} {H H' : Hp} (o : Off B H H') {cs : List Addr} {bs : List (List Int)} (h : ∀ a ns, RowAt H a ns → ¬ B a) (r : Rows H cs bs) : Rows H' cs bs := Paired.mapP r fun a ns q => ⟨o _ _ q.1 (h a ns q), q.2⟩
theorem Rows.same {H H' : Hp} (s : Same H H') {cs : List Addr} {bs : List (List Int)} (r : Rows H cs bs) : Rows H' cs bs := Paired.mapP r fun a ns q => ⟨s _ _ q.1, q.2⟩
theorem paired_get {α β : Type} {F : α → β → Prop} : ∀ {xs : List α} {ys : List β} {i : Nat} {y : β}, Paired F xs ys → ys[i]? = some y → ∃ x, xs[i]? = some x ∧ F x y
  | _, _, _, _, .nil, e => by simp at e
  | _, _, 0, _, .cons r _, e => by simp at e; subst e; exact ⟨_, rfl, r⟩
  | _, _, i + 1, y, .cons _ t, e => by
    obtain ⟨u, h1, h2⟩ := paired_get (i := i) (y := y) t (by simpa using e)
    exact ⟨u, by simpa using h1, h2⟩
theorem paired_set {α β : Type} {F : α → β → Prop} {x : α} {y : β} (r : F x y) : ∀ {xs : List α} {ys : List β} (i : Nat), Paired F xs ys → Paired F (xs.set i x) (ys.set i y)
  | _, _, _, .nil => .nil
  | _, _, 0, .cons _ t => .cons r t
  | _, _, i + 1, .cons q t => .cons q (paired_set r i t)
theorem paired_len {α β : Type} {F : α → β → Prop} : ∀ {xs : List α} {ys : List β}, Paired F xs ys → xs.length = ys.length
  | _, _, .nil => rfl
  | _, _, .cons _ t => by rw [List.length_cons, List.length_cons, paired_len t]
theorem paired_snoc {α β : Type} {F : α → β → Prop} {x : α} {y : β} (r : F x y) : ∀ {xs : List α} {ys : List β}, Paired F xs ys → Paired F (xs ++ [x]) (ys ++ [y])
  | _, _, .nil => .cons r .nil
  | _, _, .cons q t => .cons q (paired_snoc r t)
theorem row_ne {H : Hp} {a b : Addr} {ns : List Int} {cs : List Addr} (h : RowAt H a ns) (h' : H b = some (.lst (cs.map V.ref))) : a ≠ b := ne_of h.1 h' fun z => by
  cases ns with
  | nil => have := h.2; simp at this
  | cons x r =>
    cases cs with
    | nil => cases z
    | cons c t =>
      injection z with z
      have z' : V.int x :: r.map V.int = V.ref c :: t.map V.ref := z
      injection z' with z1 _
      cases z1
structure DiskAt (C : Addr) (H : Hp) (p bl : Addr) (d : Int) (uf : V) (fa : Bool) (cs : List Addr) (bs : List (List Int)) : Prop where
  ob : ∃ dx, H p = some (.ins C dx (flds bl d uf fa))
  hb : H bl = some (.lst (cs.map V.ref))
  hc : Rows H cs bs
theorem ins_lst {H : Hp} {p a C dx : Addr} {fs : List (Str × V)} {xs : List V} (h : H p = some (.ins C dx fs)) (h' : H a = some (.lst xs)) : p ≠ a := ne_of h h' (by intro z; cases z)
theorem DiskAt.same {C : Addr} {H H' : Hp} {p bl : Addr} {d : Int} {uf : V} {fa : Bool} {cs : List Addr} {bs : List (List Int)} (D : DiskAt C H p bl d uf fa cs bs) (s : Same H H') : DiskAt C H' p bl d uf fa cs bs :=
  let ⟨dx, h⟩ := D.ob
  ⟨⟨dx, s _ _ h⟩, s _ _ D.hb, D.hc.same s⟩
theorem DiskAt.len {C : Addr} {H : Hp} {p bl : Addr} {d : Int} {uf : V} {fa : Bool} {cs : List Addr} {bs : List (List Int)} (D : DiskAt C H p bl d uf fa cs bs) : cs.length = bs.length := paired_len D.hc
/-- the class as the top has made it -/
structure Txt (K : PySem.W.Frag) (mg : Str → Option Value) (C : Addr) : Prop where
  cl : Cls K C
  nB : NoAttr K C "blocks"
  nD : NoAttr K C "done"
  nU : NoAttr K C "until_fall"
  nF : NoAttr K C "fallen"
  len : mg "len" = none
  list : mg "list" = none
  range : mg "range" = none
  bn : ∃ u, mg "BLOCK_NUMBERS" = some u ∧ RelV (.int 16) u
structure XTxt (K : PySem.W.Frag) (mg : Str → Option Value) (x : Str) (CN : Addr) : Prop where
  mgN : mg x = some (.ref CN)
  exN : PySem.W.excIn K CN veMro "ValueError.__new__" = true
def Wr (p bl : Addr) : Addr → Prop := fun b => b = p ∨ b = bl
def noB (bs : List (List Int)) (n : Int) : Prop := n < 0 ∨ (bs.length : Int) ≤ n
def spInit (C : Addr) : Sp := fun vs H Q _ => ∃ (p dx : Addr) (n : Nat), vs = [.ref p, .int n] ∧ n ≤ 300 ∧ H p = some (.ins C dx []) ∧
  ∀ (bl : Addr) (cs : List Addr) (H' : Hp), H bl = none → DiskAt C H' p bl 0 .non false cs (List.replicate n (List.replicate 16 0)) → Off (· = p) H H' → Q .non H'
def spNoBlock (C CN : Addr) : Sp := fun vs H Q E => ∃ (p bl : Addr) (d : Int) (uf : V) (fa : Bool) (cs : List Addr) (bs : List (List Int)) (n : Int), vs = [.ref p, .int n] ∧ DiskAt C H p bl d uf fa cs bs ∧ n.natAbs.log2 < 1920 ∧ (¬ noB bs n → Q .non H) ∧ (noB bs n → E (.ref CN) none H)
def spFallen (C CF : Addr) : Sp := fun vs H Q E => ∃ (p bl : Addr) (d : Int) (uf : V) (fa : Bool) (cs : List Addr) (bs : List (List Int)), vs = [.ref p] ∧ DiskAt C H p bl d uf fa cs bs ∧ (fa = false → Q .non H) ∧ (fa = true → E (.ref CF) none H)
def spRead (C CN CF : Addr) : Sp := fun vs H Q E => ∃ (p bl : Addr) (d : Int) (uf : V) (fa : Bool) (cs : List Addr) (bs : List (List Int)) (n : Int), vs = [.ref p, .int n] ∧ DiskAt C H p bl d uf fa cs bs ∧ n.natAbs.log2 < 1920 ∧
  (noB bs n → E (.ref CN) none H) ∧ (¬ noB bs n → fa = true → E (.ref CF) none H) ∧ (¬ noB bs n → fa = false → ∀ ns, bs[n.toNat]? = some ns → ∀ l, H l = none → Q (.ref l) (upd H l (.lst (ns.map V.int))))
/-- what a write of a disk that stands leaves of the count of writes ahead of the fall -/
def lessU : V → V
  | .int i => .int (i - 1)
  | v => v
def ufOk (uf : V) : Prop := uf = .non ∨ ∃ i : Int, uf = .int i
def spWrite (K : PySem.W.Frag) (C CN CF : Addr) : Sp := fun vs H Q E => ∃ (p bl c : Addr) (d : Int) (uf : V) (fa : Bool) (cs : List Addr) (bs : List (List Int)) (n : Int) (ns : List Int), vs = [.ref p, .int n, .ref c] ∧ DiskAt C H p bl d uf fa cs bs ∧ ufOk uf ∧ n.natAbs.log2 < 1920 ∧ SqL K H c (ns.map V.int) ∧ ns.length = 16 ∧
  (noB bs n → E (.ref CN) none H) ∧
  (¬ noB bs n → fa = true ∨ uf = .int 0 → ∀ H', DiskAt C H' p bl d uf true cs bs → Off (· = p) H H' → E (.ref CF) none H') ∧
  (¬ noB bs n → fa = false → uf ≠ .int 0 → ∀ H' cs', DiskAt C H' p bl (d + 1) (lessU uf) false cs' (bs.set n.toNat ns) → (∀ a ∈ cs', a ∈ cs ∨ H a = none) → Off (Wr p bl) H H' → Q .non H')
def spWrites (C : Addr) : Sp := fun vs H Q _ => ∃ (p bl : Addr) (d : Int) (uf : V) (fa : Bool) (cs : List Addr) (bs : List (List Int)), vs = [.ref p] ∧ DiskAt C H p bl d uf fa cs bs ∧ Q (.int d) H
def spImage (C : Addr) : Sp := fun vs H Q _ => ∃ (p bl : Addr) (d : Int) (uf : V) (fa : Bool) (cs : List Addr) (bs : List (List Int)), vs = [.ref p] ∧ DiskAt C H p bl d uf fa cs bs ∧ bs.length ≤ 300 ∧
  ∀ (H' : Hp) (l : Addr) (fs : List Addr), Same H H' → H l = none → H' l = some (.lst (fs.map V.ref)) → Rows H' fs bs → (∀ a ∈ fs, H a = none) → fs.Nodup → Q (.ref l) H'
theorem fits2 {i : Int} {t : Str} (h : i.natAbs.log2 < 1920) (ht : t.length ≤ 100) : (Str.empty ++ toString i : Str).length ≤ sizeLine ∧ (Str.empty ++ toString i ++ t : Str).length ≤ sizeLine := by
  have h1 := len_int h
  have hs : sizeLine = 16777216 := sizeLine_eq
  have h0 : (Str.empty : Str).length = 0 := rfl
  rw [len_app, len_app, len_app]
  omega
section
variable {P : Program} {w : World} {K : PySem.W.Frag} {mg : Str → Option Value} {base : Heap}
theorem scN : FnScope ["self", "n"] ["self", "n"] (defScope sNoBlock) := ⟨rfl, rfl, rfl, by decide +kernel, rfl, by decide +kernel, by decide +kernel⟩
theorem ok_noBlock {f C CN : Addr} {fd : FuncData} (F : Fun K "refuse_no_block" "Disk.refuse_no_block" sNoBlock f fd) (T : Txt K mg C) (XT : XTxt K mg "NoBlock" CN) : FnOk P w K mg base (CXO P w) 1 f fd ["self", "n"] (spNoBlock C CN) := by
  refine F.okx scN (fun vs H Q E h => ?_) (fun cdv A outer s H vs Q E hr h => ?_)
  · obtain ⟨p, bl, d, uf, fa, cs, bs, n, rfl, _⟩ := h
    rfl
  · obtain ⟨p, bl, d, uf, fa, cs, bs, n, rfl, D, hb, k, kE⟩ := h
    obtain ⟨dx, h1⟩ := D.ob
    have hl := D.len
    obtain ⟨f1, f2⟩ := fits2 (i := n) (t := " is no block") hb (by decide +kernel)
    refine ⟨_, (pssx_one (psx_if (PW.pt (pw_or (pt_cmpR op_lt (pv 1) pe_int (nomark _)) (pw_or1 (pt_cmpR op_ge (pv 1) (pe_callB call_len_seq (by rfl) T.len PySem.boot_len (pa_cons (pe_fld (pv 0) rfl) pa_nil)) (nomark _))))) (pssx_one (psx_raise rfl XT.mgN XT.exN rfl rfl (pa_cons (pe_join (pj_cons (pe_fv (pv 1)) (pj_cons pe_str pj_nil))) pa_nil))) pssx_nil)), ?_⟩
    refine ⟨_, rfl, _, _, rfl, rfl, _, rfl, ?_⟩
    refine ite2 (fun c => ?_) (fun c => ?_)
    · refine iteT ?_
      have c' : n < 0 := by simpa using c
      exact ⟨_, rfl, n, rfl, hb, _, rfl, f1, _, rfl, f2, f2, (by show 1 ≤ sizeLine; decide), kE (.inl c')⟩
    · have c' : ¬ n < 0 := by simpa using c
      refine ⟨_, rfl, _, rfl, p, C, dx, _, _, rfl, h1, T.cl, T.nB, flds_bl _ _ _ _, bl, _, rfl, .inl (SqL.of D.hb), _, _, rfl, rfl, _, rfl, ?_⟩
      refine ite2 (fun e => ?_) (fun e => ?_)
      · have e' : (bs.length : Int) ≤ n := by rw [← hl]; simpa using e
        exact ⟨_, rfl, n, rfl, hb, _, rfl, f1, _, rfl, f2, f2, (by show 1 ≤ sizeLine; decide), kE (.inr e')⟩
      · have e' : ¬ (bs.length : Int) ≤ n := by rw [← hl]; simpa using e
        exact k fun z => z.elim c' e'
theorem scF : FnScope ["self"] ["self"] (defScope sFallen) := ⟨rfl, rfl, rfl, by decide +kernel, rfl, by decide +kernel, by decide +kernel⟩
theorem ok_fallen {f C CF : Addr} {fd : FuncData} (F : Fun K "refuse_fallen" "Disk.refuse_fallen" sFallen f fd) (T : Txt K mg C) (XF : XTxt K mg "Fallen" CF) : FnOk P w K mg base (CXO P w) 1 f fd ["self"] (spFallen C CF) := by
  refine F.okx scF (fun vs H Q E h => ?_) (fun cdv A outer s H vs Q E hr h => ?_)
  · obtain ⟨p, bl, d, uf, fa, cs, bs, rfl, _⟩ := h
    rfl
  · obtain ⟨p, bl, d, uf, fa, cs, bs, rfl, D, k, kE⟩ := h
    obtain ⟨dx, h1⟩ := D.ob
    refine ⟨_, (pssx_one (psx_if (pt_val (pe_fld (pv 0) rfl)) (pssx_one (psx_raise rfl XF.mgN XF.exN rfl rfl (pa_cons pe_str pa_nil))) pssx_nil)), ?_⟩
    refine ⟨_, rfl, p, C, dx, _, _, rfl, h1, T.cl, T.nF, flds_f _ _ _ _, fa, rfl, ?_⟩
    refine ite2 (fun c => ?_) (fun c => ?_)
    · exact ⟨(by show 1 ≤ sizeLine; decide), kE c⟩
    · exact k (by simpa using c)
end
end Dk

namespace Dk
open PySem L2
theorem rep1 {α : Type} (x : α) (n : Nat) : (List.replicate n [x]).flatten = List.replicate n x := by
  induction n with
  | zero => rfl
  | succ n ih => rw [List.replicate_succ, List.flatten_cons, ih, List.replicate_succ]; rfl
theorem rep_snoc {α : Type} (x : α) (n : Nat) : List.replicate n x ++ [x] = List.replicate (n + 1) x := by
  rw [List.replicate_succ']
/-- a list of sixteen noughts, n times -/
def Zs (H : Hp) (i : Nat) (ys : List V) (H2 : Hp) : Prop := ∃ cs : List Addr, ys = cs.map V.ref ∧ cs.length = i ∧ Rows H2 cs (List.replicate i (List.replicate 16 0)) ∧ Same H H2
theorem Zs.next {H H2 : Hp} {i : Nat} {ys : List V} {l q : Addr} {X : HO} (z : Zs H i ys H2) (hl : H2 l = none) (hq : H2 q = none) (ne : q ≠ l) : Zs H (i + 1) (ys ++ [.ref q]) (upd (upd H2 l X) q (.lst (List.replicate 16 (V.int 0)))) := by
  obtain ⟨cs, rfl, hc, R, s⟩ := z
  have s2 : Same H2 (upd (upd H2 l X) q (.lst (List.replicate 16 (V.int 0)))) := fun b o e => by rw [upd_ne (ne_of_none e hq), upd_ne (ne_of_none e hl)]; exact e
  refine ⟨cs ++ [q], by rw [List.map_append]; rfl, by rw [List.length_append, hc]; rfl, ?_, s.trans s2⟩
  rw [← rep_snoc (List.replicate 16 (0 : Int)) i]
  refine paired_snoc ⟨?_, List.length_replicate⟩ (R.same s2)
  rw [upd_same, List.map_replicate]
section
variable {P : Program} {w : World} {K : PySem.W.Frag} {mg : Str → Option Value} {base : Heap}
theorem scI : FnScope ["self", "many"] ["self", "many"] (defScope sInit) := ⟨rfl, rfl, rfl, by decide +kernel, rfl, by decide +kernel, by decide +kernel⟩
theorem ok_init {f C : Addr} {fd : FuncData} (F : Fun K "__init__" "Disk.__init__" sInit f fd) (T : Txt K mg C) : FnOk P w K mg base CX0 1 f fd ["self", "many"] (spInit C) := by
  obtain ⟨u16, m16, r16⟩ := T.bn
  refine F.ok scI (fun vs H Q E h => ?_) (fun cdv A outer s H vs Q E hr h => ?_)
  · obtain ⟨p, dx, n, rfl, _⟩ := h
    rfl
  · obtain ⟨p, dx, n, rfl, hn, hp, k⟩ := h
    have hs : sizeLine = 16777216 := sizeLine_eq
    refine ⟨_, (pss_cons (ps_fld (pv 0) (pe_comp (cl := []) (caps := []) ⟨rfl, by decide +kernel, by decide +kernel, rfl, by kernel_rfl, by intro p hp; simp at hp, by kernel_rfl, by intro p hp; simp at hp, by decide +kernel⟩ rfl (pi_range1 (by rfl) T.range (pa_cons (pv 1) pa_nil)) (fun _ _ _ _ => pts_nil) (fun _ _ _ _ => (pe_op op_rep (pe_lst (pa_cons pe_int pa_nil)) (pe_glob (by rfl) m16 r16)))) rfl)
      (pss_cons (ps_fld (pv 0) pe_int rfl)
      (pss_cons (ps_fld (pv 0) pe_non rfl)
      (pss_one (ps_fld (pv 0) pe_bl rfl))))), ?_⟩
    refine ⟨_, rfl, n, rfl, by omega, by omega, ?_⟩
    refine comp_range0 (lo := 0) (n := ((n : Nat) : Int).toNat) (Zs H) ⟨[], rfl, rfl, .nil, Same.refl H⟩ ?_ ?_
    · intro i ys H2 hi z
      refine ⟨by decide, fun l1 hl1 => ⟨l1, 16, _, rfl, rfl, upd_same, by omega, by omega, by rw [List.length_singleton]; omega, fun q hq => ?_⟩⟩
      have ql : q ≠ l1 := fun e => by rw [e, upd_same] at hq; cases hq
      rw [upd_ne ql] at hq
      refine ⟨?_, z.next hl1 hq ql⟩
      obtain ⟨cs, rfl, hc, _⟩ := z
      rw [List.length_map]
      omega
    · rintro ys H2 ⟨cs, rfl, hc, R, s2⟩ bl hbl
      rw [show ((n : Nat) : Int).toNat = n from Int.toNat_natCast n] at R
      have h2 := s2 _ _ hp
      have npb : p ≠ bl := ne_of_none h2 hbl
      refine ⟨_, rfl, p, C, dx, [], rfl, by rw [upd_ne npb]; exact h2, T.cl, T.nB, by decide, ?_⟩
      refine ⟨_, rfl, p, C, dx, _, rfl, upd_same, T.cl, T.nD, by show 1 < 1000; decide, ?_⟩
      refine ⟨_, rfl, p, C, dx, _, rfl, upd_same, T.cl, T.nU, by show 2 < 1000; decide, ?_⟩
      refine ⟨_, rfl, p, C, dx, _, rfl, upd_same, T.cl, T.nF, by show 3 < 1000; decide, ?_⟩
      refine k bl cs _ (s2.free hbl) ⟨⟨dx, upd_same⟩, ?_, ?_⟩ fun b o e hb => ?_
      · rw [upd_ne (Ne.symm npb), upd_ne (Ne.symm npb), upd_ne (Ne.symm npb), upd_ne (Ne.symm npb), upd_same]
      · refine Paired.mapP R fun a ns q => ⟨?_, q.2⟩
        have nap : a ≠ p := Ne.symm (ins_lst h2 q.1)
        rw [upd_ne nap, upd_ne nap, upd_ne nap, upd_ne nap, upd_ne (ne_of_none q.1 hbl)]
        exact q.1
      · have hb' : b ≠ p := hb
        rw [upd_ne hb', upd_ne hb', upd_ne hb', upd_ne hb', upd_ne (ne_of_none (s2 _ _ e) hbl)]
        exact s2 _ _ e
theorem scR : FnScope ["self", "n"] ["self", "n"] (defScope sRead) := ⟨rfl, rfl, rfl, by decide +kernel, rfl, by decide +kernel, by decide +kernel⟩
theorem ok_read {f fN fF C CN CF : Addr} {fd dN dF : FuncData} (F : Fun K "read" "Disk.read" sRead f fd) (T : Txt K mg C)
    (GN : FnOk P w K mg base (CXO P w) 1 fN dN ["self", "n"] (spNoBlock C CN)) (bN : Binds K dN ["self", "n"] []) (mN : Meth K C "refuse_no_block" fN)
    (GF : FnOk P w K mg base (CXO P w) 1 fF dF ["self"] (spFallen C CF)) (bF : Binds K dF ["self"] []) (mF : Meth K C "refuse_fallen" fF) : FnOk P w K mg base (CXO P w) 2 f fd ["self", "n"] (spRead C CN CF) := by
  refine F.okx scR (fun vs H Q E h => ?_) (fun cdv A outer s H vs Q E hr h => ?_)
  · obtain ⟨p, bl, d, uf, fa, cs, bs, n, rfl, _⟩ := h
    rfl
  · obtain ⟨p, bl, d, uf, fa, cs, bs, n, rfl, D, hb, kN, kF, k⟩ := h
    obtain ⟨dx, h1⟩ := D.ob
    refine ⟨_, (pssx_cons (psx_expr (pex_meth (pv 0) T.cl mN GN (hr.mono (by decide)) rfl bN .nil (pa_cons (pv 1) pa_nil)))
      (pssx_cons (psx_expr (pex_meth0 (pv 0) T.cl mF GF (hr.mono (by decide)) rfl bF .nil))
      (pssx_of (pss_one (ps_ret (pe_callTy call_list_of (by rfl) T.list bt_list (pa_cons (pe_ix ix_list (pe_fld (pv 0) rfl) (pv 1) (fun _ _ => rfl)) pa_nil))))))), ?_⟩
    refine ⟨_, rfl, p, dx, _, rfl, h1, flds_no _ _ _ _ (by decide +kernel) (by decide +kernel) (by decide +kernel) (by decide +kernel), _, rfl, p, bl, d, uf, fa, cs, bs, n, rfl, D, hb, fun hn => ?_, kN⟩
    refine ⟨_, rfl, p, dx, _, rfl, h1, flds_no _ _ _ _ (by decide +kernel) (by decide +kernel) (by decide +kernel) (by decide +kernel), p, bl, d, uf, fa, cs, bs, rfl, D, fun hf => ?_, kF hn⟩
    have h0 : 0 ≤ n := by
      by_cases z : n < 0
      · exact absurd (Or.inl z) hn
      · omega
    have hlt : n < bs.length := by
      by_cases z : (bs.length : Int) ≤ n
      · exact absurd (Or.inr z) hn
      · omega
    obtain ⟨j, rfl⟩ : ∃ j : Nat, n = j := ⟨n.toNat, by omega⟩
    have hj : j < bs.length := by omega
    have eg : bs[((j : Nat) : Int).toNat]? = some bs[j] := by rw [Int.toNat_natCast, List.getElem?_eq_getElem hj]
    obtain ⟨a, ha, ra⟩ := paired_get D.hc (List.getElem?_eq_getElem hj)
    refine ⟨_, rfl, p, C, dx, _, _, rfl, h1, T.cl, T.nB, flds_bl _ _ _ _, _, rfl, bl, _, j, .ref a, rfl, rfl, SqL.of D.hb, atI_nat (by rw [List.getElem?_map, ha]; rfl), a, _, rfl, .inl (SqL.of ra.1), k hn hf _ eg⟩
theorem scW : FnScope ["self", "n", "numbers"] ["self", "n", "numbers"] (defScope sWrite) := ⟨rfl, rfl, rfl, by decide +kernel, rfl, by decide +kernel, by decide +kernel⟩
theorem ok_write {f fN fF C CN CF : Addr} {fd dN dF : FuncData} (F : Fun K "write" "Disk.write" sWrite f fd) (T : Txt K mg C)
    (GN : FnOk P w K mg base (CXO P w) 1 fN dN ["self", "n"] (spNoBlock C CN)) (bN : Binds K dN ["self", "n"] []) (mN : Meth K C "refuse_no_block" fN)
    (GF : FnOk P w K mg base (CXO P w) 1 fF dF ["self"] (spFallen C CF)) (bF : Binds K dF ["self"] []) (mF : Meth K C "refuse_fallen" fF) : FnOk P w K mg base (CXO P w) 2 f fd ["self", "n", "numbers"] (spWrite K C CN CF) := by
  refine F.okx scW (fun vs H Q E h => ?_) (fun cdv A outer s H vs Q E hr h => ?_)
  · obtain ⟨p, bl, c, d, uf, fa, cs, bs, n, ns, rfl, _⟩ := h
    rfl
  · obtain ⟨p, bl, c, d, uf, fa, cs, bs, n, ns, rfl, D, hu, hb, hq, h16, kN, kF, k⟩ := h
    obtain ⟨dx, h1⟩ := id D.ob
    have npb : p ≠ bl := ins_lst h1 D.hb
    have hl := D.len
    have nm : ∀ (d : Int) (uf : V) (fa : Bool), (flds bl d uf fa).lookup ("refuse_fallen" : Str) = none := fun d uf fa => flds_no _ _ _ _ (by decide +kernel) (by decide +kernel) (by decide +kernel) (by decide +kernel)
    refine ⟨_, (pssx_cons (psx_expr (pex_meth (pv 0) T.cl mN GN (hr.mono (by decide)) rfl bN .nil (pa_cons (pv 1) pa_nil)))
      (pssx_cons (psx_of (ps_if (pt_cmpR op_eq (pe_fld (pv 0) rfl) pe_int (nomark _)) (pss_one (ps_fld (pv 0) pe_bl rfl)) pss_nil))
      (pssx_cons (psx_expr (pex_meth0 (pv 0) T.cl mF GF (hr.mono (by decide)) rfl bF .nil))
      (pssx_of (pss_cons (ps_asg (pe_callTy call_list_of (by rfl) T.list bt_list (pa_cons (pv 2) pa_nil)) (pg_sub (pe_fld (pv 0) rfl) (pv 1) set_list))
      (pss_cons (ps_fldaug (pv 0) pe_int in_add)
      (pss_one (ps_if (pt_cmpR op_notN (pe_fld (pv 0) rfl) pe_non (nomark _)) (pss_one (ps_fldaug (pv 0) pe_int in_sub)) pss_nil)))))))), ?_⟩
    refine ⟨_, rfl, p, dx, _, rfl, h1, flds_no _ _ _ _ (by decide +kernel) (by decide +kernel) (by decide +kernel) (by decide +kernel), _, rfl, p, bl, d, uf, fa, cs, bs, n, rfl, D, hb, fun hn => ?_, kN⟩
    have hsc : scal uf (.int 0) = true := by rcases hu with rfl | ⟨i, rfl⟩ <;> rfl
    refine ⟨_, rfl, p, C, dx, _, _, rfl, h1, T.cl, T.nU, flds_u _ _ _ _, hsc, _, rfl, ?_⟩
    refine ite2 (fun c0 => ?_) (fun c0 => ?_)
    · -- the disk falls at this write
      have c' : uf = .int 0 := of_decide_eq_true c0
      refine ⟨_, rfl, p, C, dx, _, rfl, h1, T.cl, T.nF, flds_len _ _ _ _, ?_⟩
      rw [put_f]
      have D2 : DiskAt C (upd H p (.ins C dx (flds bl d uf true))) p bl d uf true cs bs := ⟨⟨dx, upd_same⟩, by rw [upd_ne (Ne.symm npb)]; exact D.hb, Paired.mapP D.hc fun a ns q => ⟨by rw [upd_ne (Ne.symm (ins_lst h1 q.1))]; exact q.1, q.2⟩⟩
      exact ⟨_, rfl, p, dx, _, rfl, upd_same, nm _ _ _, p, bl, d, uf, true, cs, bs, rfl, D2, (fun z => nomatch z), fun _ => kF hn (.inr c') _ D2 fun b o e hb => by rw [upd_ne hb]; exact e⟩
    · have c' : uf ≠ .int 0 := fun z => c0 (decide_eq_true z)
      refine ⟨_, rfl, p, dx, _, rfl, h1, nm _ _ _, p, bl, d, uf, fa, cs, bs, rfl, D, fun hf => ?_, fun hf => ?_⟩
      · have h0 : 0 ≤ n := by
          by_cases z : n < 0
          · exact absurd (Or.inl z) hn
          · omega
        have hlt : n < bs.length := by
          by_cases z : (bs.length : Int) ≤ n
          · exact absurd (Or.inr z) hn
          · omega
        obtain ⟨j, rfl⟩ : ∃ j : Nat, n = j := ⟨n.toNat, by omega⟩
        have hj : j < cs.length := by omega
        have k' := k hn hf c'
        rw [Int.toNat_natCast] at k'
        refine ⟨_, rfl, c, _, rfl, .inl hq, fun l hlf => ?_⟩
        have nl : ∀ {b : Addr} {o : HO}, H b = some o → b ≠ l := fun e => ne_of_none e hlf
        refine ⟨_, rfl, p, C, dx, _, _, rfl, by rw [upd_ne (nl h1)]; exact h1, T.cl, T.nB, flds_bl _ _ _ _, _, rfl, bl, _, j, j, rfl, rfl, by rw [upd_ne (nl D.hb)]; exact D.hb, ?_, ?_⟩
        · unfold ixN
          rw [List.length_map, if_pos (by omega), if_pos (by omega)]
          simp
        have e1 : (cs.map V.ref).set j (.ref l) = (cs.set j l).map V.ref := by rw [List.map_set]
        rw [e1]
        have h3 : (upd (upd H l (.lst (ns.map V.int))) bl (.lst ((cs.set j l).map V.ref))) p = some (.ins C dx (flds bl d uf fa)) := by rw [upd_ne npb, upd_ne (nl h1)]; exact h1
        have lbl : l ≠ bl := Ne.symm (nl D.hb)
        have lp : l ≠ p := Ne.symm (nl h1)
        refine ⟨_, rfl, p, C, dx, _, _, rfl, h3, T.cl, T.nD, flds_d _ _ _ _, d, 1, rfl, rfl, dx, _, h3, flds_len _ _ _ _, ?_⟩
        rw [put_d]
        refine ⟨_, rfl, p, C, dx, _, _, rfl, upd_same, T.cl, T.nU, flds_u _ _ _ _, rfl, _, rfl, ?_⟩
        have fin : ∀ (uf' : V) (H' : Hp), uf' = lessU uf → H' p = some (.ins C dx (flds bl (d + 1) uf' fa)) → (∀ b, b ≠ p → H' b = upd (upd H l (.lst (ns.map V.int))) bl (.lst ((cs.set j l).map V.ref)) b) → Q .non H' := by
          intro uf' H' e hp' ho
          subst e
          subst hf
          refine k' H' (cs.set j l) ⟨⟨dx, hp'⟩, by rw [ho bl (Ne.symm npb), upd_same], ?_⟩ (fun a ha => (List.mem_or_eq_of_mem_set ha).imp id fun z => by rw [z]; exact hlf) fun b o e hb => ?_
          · refine paired_set ⟨by rw [ho l lp, upd_ne lbl, upd_same], h16⟩ j (Paired.mapP D.hc fun a ms q => ⟨?_, q.2⟩)
            rw [ho a (Ne.symm (ins_lst h1 q.1)), upd_ne (row_ne q D.hb), upd_ne (nl q.1)]
            exact q.1
          · rw [ho b (fun z => hb (.inl z)), upd_ne (fun z => hb (.inr z)), upd_ne (nl e)]
            exact e
        rcases hu with rfl | ⟨i, rfl⟩
        · refine iteF ?_
          exact fin .non _ rfl upd_same fun b hb => by rw [upd_ne hb]
        · refine iteT ?_
          refine ⟨_, rfl, p, C, dx, _, _, rfl, upd_same, T.cl, T.nU, flds_u _ _ _ _, i, 1, rfl, rfl, dx, _, upd_same, flds_len _ _ _ _, ?_⟩
          rw [put_u]
          exact fin (.int (i - 1)) _ rfl upd_same fun b hb => by rw [upd_ne hb, upd_ne hb]
      · subst hf
        exact kF hn (.inl rfl) H D fun b o e _ => e
theorem scWs : FnScope ["self"] ["self"] (defScope sWrites) := ⟨rfl, rfl, rfl, by decide +kernel, rfl, by decide +kernel, by decide +kernel⟩
theorem ok_writes {f C : Addr} {fd : FuncData} (F : Fun K "writes" "Disk.writes" sWrites f fd) (T : Txt K mg C) : FnOk P w K mg base CX0 1 f fd ["self"] (spWrites C) := by
  refine F.ok scWs (fun vs H Q E h => ?_) (fun cdv A outer s H vs Q E hr h => ?_)
  · obtain ⟨p, bl, d, uf, fa, cs, bs, rfl, _⟩ := h
    rfl
  · obtain ⟨p, bl, d, uf, fa, cs, bs, rfl, D, k⟩ := h
    obtain ⟨dx, h1⟩ := D.ob
    refine ⟨_, (pss_one (ps_ret (pe_fld (pv 0) rfl))), ?_⟩
    exact ⟨_, rfl, p, C, dx, _, _, rfl, h1, T.cl, T.nD, flds_d _ _ _ _, k⟩
theorem scIm : FnScope ["self"] ["self"] (defScope sImage) := ⟨rfl, rfl, rfl, by decide +kernel, rfl, by decide +kernel, by decide +kernel⟩
theorem ok_image {f C : Addr} {fd : FuncData} (F : Fun K "image" "Disk.image" sImage f fd) (T : Txt K mg C) : FnOk P w K mg base CX0 1 f fd ["self"] (spImage C) := by
  refine F.ok scIm (fun vs H Q E h => ?_) (fun cdv A outer s H vs Q E hr h => ?_)
  · obtain ⟨p, bl, d, uf, fa, cs, bs, rfl, _⟩ := h
    rfl
  · obtain ⟨p, bl, d, uf, fa, cs, bs, rfl, D, hl, k⟩ := h
    obtain ⟨dx, h1⟩ := D.ob
    have hs : sizeLine = 16777216 := sizeLine_eq
    have hlen := D.len
    refine ⟨_, (pss_one (ps_ret (pe_comp (cl := []) (caps := []) ⟨rfl, by decide +kernel, by decide +kernel, rfl, by kernel_rfl, by intro p hp; simp at hp, by kernel_rfl, by intro p hp; simp at hp, by decide +kernel⟩ rfl (pi_list (pe_fld (pv 0) rfl)) (fun _ _ _ _ => pts_nil) (fun _ _ _ _ => (pe_callTy (show CallR _ _ (rListOf K) from call_listK) (by rfl) T.list bt_list (pa_cons (pv 0) pa_nil)))))), ?_⟩
    refine ⟨_, rfl, p, C, dx, _, _, rfl, h1, T.cl, T.nB, flds_bl _ _ _ _, bl, rfl, ⟨_, SqL.of D.hb⟩, ?_⟩
    refine comp_list0 (K := K) (a := bl) (xs := cs.map V.ref) (fun i ys H2 => ∃ fs : List Addr, ys = fs.map V.ref ∧ fs.length = i ∧ Rows H2 fs (bs.take i) ∧ Same H H2 ∧ (∀ a ∈ fs, H a = none) ∧ fs.Nodup) ⟨[], rfl, rfl, by rw [List.take_zero]; exact .nil, Same.refl H, fun a h => (List.not_mem_nil h).elim, .nil⟩ (fun i ys H2 _ ⟨fs, _, _, _, s2, _⟩ => SqL.of (s2 _ _ D.hb)) ?_ ?_
    · rintro i x ys H2 hx ⟨fs, rfl, hi, R, s2, nw, nd⟩
      rw [List.getElem?_map] at hx
      obtain ⟨c, hc, rfl⟩ := Option.map_eq_some_iff.mp hx
      have hic : i < cs.length := (List.getElem?_eq_some_iff.mp hc).1
      have hib : i < bs.length := by omega
      obtain ⟨c', hc', rc⟩ := paired_get D.hc (List.getElem?_eq_getElem hib)
      rw [hc] at hc'
      cases hc'
      refine ⟨_, rfl, c, _, rfl, .inl (SqL.of (s2 _ _ rc.1)), fun l hlf => ⟨?_, ?_⟩⟩
      · rw [List.length_map]; omega
      have sl := same_new (X := .lst ((bs[i]).map V.int)) hlf
      refine ⟨fs ++ [l], by rw [List.map_append]; rfl, by rw [List.length_append, hi]; rfl, ?_, s2.trans sl, fun a ha => ?_, ?_⟩
      · rw [List.take_succ, List.getElem?_eq_getElem hib]
        exact paired_snoc ⟨upd_same, rc.2⟩ (R.same sl)
      · rcases List.mem_append.mp ha with z | z
        · exact nw a z
        · rw [List.mem_singleton.mp z]; exact s2.free hlf
      · refine List.nodup_append.mpr ⟨nd, (by simp), fun a ha b hb z => ?_⟩
        rw [List.mem_singleton.mp hb] at z
        subst z
        obtain ⟨j, hj, ej⟩ := List.getElem_of_mem ha
        obtain ⟨ns, _, rr⟩ : ∃ ns, (bs.take i)[j]? = some ns ∧ RowAt H2 fs[j] ns := by
          have hj' : j < (bs.take i).length := by rw [← paired_len R]; exact hj
          obtain ⟨q, e, r⟩ := paired_get R (List.getElem?_eq_getElem hj')
          rw [List.getElem?_eq_getElem hj] at e
          cases e
          exact ⟨_, List.getElem?_eq_getElem hj', r⟩
        rw [ej] at rr
        have r1 := rr.1
        rw [hlf] at r1
        cases r1
    · rintro ys H2 ⟨fs, rfl, hi, R, s2, nw, nd⟩ l hlf
      rw [List.length_map] at hi R
      rw [List.take_of_length_le (by omega)] at R
      have sl := same_new (X := .lst (fs.map V.ref)) hlf
      exact k _ l fs (s2.trans sl) (s2.free hlf) upd_same (R.same sl) nw nd
end
end Dk

namespace Dk
open PySem L2
abbrev sCellAt : Stmt := top 13
abbrev sMixed : Stmt := top 14
abbrev sWide : Stmt := top 15
abbrev sNumbers : Stmt := top 16
abbrev sRowIs : Stmt := top 17
abbrev sRowsAre : Stmt := top 18
abbrev sCountIs : Stmt := top 19
structure LTxt (mg : Str → Option Value) : Prop where
  isi : mg "isinstance" = none
  int : mg "int" = none
  bool : mg "bool" = none
  list : mg "list" = none
  len : mg "len" = none
  range : mg "range" = none
  all : mg "all" = none
  zip : mg "zip" = none
  abs : mg "abs" = none
  min : mg "min" = none
structure Def (K : PySem.W.Frag) (mg : Str → Option Value) (x : Str) (f : Addr) (fd : FuncData) (ps : List Str) : Prop where
  mg : mg x = some (.ref f)
  kp : PySem.W.keepIn K (.ref f) = true
  b : Binds K fd ps []
def spCellAt (K : PySem.W.Frag) : Sp := fun vs H Q _ => ∃ (a : Addr) (ns : List Int) (k : Nat), vs = [.ref a, .int k] ∧ SqL K H a (ns.map V.int) ∧ Q (.int (ns.getD k 0)) H
def spMixed : Sp := fun vs H Q _ => ∃ (c k : Int), vs = [.int c, .int k] ∧ 0 ≤ k ∧ k ≤ 2000 ∧ ∀ v : Int, Q (.int v) H
def spWide (K : PySem.W.Frag) : Sp := fun vs H Q _ => ∃ (a : Addr) (ns : List Int) (k : Nat), vs = [.ref a, .int k] ∧ SqL K H a (ns.map V.int) ∧ k ≤ 64 ∧ ∀ v : Int, 0 ≤ v → Q (.int v) H
def spNumbers : Sp := fun vs H Q _ => ∃ (n : Int), vs = [.int n] ∧ ∀ (H' : Hp) (l : Addr) (xs : List Int), Same H H' → H l = none → RowAt H' l xs → Q (.ref l) H'
section
variable {P : Program} {w : World} {K : PySem.W.Frag} {mg : Str → Option Value} {base : Heap}
theorem scA : FnScope ["_law_script", "_law_k"] ["_law_script", "_law_k"] (defScope sCellAt) := ⟨rfl, rfl, rfl, by decide +kernel, rfl, by decide +kernel, by decide +kernel⟩
theorem ok_cellAt {f : Addr} {fd : FuncData} (F : Fun K "_law_cell_at" "_law_cell_at" sCellAt f fd) (T : LTxt mg) : FnOk P w K mg base CX0 1 f fd ["_law_script", "_law_k"] (spCellAt K) := by
  refine F.ok scA (fun vs H Q E h => ?_) (fun cdv A outer s H vs Q E hr h => ?_)
  · obtain ⟨a, ns, j, rfl, _⟩ := h
    rfl
  · obtain ⟨a, ns, j, rfl, hq, k⟩ := h
    refine ⟨_, (pss_cons (ps_if (pt_cmpR op_lt (pv 1) (pe_callB call_len_seq (by rfl) T.len PySem.boot_len (pa_cons (pv 0) pa_nil)) (nomark _)) (pss_one (ps_ret (pe_ix ix_list (pv 0) (pv 1) (fun _ _ => rfl)))) pss_nil)
      (pss_one (ps_ret pe_int))), ?_⟩
    refine ⟨_, rfl, _, rfl, a, _, rfl, .inl hq, _, _, rfl, rfl, _, rfl, ?_⟩
    refine ite2 (fun c => ?_) (fun c => ?_)
    · have c' : j < ns.length := by simpa using c
      refine ⟨_, rfl, _, rfl, a, _, j, .int (ns.getD j 0), rfl, rfl, hq, atI_nat ?_, k⟩
      rw [List.getElem?_map, List.getElem?_eq_getElem c']
      simp [c']
    · have c' : ns.length ≤ j := by simpa using c
      have e : ns.getD j 0 = 0 := by simp [c']
      rw [e] at k
      exact k
theorem scM : FnScope ["_law_cell", "_law_k", "_law_once"] ["_law_cell", "_law_k"] (defScope sMixed) := ⟨rfl, rfl, rfl, by decide +kernel, rfl, by decide +kernel, by decide +kernel⟩
theorem ok_mixed {f : Addr} {fd : FuncData} (F : Fun K "_law_mixed" "_law_mixed" sMixed f fd) : FnOk P w K mg base CX0 1 f fd ["_law_cell", "_law_k"] spMixed := by
  refine F.ok scM (fun vs H Q E h => ?_) (fun cdv A outer s H vs Q E hr h => ?_)
  · obtain ⟨c, j, rfl, _⟩ := h
    rfl
  · obtain ⟨c, j, rfl, h0, h1, k⟩ := h
    refine ⟨_, (pss_cons (ps_set (i := 2) scM.nd rfl (Or.inl rfl) (pe_op op_mod (pe_op op_mul (pe_op op_add (pe_op op_add (pe_op op_mul (pe_op op_mod (pv 0) pe_int) pe_int) (pe_op op_mul pe_int (pv 1))) pe_int) pe_int) pe_int))
      (pss_one (ps_ret (pe_op op_fdiv (pe_op op_mod (pe_op op_mul (pv 2) (pe_op op_add (pe_op op_add (pe_op op_mod (pv 2) pe_int) (pv 1)) pe_int)) pe_int) pe_int)))), ?_⟩
    refine ⟨_, rfl, _, _, rfl, rfl, (by show (0 : Int) < 1000003; decide), _, _, rfl, rfl, .inr ⟨by decide, by decide⟩, _, rfl, _, _, rfl, rfl, .inl ⟨by decide, by decide⟩, _, _, rfl, rfl, _, _, rfl, rfl, _, _, rfl, rfl, .inr ⟨by decide, by decide⟩, _, _, rfl, rfl, (by show (0 : Int) < 2147483647; decide), ?_⟩
    have m0 := Int.emod_nonneg ((c % 1000003 * 1009 + 7919 * j + 11) * 48271) (show (2147483647 : Int) ≠ 0 by decide)
    have m1 := Int.emod_lt_of_pos ((c % 1000003 * 1009 + 7919 * j + 11) * 48271) (show (0 : Int) < 2147483647 by decide)
    generalize (c % 1000003 * 1009 + 7919 * j + 11) * 48271 % 2147483647 = o at m0 m1
    refine ⟨_, rfl, _, rfl, _, _, rfl, rfl, (by show (0 : Int) < 65537; decide), _, rfl, _, _, rfl, rfl, _, _, rfl, rfl, _, _, rfl, rfl, .inl ⟨by omega, by omega⟩, _, _, rfl, rfl, (by show (0 : Int) < 2147483629; decide), _, _, rfl, rfl, ⟨by decide, by decide⟩, k _⟩
theorem wide_step {n x : Int} {j : Nat} (h0 : 0 ≤ n) (h1 : n < 2 ^ (29 * j)) : 0 ≤ n * 536870912 + x % 536870912 ∧ n * 536870912 + x % 536870912 < 2 ^ (29 * (j + 1)) := by
  have x0 := Int.emod_nonneg x (show (536870912 : Int) ≠ 0 by decide)
  have x1 := Int.emod_lt_of_pos x (show (0 : Int) < 536870912 by decide)
  have e : (2 : Int) ^ (29 * (j + 1)) = 2 ^ (29 * j) * 536870912 := by
    rw [Nat.mul_add, Int.pow_add]
    rfl
  rw [e]
  generalize (2 : Int) ^ (29 * j) = p at h1 ⊢
  omega
theorem small_nat {v : Int} {m : Nat} (h0 : 0 ≤ v) (h : v < 2 ^ m) (hm : m ≤ 2000) : v.natAbs < 2 ^ 2000 := by
  have h2 : (2 : Nat) ^ m ≤ 2 ^ 2000 := Nat.pow_le_pow_right (by decide) hm
  have h3 : ((v.natAbs : Nat) : Int) < ((2 ^ m : Nat) : Int) := by
    rw [Int.natAbs_of_nonneg h0]
    push_cast
    exact h
  have h4 : v.natAbs < 2 ^ m := Int.ofNat_lt.mp h3
  omega
theorem scWd : FnScope ["_law_script", "_law_k", "_law_cell", "_law_own", "_law_plain", "_law_number", "_law_j"] ["_law_script", "_law_k"] (defScope sWide) := ⟨rfl, rfl, rfl, by decide +kernel, rfl, by decide +kernel, by decide +kernel⟩
set_option maxHeartbeats 4000000 in
theorem ok_wide {f fA fM : Addr} {fd dA dM : FuncData} (F : Fun K "_law_wide" "_law_wide" sWide f fd) (T : LTxt mg)
    (GA : FnOk P w K mg base CX0 1 fA dA ["_law_script", "_law_k"] (spCellAt K)) (DA : Def K mg "_law_cell_at" fA dA ["_law_script", "_law_k"])
    (GM : FnOk P w K mg base CX0 1 fM dM ["_law_cell", "_law_k"] spMixed) (DM : Def K mg "_law_mixed" fM dM ["_law_cell", "_law_k"]) : FnOk P w K mg base CX0 2 f fd ["_law_script", "_law_k"] (spWide K) := by
  refine F.ok scWd (fun vs H Q E h => ?_) (fun cdv A outer s H vs Q E hr h => ?_)
  · obtain ⟨a, ns, j, rfl, _⟩ := h
    rfl
  · obtain ⟨a, ns, j, rfl, hq, hj, k⟩ := h
    refine ⟨_, (pss_cons (ps_set (i := 2) scWd.nd rfl (Or.inl rfl) (pe_call GA (hr.mono (by decide)) (by rfl) DA.mg DA.kp DA.b .nil pass0 (pa_cons (pv 0) (pa_cons (pv 1) pa_nil))))
      (pss_cons (ps_set (i := 3) scWd.nd rfl (Or.inl rfl) (pe_op op_mod (pe_callB call_abs (by rfl) T.abs bt_abs (pa_cons (pv 2) pa_nil)) (pe_op op_mulB (pe_op op_pow pe_int pe_int) (pe_op op_pow pe_int pe_int))))
      (pss_cons (ps_set (i := 4) scWd.nd rfl (Or.inl rfl) (pe_cmpR op_eq (pe_op op_mod (pe_call GA (hr.mono (by decide)) (by rfl) DA.mg DA.kp DA.b .nil pass0 (pa_cons (pv 0) (pa_cons pe_int pa_nil))) pe_int) pe_int (nomark _)))
      (pss_cons (ps_if (PW.pt (pw_and (pt_val (pv 4)) (pw_and1 (pt_cmpR op_ge (pv 3) (pe_op op_pow pe_int pe_int) (nomark _))))) (pss_one (ps_ret (pv 3))) pss_nil)
      (pss_cons (ps_set (i := 5) scWd.nd rfl (Or.inl rfl) pe_int)
      (pss_cons (ps_for PassesOwn.never rfl (pi_range1 (by rfl) T.range (pa_cons pe_int pa_nil)) (pg_name (i := 6) scWd.nd rfl (Or.inl rfl)) (pss_one (ps_set (i := 5) scWd.nd rfl (Or.inl rfl) (pe_op op_add (pe_op op_mul (pv 5) pe_int) (pe_op op_mod (pe_call GM (hr.mono (by decide)) (by rfl) DM.mg DM.kp DM.b .nil pass0 (pa_cons (pv 2) (pa_cons (pe_op op_add (pe_op op_mul pe_int (pv 1)) (pv 6)) pa_nil))) pe_int)))))
      (pss_cons (ps_if (pt_val (pv 4)) (pss_one (ps_ret (pe_op op_add (pe_op op_mulB (pv 5) (pe_op op_pow pe_int pe_int)) (pv 3)))) pss_nil)
      (pss_one (ps_ret (pv 5)))))))))), ?_⟩
    refine ⟨_, rfl, _, rfl, a, ns, j, rfl, hq, ?_⟩
    generalize ns.getD j 0 = cl
    have p60 : ((10 : Int) ^ (60 : Int).toNat).natAbs < 2 ^ 2000 := by decide +kernel
    have p40 : ((10 : Int) ^ (40 : Int).toNat).natAbs < 2 ^ 2000 := by decide +kernel
    refine ⟨_, rfl, cl, rfl, _, _, rfl, rfl, ⟨by decide, by decide, by decide⟩, _, _, rfl, rfl, ⟨by decide, by decide, by decide⟩, _, _, rfl, rfl, ⟨p60, p60⟩, _, _, rfl, rfl, (by show (0 : Int) < (10 : Int) ^ (60 : Int).toNat * (10 : Int) ^ (60 : Int).toNat; decide +kernel), ?_⟩
    show tSeq _ _ _ [some (V.ref a), some (.int j), some (.int cl), some (.int ((if cl < 0 then -cl else cl) % ((10 : Int) ^ (60 : Int).toNat * (10 : Int) ^ (60 : Int).toNat))), none, none, none] H
    have o0 := Int.emod_nonneg (if cl < 0 then -cl else cl) (show ((10 : Int) ^ (60 : Int).toNat * (10 : Int) ^ (60 : Int).toNat) ≠ 0 by decide +kernel)
    generalize (if cl < 0 then -cl else cl) % ((10 : Int) ^ (60 : Int).toNat * (10 : Int) ^ (60 : Int).toNat) = ow at o0 ⊢
    refine ⟨_, rfl, a, ns, 0, rfl, hq, _, _, rfl, rfl, (by show (0 : Int) < 2; decide), rfl, ?_⟩
    dsimp only
    generalize decide (V.int (ns.getD 0 0 % 2) = V.int 0) = pl
    refine ⟨_, rfl, pl, rfl, ?_⟩
    refine ite2 (fun hp => ?A) (fun hp => iteF ?B)
    case' A =>
      refine ⟨_, rfl, _, _, rfl, rfl, ⟨by decide, by decide, by decide⟩, _, _, rfl, rfl, _, rfl, ?_⟩
      refine ite2 (fun c => ⟨_, rfl, k _ o0⟩) (fun c => ?_)
    all_goals
      refine ⟨14, rfl, by decide, by decide, ?_⟩
      refine for_range (lo := 0) (n := (14 : Int).toNat) (fun i σ H2 => ∃ (v6 : Option V) (n : Int), σ = [some (.ref a), some (.int j), some (.int cl), some (.int ow), some (.bl pl), some (.int n), v6] ∧ 0 ≤ n ∧ n < 2 ^ (29 * i) ∧ H2 = H) ⟨_, 0, rfl, by decide, by decide, rfl⟩ ?_ ?_
      · rintro i σ H2 hi ⟨v6, n, rfl, n0, n1, rfl⟩
        refine ⟨_, rfl, _, _, rfl, rfl, .inr ⟨by decide, by decide⟩, _, rfl, _, rfl, _, _, rfl, rfl, .inl ⟨by decide, by decide⟩, _, rfl, _, _, rfl, rfl, cl, _, rfl, by omega, by omega, fun v => ⟨_, _, rfl, rfl, (by show (0 : Int) < 536870912; decide), _, _, rfl, rfl, ?_⟩⟩
        exact ⟨_, _, rfl, (wide_step n0 n1).1, (wide_step n0 n1).2, rfl⟩
      · rintro σ H2 ⟨v6, n, rfl, n0, n1, rfl⟩
        refine ⟨_, rfl, pl, rfl, ?_⟩
        refine ite2 (fun c => ?_) (fun c => ⟨_, rfl, k _ n0⟩)
        exact ⟨_, rfl, _, _, rfl, rfl, ⟨by decide, by decide, by decide⟩, _, _, rfl, rfl, ⟨small_nat n0 n1 (by decide), p40⟩, _, rfl, _, _, rfl, rfl, k _ (Int.add_nonneg (Int.mul_nonneg n0 (by decide +kernel)) o0)⟩
theorem three (n : Int) : ∃ b : Int, atI [V.int 2, V.int 256, V.int 65536] (n % 3) = some (.int b) ∧ 0 < b ∧ b < 1073741824 := by
  have h : n % 3 = 0 ∨ n % 3 = 1 ∨ n % 3 = 2 := by omega
  rcases h with h | h | h <;> rw [h]
  · exact ⟨2, rfl, by decide, by decide⟩
  · exact ⟨256, rfl, by decide, by decide⟩
  · exact ⟨65536, rfl, by decide, by decide⟩
theorem scNu : FnScope ["_law_number", "_law_base", "_law_row", "_law_place"] ["_law_number"] (defScope sNumbers) := ⟨rfl, rfl, rfl, by decide +kernel, rfl, by decide +kernel, by decide +kernel⟩
theorem ok_numbers {f : Addr} {fd : FuncData} (F : Fun K "_law_numbers" "_law_numbers" sNumbers f fd) (T : LTxt mg) : FnOk P w K mg base CX0 1 f fd ["_law_number"] spNumbers := by
  refine F.ok scNu (fun vs H Q E h => ?_) (fun cdv A outer s H vs Q E hr h => ?_)
  · obtain ⟨n, rfl, _⟩ := h
    rfl
  · obtain ⟨n, rfl, k⟩ := h
    have hs : sizeLine = 16777216 := sizeLine_eq
    obtain ⟨b, hb, b0, b1⟩ := three n
    refine ⟨_, (pss_cons (ps_set (i := 1) scNu.nd rfl (Or.inl rfl) (pe_ix ix_list (pe_lst (pa_cons pe_int (pa_cons pe_int (pa_cons pe_int pa_nil)))) (pe_op op_mod (pv 0) pe_int) (fun _ _ => rfl)))
      (pss_cons (ps_set (i := 0) scNu.nd rfl (Or.inl rfl) (pe_op op_fdiv (pv 0) pe_int))
      (pss_cons (ps_set (i := 2) scNu.nd rfl (Or.inl rfl) (pe_lst pa_nil))
      (pss_cons (ps_for PassesOwn.never rfl (pi_range1 (by rfl) T.range (pa_cons pe_int pa_nil)) (pg_name (i := 3) scNu.nd rfl (Or.inl rfl)) (pss_cons (ps_expr (pe_bm PySem.F.plainAttrs_list PySem.F.slot_list_append PySem.F.type_list_append mt_append (pv 2) (pa_cons (pe_op op_mod (pv 0) (pv 1)) pa_nil)))
      (pss_one (ps_set (i := 0) scNu.nd rfl (Or.inl rfl) (pe_op op_fdiv (pv 0) (pv 1))))))
      (pss_one (ps_ret (pv 2))))))), ?_⟩
    refine ⟨by decide, fun l1 hl1 => ⟨_, rfl, _, _, rfl, rfl, (by show (0 : Int) < 3; decide), l1, _, n % 3, .int b, rfl, rfl, SqL.of upd_same, hb, ?_⟩⟩
    refine ⟨_, rfl, _, _, rfl, rfl, ⟨by decide, by decide⟩, ?_⟩
    refine ⟨by decide, fun r hr0 => ?_⟩
    have s1 : Same H (upd (upd H l1 (.lst [V.int 2, V.int 256, V.int 65536])) r (.lst [])) := (same_new hl1).trans (same_new hr0)
    refine ⟨16, rfl, by decide, by decide, ?_⟩
    have hr1 : H r = none := (same_new hl1).free hr0
    refine for_range (lo := 0) (n := (16 : Int).toNat) (fun i σ H2 => ∃ (v3 : Option V) (m : Int) (xs : List Int), σ = [some (.int m), some (.int b), some (.ref r), v3] ∧ xs.length = i ∧ H2 r = some (.lst (xs.map V.int)) ∧ Same H H2) ⟨_, _, [], rfl, rfl, upd_same, s1⟩ ?_ ?_
    · rintro i σ H2 hi ⟨v3, m, xs, rfl, hx, h2, s2⟩
      refine ⟨_, rfl, .inl ⟨rfl, _, SqL.of h2⟩, _, rfl, _, rfl, _, _, rfl, rfl, b0, r, _, _, rfl, rfl, h2, by rw [List.length_map]; omega, ?_⟩
      refine ⟨_, rfl, _, rfl, _, _, rfl, rfl, ⟨b0, b1⟩, _, _, xs ++ [m % b], rfl, by rw [List.length_append, hx]; rfl, ?_, same_wr s2 hr1⟩
      rw [upd_same, List.map_append]
      rfl
    · rintro σ H2 ⟨v3, m, xs, rfl, hx, h2, s2⟩
      exact ⟨_, rfl, k H2 r xs s2 hr1 ⟨h2, hx⟩⟩
theorem scRi : FnScope ["_law_found", "_law_due"] ["_law_found", "_law_due"] (defScope sRowIs) := ⟨rfl, rfl, rfl, by decide +kernel, rfl, by decide +kernel, by decide +kernel⟩
theorem scRa : FnScope ["_law_found", "_law_due"] ["_law_found", "_law_due"] (defScope sRowsAre) := ⟨rfl, rfl, rfl, by decide +kernel, rfl, by decide +kernel, by decide +kernel⟩
theorem scCi : FnScope ["_law_found", "_law_due"] ["_law_found", "_law_due"] (defScope sCountIs) := ⟨rfl, rfl, rfl, by decide +kernel, rfl, by decide +kernel, by decide +kernel⟩
end
end Dk

namespace Dk
open PySem L2
abbrev sCommit : Stmt := top 9
abbrev sRecover : Stmt := top 10
abbrev sForget : Stmt := top 11
section
variable {α : Type}
def look (l : List (Int × α)) (k : Int) : Option α := (l.find? fun x => decide (x.1 = k)).map (·.2)
def dk (f : α → V) (l : List (Int × α)) : List (Key × V) := l.map fun x => (Sum.inl x.1, f x.2)
theorem look_nil (k : Int) : look ([] : List (Int × α)) k = none := rfl
theorem look_cons (x : Int × α) (l : List (Int × α)) (k : Int) : look (x :: l) k = if x.1 = k then some x.2 else look l k := by
  unfold look
  rw [List.find?_cons]
  by_cases h : x.1 = k
  · rw [decide_eq_true h, if_pos h]; rfl
  · rw [decide_eq_false h, if_neg h]
theorem valV_dk (f : α → V) (k : Int) : ∀ l : List (Int × α), valV (dk f l) (Sum.inl k) = (look l k).map f
  | [] => rfl
  | x :: l => by
    have ih := valV_dk f k l
    show valV ((Sum.inl x.1, f x.2) :: dk f l) (Sum.inl k) = _
    rw [look_cons]
    by_cases h : x.1 = k
    · rw [if_pos h, valV_pos (by rw [h])]; rfl
    · rw [if_neg h, valV_neg (fun e => h (Sum.inl.inj e)), ih]
theorem look_mem {l : List (Int × α)} {k : Int} {a : α} (h : look l k = some a) : (k, a) ∈ l := by
  unfold look at h
  obtain ⟨x, hx, e⟩ := Option.map_eq_some_iff.mp h
  have h1 := List.mem_of_find?_eq_some hx
  have h2 : x.1 = k := by simpa using List.find?_some hx
  rw [← h2, ← e]
  exact h1
theorem look_none {l : List (Int × α)} {k : Int} (h : look l k = none) : ¬ k ∈ l.map (·.1) := by
  unfold look at h
  rw [Option.map_eq_none_iff, List.find?_eq_none] at h
  rintro m
  obtain ⟨x, hx, e⟩ := List.mem_map.mp m
  exact h x hx (decide_eq_true e)
theorem look_some {l : List (Int × α)} {k : Int} {a : α} (nd : (l.map (·.1)).Nodup) (h : (k, a) ∈ l) : look l k = some a := by
  induction l with
  | nil => cases h
  | cons x l ih =>
    rw [look_cons]
    obtain ⟨n1, n2⟩ := List.nodup_cons.mp (show (x.1 :: l.map (·.1)).Nodup from nd)
    rcases List.mem_cons.mp h with e | m
    · rw [← e, if_pos rfl]
    · have : ¬ x.1 = k := fun e => n1 (e ▸ List.mem_map.mpr ⟨_, m, rfl⟩)
      rw [if_neg this]
      exact ih n2 m
theorem putK_new' {f : α → V} {l : List (Int × α)} {k : Int} {a : α} (h : look l k = none) : putK (dk f l) (Sum.inl k) (f a) = dk f (l ++ [(k, a)]) := by
  rw [putK_new _ (by rw [valV_dk, h]; rfl)]
  unfold dk
  rw [List.map_append]
  rfl
theorem look_snoc {l : List (Int × α)} {k : Int} {a : α} (j : Int) (h : look l k = none) : look (l ++ [(k, a)]) j = if j = k then some a else look l j := by
  induction l with
  | nil =>
    show look [(k, a)] j = _
    rw [look_cons, look_nil]
    by_cases e : j = k
    · rw [if_pos e, if_pos e.symm]
    · rw [if_neg e, if_neg (Ne.symm e)]
  | cons x l ih =>
    rw [look_cons] at h
    by_cases e : x.1 = k
    · rw [if_pos e] at h; cases h
    · rw [if_neg e] at h
      show look (x :: (l ++ [(k, a)])) j = _
      rw [look_cons, look_cons, ih h]
      by_cases e2 : x.1 = j
      · rw [if_pos e2, if_pos e2, if_neg (fun z => e (e2.trans z))]
      · rw [if_neg e2, if_neg e2]
end
abbrev Chg := List (Int × Addr × List Int)
def fC (x : Addr × List Int) : V := .ref x.1
abbrev kvC (L : Chg) : List (Key × V) := dk fC L
/-- a dict of changes -/
structure ChgAt (H : Hp) (a : Addr) (L : Chg) (len : Nat) : Prop where
  hd : H a = some (.dK (kvC L))
  hr : ∀ x ∈ L, RowAt H x.2.1 x.2.2
  nd : (L.map (·.1)).Nodup
  rg : ∀ x ∈ L, 28 ≤ x.1 ∧ x.1 < len
  l1 : 1 ≤ L.length
  l2 : L.length ≤ 24
theorem ChgAt.same {H H' : Hp} {a : Addr} {L : Chg} {len : Nat} (c : ChgAt H a L len) (s : Same H H') : ChgAt H' a L len := ⟨s _ _ c.hd, fun x hx => ⟨s _ _ (c.hr x hx).1, (c.hr x hx).2⟩, c.nd, c.rg, c.l1, c.l2⟩
theorem dk_lst {H : Hp} {a b : Addr} {kvs : List (Key × V)} {xs : List V} (h : H a = some (.dK kvs)) (h' : H b = some (.lst xs)) : a ≠ b := ne_of h h' (by intro z; cases z)
theorem dk_ins {H : Hp} {a b C dx : Addr} {kvs : List (Key × V)} {fs : List (Str × V)} (h : H a = some (.dK kvs)) (h' : H b = some (.ins C dx fs)) : a ≠ b := ne_of h h' (by intro z; cases z)
theorem ChgAt.off {B : Addr → Prop} {H H' : Hp} {a : Addr} {L : Chg} {len : Nat} (c : ChgAt H a L len) (o : Off B H H') (n1 : ¬ B a) (n3 : ∀ a ns, RowAt H a ns → ¬ B a) : ChgAt H' a L len := ⟨o _ _ c.hd n1, fun x hx => ⟨o _ _ (c.hr x hx).1 (n3 _ _ (c.hr x hx)), (c.hr x hx).2⟩, c.nd, c.rg, c.l1, c.l2⟩
def zs16 : List Int := List.replicate 16 0
structure JTxt (mg : Str → Option Value) : Prop where
  bn : ∃ u, mg "BLOCK_NUMBERS" = some u ∧ RelV (.int 16) u
  fl : ∃ u, mg "FIRST_LIST" = some u ∧ RelV (.int 2) u
  sorted : mg "sorted" = none
  enumerate : mg "enumerate" = none
  len : mg "len" = none
  range : mg "range" = none
theorem small_log {n : Int} (h1 : -1000 ≤ n) (h2 : n ≤ 1000) : n.natAbs.log2 < 1920 := by
  by_cases z : n.natAbs = 0
  · rw [z]; decide
  · rw [Nat.log2_lt z]
    have h3 : n.natAbs ≤ 1000 := by omega
    have h4 : (1000 : Nat) < 2 ^ 1920 := by decide +kernel
    omega
/-- a row that is just read or written -/
theorem rows_row {H : Hp} {cs : List Addr} {bs : List (List Int)} (R : Rows H cs bs) {i : Nat} {ns : List Int} (h : bs[i]? = some ns) : ns.length = 16 := by
  obtain ⟨a, _, q⟩ := paired_get R h
  exact q.2
/-- the count of writes ahead of the fall, behind so many -/
def lessN : V → Int → V
  | .int k, i => .int (k - i)
  | v, _ => v
theorem lessN_zero {uf : V} (h : ufOk uf) : lessN uf 0 = uf := by
  rcases h with rfl | ⟨i, rfl⟩
  · rfl
  · show V.int (i - 0) = _
    rw [Int.sub_zero]
theorem lessN_succ {uf : V} (h : ufOk uf) (i : Int) : lessU (lessN uf i) = lessN uf (i + 1) := by
  rcases h with rfl | ⟨k, rfl⟩
  · rfl
  · show V.int (k - i - 1) = V.int (k - (i + 1))
    congr 1; omega
theorem lessN_ok {uf : V} (h : ufOk uf) (i : Int) : ufOk (lessN uf i) := by
  rcases h with rfl | ⟨k, rfl⟩
  · exact .inl rfl
  · exact .inr ⟨_, rfl⟩
theorem lessN_nought {uf : V} (h : ufOk uf) {i : Int} (e : lessN uf i = .int 0) : uf = .int i := by
  rcases h with rfl | ⟨k, rfl⟩
  · cases e
  · have e' : V.int (k - i) = .int 0 := e
    injection e' with e'
    congr 1; omega
theorem nd_ix {l : List Int} (nd : l.Nodup) {i j : Nat} {x : Int} (hi : l[i]? = some x) (hj : l[j]? = some x) : i = j := by
  obtain ⟨h1, e1⟩ := List.getElem?_eq_some_iff.mp hi
  obtain ⟨h2, e2⟩ := List.getElem?_eq_some_iff.mp hj
  rcases Nat.lt_trichotomy i j with h | h | h
  · exact absurd (e1.trans e2.symm) (List.pairwise_iff_getElem.mp nd i j h1 h2 h)
  · exact h
  · exact absurd (e2.trans e1.symm) (List.pairwise_iff_getElem.mp nd j i h2 h1 h)
/-- no commit is under way -/
structure Calm (bs : List (List Int)) (N : Nat) (cur : Nat → Option (List Int)) : Prop where
  len : bs.length = N
  b0 : bs[0]? = some zs16
  at_ : ∀ j : Nat, 28 ≤ j → bs[j]? = cur j
/-- a commit is under way -/
structure Pend (bs : List (List Int)) (N : Nat) (old new : Nat → Option (List Int)) (ns : List Int) : Prop where
  len : bs.length = N
  hd : ∃ b0 b1 rest, bs[0]? = some b0 ∧ bs[1]? = some b1 ∧ b0 ++ b1 = (ns.length : Int) :: (ns ++ rest)
  n1 : 1 ≤ ns.length
  n2 : ns.length ≤ 24
  nd : ns.Nodup
  rg : ∀ n ∈ ns, 28 ≤ n ∧ n < (N : Int)
  ls : ∀ (k : Nat) (n : Int), ns[k]? = some n → bs[2 + k]? = new n.toNat
  out : ∀ j : Nat, 28 ≤ j → ¬ (j : Int) ∈ ns → bs[j]? = old j ∧ new j = old j
  mix : ∀ j : Nat, 28 ≤ j → (j : Int) ∈ ns → bs[j]? = new j ∨ bs[j]? = old j
theorem Pend.set {bs : List (List Int)} {N : Nat} {old new : Nat → Option (List Int)} {ns : List Int} (p : Pend bs N old new ns) {n : Int} {x : List Int} (hn : n ∈ ns) (hx : new n.toNat = some x) : Pend (bs.set n.toNat x) N old new ns := by
  have r := p.rg n hn
  obtain ⟨b0, b1, rest, e0, e1, e2⟩ := p.hd
  have hlt : n.toNat < bs.length := by rw [p.len]; omega
  have n2 := p.n2
  refine ⟨by rw [List.length_set]; exact p.len, ⟨b0, b1, rest, by rw [List.getElem?_set_ne (by omega)]; exact e0, by rw [List.getElem?_set_ne (by omega)]; exact e1, e2⟩, p.n1, p.n2, p.nd, p.rg, fun k m hk => ?_, fun j hj hm => ?_, fun j hj hm => ?_⟩
  · have := (List.getElem?_eq_some_iff.mp hk).1
    rw [List.getElem?_set_ne (by omega)]
    exact p.ls k m hk
  · have : n.toNat ≠ j := fun e => hm (by rw [show (j : Int) = n by omega]; exact hn)
    rw [List.getElem?_set_ne this]
    exact p.out j hj hm
  · by_cases e : n.toNat = j
    · rw [← e, List.getElem?_set_self hlt]
      exact .inl hx.symm
    · rw [List.getElem?_set_ne e]
      exact p.mix j hj hm
theorem Pend.fin {bs : List (List Int)} {N : Nat} {old new : Nat → Option (List Int)} {ns : List Int} (p : Pend bs N old new ns) (h : ∀ n ∈ ns, bs[n.toNat]? = new n.toNat) : Calm (bs.set 0 zs16) N new := by
  obtain ⟨b0, b1, rest, e0, e1, e2⟩ := p.hd
  have hlt : 0 < bs.length := (List.getElem?_eq_some_iff.mp e0).1
  refine ⟨by rw [List.length_set]; exact p.len, List.getElem?_set_self hlt, fun j hj => ?_⟩
  rw [List.getElem?_set_ne (by omega)]
  by_cases hm : (j : Int) ∈ ns
  · exact h j hm
  · obtain ⟨q1, q2⟩ := p.out j hj hm
    rw [q1, q2]
theorem Calm.set {bs : List (List Int)} {N : Nat} {cur : Nat → Option (List Int)} (c : Calm bs N cur) {j : Nat} (h1 : 1 ≤ j) (h2 : j < 28) (x : List Int) : Calm (bs.set j x) N cur :=
  ⟨by rw [List.length_set]; exact c.len, by rw [List.getElem?_set_ne (by omega)]; exact c.b0, fun k hk => by rw [List.getElem?_set_ne (by omega)]; exact c.at_ k hk⟩
def spRecover (C CF : Addr) : Sp := fun vs H Q E => ∃ (p bl : Addr) (d : Int) (uf : V) (cs : List Addr) (bs : List (List Int)) (N : Nat), vs = [.ref p] ∧ DiskAt C H p bl d uf false cs bs ∧ ufOk uf ∧ 29 ≤ N ∧ N ≤ 300 ∧
  ((∃ cur, Calm bs N cur ∧ ∀ H', Same H H' → Q (.int 0) H') ∨
   ∃ (old new : Nat → Option (List Int)) (ns : List Int), Pend bs N old new ns ∧
    (∀ (H' : Hp) (cs' : List Addr) (bs' : List (List Int)), (∀ i : Nat, i < ns.length + 1 → uf ≠ .int i) → DiskAt C H' p bl (d + (ns.length + 1 : Nat)) (lessN uf (ns.length + 1 : Nat)) false cs' bs' → Calm bs' N new → Off (Wr p bl) H H' → Q (.int ns.length) H') ∧
    (∀ (H' : Hp) (d' : Int) (uf' : V) (cs' : List Addr) (bs' : List (List Int)) (i : Nat), i < ns.length + 1 → uf = .int i → DiskAt C H' p bl d' uf' true cs' bs' → ufOk uf' → Pend bs' N old new ns → Off (Wr p bl) H H' → E (.ref CF) none H'))
def spForget (C CF : Addr) : Sp := fun vs H Q E => ∃ (p bl : Addr) (d : Int) (uf : V) (cs : List Addr) (bs : List (List Int)), vs = [.ref p] ∧ DiskAt C H p bl d uf false cs bs ∧ ufOk uf ∧ 1 ≤ bs.length ∧
  (uf = .int 0 → ∀ H', DiskAt C H' p bl d uf true cs bs → Off (Wr p bl) H H' → E (.ref CF) none H') ∧
  (uf ≠ .int 0 → ∀ H' cs', DiskAt C H' p bl (d + 1) (lessU uf) false cs' (bs.set 0 zs16) → (∀ a ∈ cs', a ∈ cs ∨ H a = none) → Off (Wr p bl) H H' → Q .non H')
section
variable {P : Program} {w : World} {K : PySem.W.Frag} {mg : Str → Option Value} {base : Heap}
theorem scFo : FnScope ["disk"] ["disk"] (defScope sForget) := ⟨rfl, rfl, rfl, by decide +kernel, rfl, by decide +kernel, by decide +kernel⟩
theorem ok_forget {f C CN CF fW : Addr} {fd dW : FuncData} (F : Fun K "forget" "forget" sForget f fd) (T : JTxt mg) (TC : Txt K mg C)
    (GW : FnOk P w K mg base (CXO P w) 2 fW dW ["self", "n", "numbers"] (spWrite K C CN CF)) (bW : Binds K dW ["self", "n", "numbers"] []) (mW : Meth K C "write" fW) : FnOk P w K mg base (CXO P w) 3 f fd ["disk"] (spForget C CF) := by
  obtain ⟨u16, m16, r16⟩ := T.bn
  refine F.okx scFo (fun vs H Q E h => ?_) (fun cdv A outer s H vs Q E hr h => ?_)
  · obtain ⟨p, bl, d, uf, cs, bs, rfl, _⟩ := h
    rfl
  · obtain ⟨p, bl, d, uf, cs, bs, rfl, D, hu, lb, kE, kQ⟩ := h
    have hs : sizeLine = 16777216 := sizeLine_eq
    obtain ⟨dx, h1⟩ := id D.ob
    have nWrite : (flds bl d uf false).lookup ("write" : Str) = none := flds_no _ _ _ _ (by decide +kernel) (by decide +kernel) (by decide +kernel) (by decide +kernel)
    refine ⟨_, (pssx_one (psx_expr (pex_meth (pv 0) TC.cl mW GW (hr.mono (by decide)) rfl bW .nil (pa_cons pe_int (pa_cons (pe_op op_rep (pe_lst (pa_cons pe_int pa_nil)) (pe_glob (by rfl) m16 r16)) pa_nil))))), ?_⟩
    refine ⟨_, rfl, p, dx, _, rfl, h1, nWrite, by decide, fun l1 hl1 => ⟨l1, 16, _, rfl, rfl, upd_same, by omega, by omega, by rw [List.length_singleton]; omega, fun q hq => ?_⟩⟩
    rw [rep1 (V.int 0)]
    have sz := (same_new (X := .lst [V.int 0]) hl1).trans (same_new (X := .lst (List.replicate ((16 : Int)).toNat (V.int 0))) hq)
    refine ⟨p, bl, q, _, _, false, cs, bs, 0, zs16, rfl, D.same sz, hu, small_log (by decide) (by decide), SqL.of (by rw [upd_same]; unfold zs16; rw [List.map_replicate]; rfl), by decide +kernel, fun z => (by rcases z with z | z <;> omega), fun _ z H6 D6 o6 => ?_, fun _ _ hnz H6 cs6 D6 nc6 o6 => ?_⟩
    · rcases z with z | z
      · cases z
      · exact kE z H6 D6 (fun b u e nb => o6 _ _ (sz _ _ e) fun e => nb (.inl e))
    · exact kQ hnz H6 cs6 D6 (fun a ha => (nc6 a ha).imp id sz.free) (fun b u e nb => o6 _ _ (sz _ _ e) nb)
theorem scRc : FnScope ["disk", "head", "many", "k"] ["disk"] (defScope sRecover) := ⟨rfl, rfl, rfl, by decide +kernel, rfl, by decide +kernel, by decide +kernel⟩
set_option maxHeartbeats 4000000 in
theorem ok_recover {f C CN CF fR fW fFo : Addr} {fd dR dW dFo : FuncData} (F : Fun K "recover" "recover" sRecover f fd) (T : JTxt mg) (TC : Txt K mg C)
    (GR : FnOk P w K mg base (CXO P w) 2 fR dR ["self", "n"] (spRead C CN CF)) (bR : Binds K dR ["self", "n"] []) (mR : Meth K C "read" fR)
    (GW : FnOk P w K mg base (CXO P w) 2 fW dW ["self", "n", "numbers"] (spWrite K C CN CF)) (bW : Binds K dW ["self", "n", "numbers"] []) (mW : Meth K C "write" fW)
    (GFo : FnOk P w K mg base (CXO P w) 3 fFo dFo ["disk"] (spForget C CF)) (DFo : Def K mg "forget" fFo dFo ["disk"]) : FnOk P w K mg base (CXO P w) 4 f fd ["disk"] (spRecover C CF) := by
  obtain ⟨u16, m16, r16⟩ := T.bn
  obtain ⟨u2, m2, r2⟩ := T.fl
  refine F.okx scRc (fun vs H Q E h => ?_) (fun cdv A outer s H vs Q E hr h => ?_)
  · obtain ⟨p, bl, d, uf, cs, bs, N, rfl, _⟩ := h
    rfl
  · obtain ⟨p, bl, d, uf, cs, bs, N, rfl, D, hu, hl1, hl2, k⟩ := h
    have hs : sizeLine = 16777216 := sizeLine_eq
    obtain ⟨dx, h1⟩ := id D.ob
    have nm : ∀ {d : Int} {uf : V} {fa : Bool} {m : Str}, ¬ m = "fallen" → ¬ m = "until_fall" → ¬ m = "done" → ¬ m = "blocks" → (flds bl d uf fa).lookup m = none := fun h1 h2 h3 h4 => flds_no _ _ _ _ h1 h2 h3 h4
    have nRead : ∀ {d : Int} {uf : V} {fa : Bool}, (flds bl d uf fa).lookup ("read" : Str) = none := nm (by decide +kernel) (by decide +kernel) (by decide +kernel) (by decide +kernel)
    have nWrite : ∀ {d : Int} {uf : V} {fa : Bool}, (flds bl d uf fa).lookup ("write" : Str) = none := nm (by decide +kernel) (by decide +kernel) (by decide +kernel) (by decide +kernel)
    have g : ∀ {n : Int} {bs' : List (List Int)}, bs'.length = N → 0 ≤ n → n < N → ¬ noB bs' n := fun hb a b z => by rcases z with z | z <;> omega
    have hN : bs.length = N := by
      rcases k with ⟨_, c, _⟩ | ⟨_, _, _, c, _⟩
      · exact c.len
      · exact c.len
    obtain ⟨b0, e0⟩ : ∃ b0, bs[0]? = some b0 := ⟨_, List.getElem?_eq_getElem (by omega)⟩
    obtain ⟨b1, e1⟩ : ∃ b1, bs[1]? = some b1 := ⟨_, List.getElem?_eq_getElem (by omega)⟩
    have l0 := rows_row D.hc e0
    have l1 := rows_row D.hc e1
    refine ⟨_, (pssx_cons (psx_of (ps_set (i := 1) scRc.nd rfl (Or.inl rfl) (pe_op op_cat (pe_meth (pv 0) TC.cl mR GR (hr.mono (by decide)) bR .nil pass1 (pa_cons pe_int pa_nil)) (pe_meth (pv 0) TC.cl mR GR (hr.mono (by decide)) bR .nil pass1 (pa_cons pe_int pa_nil)))))
      (pssx_cons (psx_of (ps_set (i := 2) scRc.nd rfl (Or.inl rfl) (pe_ix ix_list (pv 1) pe_int (fun _ _ => rfl))))
      (pssx_cons (psx_of (ps_if (pt_cmpR op_eq (pv 2) pe_int (nomark _)) (pss_one (ps_ret pe_int)) pss_nil))
      (pssx_cons (psx_for rfl rfl rfl (pi_range1 (by rfl) T.range (pa_cons (pv 2) pa_nil)) (pg_name (i := 3) scRc.nd rfl (Or.inl rfl)) (pssx_one (psx_expr (pex_meth (pv 0) TC.cl mW GW (hr.mono (by decide)) rfl bW .nil (pa_cons (pe_ix ix_list (pv 1) (pe_op op_add pe_int (pv 3)) (fun _ _ => rfl)) (pa_cons (pe_meth (pv 0) TC.cl mR GR (hr.mono (by decide)) bR .nil pass1 (pa_cons (pe_op op_add (pe_glob (by rfl) m2 r2) (pv 3)) pa_nil)) pa_nil))))))
      (pssx_cons (psx_expr (pex_call GFo (hr.mono (by decide)) rfl (by rfl) DFo.mg DFo.kp DFo.b .nil (pa_cons (pv 0) pa_nil)))
      (pssx_of (pss_one (ps_ret (pv 2))))))))), ?_⟩
    refine ⟨_, rfl, p, dx, _, rfl, h1, nRead, p, bl, d, uf, false, cs, bs, 0, rfl, D, small_log (by decide) (by decide), fun z => absurd z (g hN (by decide) (by omega)), (fun _ z => nomatch z), fun _ _ x0 hx0 l hl => ?_⟩
    rw [show ((0 : Int)).toNat = 0 from rfl, e0] at hx0
    cases hx0
    have s1 := same_new (X := .lst (b0.map V.int)) hl
    refine ⟨_, rfl, p, dx, _, rfl, s1 _ _ h1, nRead, p, bl, d, uf, false, cs, bs, 1, rfl, D.same s1, small_log (by decide) (by decide), fun z => absurd z (g hN (by decide) (by omega)), (fun _ z => nomatch z), fun _ _ x1 hx1 l' hl' => ?_⟩
    rw [show ((1 : Int)).toNat = 1 from rfl, e1] at hx1
    cases hx1
    have s2 := same_new (X := .lst (b1.map V.int)) hl'
    refine ⟨l, l', _, _, rfl, rfl, s2 _ _ upd_same, upd_same, by rw [List.length_map, List.length_map]; omega, fun hd hhd => ?_⟩
    rw [← List.map_append]
    have s3 := same_new (X := .lst ((b0 ++ b1).map V.int)) hhd
    have S3 := (s1.trans s2).trans s3
    have hd3 : (upd (upd (upd H l (.lst (b0.map V.int))) l' (.lst (b1.map V.int))) hd (.lst ((b0 ++ b1).map V.int))) hd = some (.lst ((b0 ++ b1).map V.int)) := upd_same
    have nhd : H hd = none := (s1.trans s2).free hhd
    have D3 := D.same S3
    generalize upd (upd (upd H l (.lst (b0.map V.int))) l' (.lst (b1.map V.int))) hd (.lst ((b0 ++ b1).map V.int)) = H3 at *
    have lh : (b0 ++ b1).length = 32 := by rw [List.length_append]; omega
    rcases k with ⟨cur, c, k⟩ | ⟨old, new, ns, c, kQ, kE⟩
    · have eb : b0 = zs16 := Option.some.inj (e0.symm.trans c.b0)
      have h00 : ((b0 ++ b1).map V.int)[0]? = some (.int 0) := by
        rw [eb]
        rfl
      refine ⟨_, rfl, hd, _, 0, .int 0, rfl, rfl, SqL.of hd3, atI_nat (j := 0) h00, ?_⟩
      refine ⟨_, rfl, rfl, _, rfl, ?_⟩
      rw [decide_eq_true rfl]
      exact iteT (k _ S3)
    · obtain ⟨b0', b1', rest, q0, q1, eh⟩ := c.hd
      rw [e0] at q0
      rw [e1] at q1
      cases q0
      cases q1
      have n1 := c.n1
      have n2 := c.n2
      have h00 : ((b0 ++ b1).map V.int)[0]? = some (.int (ns.length : Int)) := by
        rw [eh]
        rfl
      refine ⟨_, rfl, hd, _, 0, .int (ns.length : Int), rfl, rfl, SqL.of hd3, atI_nat (j := 0) h00, ?_⟩
      refine ⟨_, rfl, rfl, _, rfl, ?_⟩
      rw [decide_eq_false (fun z => by injection z with z; omega)]
      refine iteF ?_
      refine ⟨_, rfl, (ns.length : Int), rfl, by omega, by omega, ?_⟩
      refine for_rangeX (lo := 0) (n := ((ns.length : Nat) : Int).toNat) (fun i σ H4 => ∃ (v3 : Option V) (cs : List Addr) (bs' : List (List Int)), σ = [some (.ref p), some (.ref hd), some (.int (ns.length : Int)), v3] ∧ DiskAt C H4 p bl (d + (i : Nat)) (lessN uf (i : Nat)) false cs bs' ∧ Pend bs' N old new ns ∧
        H4 hd = some (.lst ((b0 ++ b1).map V.int)) ∧ (∀ (k : Nat) (n : Int), k < i → ns[k]? = some n → bs'[n.toNat]? = new n.toNat) ∧ Off (Wr p bl) H3 H4 ∧ (∀ j : Nat, j < i → uf ≠ .int j))
        ⟨_, cs, bs, rfl, ?_, c, hd3, fun k n hk => absurd hk (by omega), fun b o e _ => e, fun j hj => absurd hj (by omega)⟩ ?_ ?_
      · rw [show ((0 : Nat) : Int) = 0 from rfl, lessN_zero hu, Int.add_zero]; exact D3
      · rintro i σ H4 hi ⟨v3, cs4, bs4, rfl, D4, p4, hd4, ha, o4, nu⟩
        rw [Int.zero_add]
        have hin : i < ns.length := by omega
        obtain ⟨dx4, h4⟩ := id D4.ob
        have hni := c.rg ns[i] (List.getElem_mem hin)
        have hb4 := p4.len
        have eix : ((b0 ++ b1).map V.int)[1 + i]? = some (.int ns[i]) := by
          rw [eh, List.getElem?_map, show 1 + i = i + 1 from Nat.add_comm 1 i, List.getElem?_cons_succ, List.getElem?_append_left hin, List.getElem?_eq_getElem hin]
          rfl
        have e2i : bs4[2 + i]? = new (ns[i]).toNat := p4.ls i ns[i] (List.getElem?_eq_getElem hin)
        have hlt : 2 + i < bs4.length := by omega
        have enx : new (ns[i]).toNat = some bs4[2 + i] := by rw [← e2i, List.getElem?_eq_getElem hlt]
        have e2g := List.getElem?_eq_getElem hlt
        generalize bs4[2 + i] = xs at enx e2g
        refine ⟨_, rfl, p, dx4, _, rfl, h4, nWrite, _, rfl, _, rfl, _, _, rfl, rfl, hd, _, _, .int ns[i], rfl, rfl, SqL.of hd4, ?_, ?_⟩
        · rw [show (1 + (i : Int)) = ((1 + i : Nat) : Int) by push_cast; rfl]
          exact atI_nat eix
        refine ⟨_, rfl, p, dx4, _, rfl, h4, nRead, _, rfl, _, _, rfl, rfl, p, bl, _, _, false, cs4, bs4, 2 + (i : Int), rfl, D4, small_log (by omega) (by omega), fun z => absurd z (g hb4 (by omega) (by omega)), (fun _ z => nomatch z), fun _ _ xr hxr lr hlr => ?_⟩
        rw [show (2 + (i : Int)).toNat = 2 + i by omega, e2g] at hxr
        cases hxr
        have l16 := rows_row D4.hc e2g
        have s5 := same_new (X := .lst (xs.map V.int)) hlr
        have D5 := D4.same s5
        have h5 := s5 _ _ h4
        have hd5 := s5 _ _ hd4
        have hdW : ¬ Wr p bl hd := fun z => z.elim (fun z => ins_lst h5 hd5 z.symm) fun z => by
          have hbl := D5.hb
          rw [z] at hd5
          rw [hd5] at hbl
          have hz := Option.some.inj hbl
          injection hz with hz
          rw [eh] at hz
          cases cs4 with
          | nil => cases hz
          | cons c t => injection (show V.int _ :: _ = V.ref c :: _ from hz) with z1; cases z1
        have wp : ∀ {b : Addr}, b = p → Wr p bl b := fun e => .inl e
        refine ⟨p, bl, lr, _, _, false, cs4, bs4, ns[i], xs, rfl, D5, lessN_ok hu _, small_log (by omega) (by omega), SqL.of upd_same, l16, fun z => absurd z (g hb4 (by omega) (by omega)), fun _ z H6 D6 o6 => ?_, fun _ _ hnz H6 cs6 D6 nc6 o6 => ?_⟩
        · have ez : uf = .int (i : Int) := by
            rcases z with z | z
            · cases z
            · exact lessN_nought hu z
          exact kE H6 _ _ cs4 bs4 i (by omega) ez D6 (lessN_ok hu _) p4 (fun b u e nb => o6 _ _ (s5 _ _ (o4 _ _ (S3 _ _ e) nb)) fun e => nb (wp e))
        · rw [lessN_succ hu] at D6
          refine ⟨_, cs6, _, rfl, ?_, p4.set (List.getElem_mem hin) enx, o6 _ _ hd5 hdW, fun k n hk hkn => ?_, fun b u e nb => o6 _ _ (s5 _ _ (o4 _ _ e nb)) nb, fun j hj e => ?_⟩
          · rw [show d + ((i + 1 : Nat) : Int) = d + (i : Int) + 1 by push_cast; omega]
            exact D6
          · by_cases e : k = i
            · subst e
              rw [List.getElem?_eq_getElem hin] at hkn
              cases hkn
              rw [List.getElem?_set_self (by omega)]
              exact enx.symm
            · have hm := List.mem_of_getElem? hkn
              have r1 := c.rg n hm
              have : (ns[i]).toNat ≠ n.toNat := fun z => by
                have z' : ns[i] = n := by omega
                exact e (nd_ix c.nd hkn (by rw [← z']; exact List.getElem?_eq_getElem hin))
              rw [List.getElem?_set_ne this]
              exact ha k n (by omega) hkn
          · by_cases ej : j = i
            · subst ej
              apply hnz
              rw [e]
              show V.int ((j : Int) - j) = .int 0
              rw [Int.sub_self]
            · exact nu j (by omega) e
      · rintro σ H4 ⟨v3, cs4, bs4, rfl, D4, p4, hd4, ha, o4, nu⟩
        rw [show ((ns.length : Nat) : Int).toNat = ns.length from Int.toNat_natCast _] at D4 ha nu
        obtain ⟨dx4, h4⟩ := id D4.ob
        have hb4 := p4.len
        refine ⟨_, rfl, p, bl, _, _, cs4, bs4, rfl, D4, lessN_ok hu _, by omega, fun z H6 D6 o6 => ?_, fun hnz H6 cs6 D6 nc6 o6 => ?_⟩
        · exact kE H6 _ _ cs4 bs4 ns.length (by omega) (lessN_nought hu z) D6 (lessN_ok hu _) p4 (fun b u e nb => o6 _ _ (o4 _ _ (S3 _ _ e) nb) nb)
        · rw [lessN_succ hu] at D6
          refine ⟨_, rfl, kQ H6 cs6 _ (fun j hj e => ?_) ?_ (p4.fin fun n hn => ?_) (fun b u e nb => o6 _ _ (o4 _ _ (S3 _ _ e) nb) nb)⟩
          · by_cases ej : j = ns.length
            · subst ej
              apply hnz
              rw [e]
              show V.int ((ns.length : Int) - ns.length) = .int 0
              rw [Int.sub_self]
            · exact nu j (by omega) e
          · rw [show d + ((ns.length + 1 : Nat) : Int) = d + (ns.length : Int) + 1 by push_cast; omega]
            exact D6
          · obtain ⟨k, hk, e⟩ := List.mem_iff_getElem.mp hn
            exact ha k n hk (by rw [List.getElem?_eq_getElem hk, e])
end
end Dk

namespace Dk
open PySem L2
def newOf (L : Chg) (cur : Nat → Option (List Int)) : Nat → Option (List Int) := fun j => ((look L (j : Int)).map (·.2)).or (cur j)
def spCommit (C CF : Addr) : Sp := fun vs H Q E => ∃ (p bl a : Addr) (d : Int) (uf : V) (cs : List Addr) (bs : List (List Int)) (L : Chg) (N : Nat) (cur : Nat → Option (List Int)), vs = [.ref p, .ref a] ∧ DiskAt C H p bl d uf false cs bs ∧ ufOk uf ∧ 29 ≤ N ∧ N ≤ 300 ∧ Calm bs N cur ∧ ChgAt H a L N ∧
  (∀ (H' : Hp) (cs' : List Addr) (bs' : List (List Int)), (∀ i : Nat, i < 2 * L.length + 3 → uf ≠ .int i) → DiskAt C H' p bl (d + (2 * L.length + 3 : Nat)) (lessN uf (2 * L.length + 3 : Nat)) false cs' bs' → Calm bs' N (newOf L cur) → Off (Wr p bl) H H' → Q .non H') ∧
  (∀ (H' : Hp) (d' : Int) (uf' : V) (cs' : List Addr) (bs' : List (List Int)) (i : Nat), i < 2 * L.length + 3 → uf = .int i → DiskAt C H' p bl d' uf' true cs' bs' → ufOk uf' → ((i < L.length + 2 ∧ Calm bs' N cur) ∨ (L.length + 2 ≤ i ∧ ∃ ns, ns.length = L.length ∧ Pend bs' N cur (newOf L cur) ns)) → Off (Wr p bl) H H' → E (.ref CF) none H')
theorem lessN_add {uf : V} (h : ufOk uf) (a b : Int) : lessN (lessN uf a) b = lessN uf (a + b) := by
  rcases h with rfl | ⟨k, rfl⟩
  · rfl
  · show V.int (k - a - b) = V.int (k - (a + b))
    congr 1; omega
theorem lessN_eq {uf : V} (h : ufOk uf) {a i : Int} (e : lessN uf a = .int i) : uf = .int (a + i) := by
  rcases h with rfl | ⟨k, rfl⟩
  · cases e
  · have e' : V.int (k - a) = .int i := e
    injection e' with e'
    congr 1; omega
theorem ints_ne {H : Hp} {a b : Addr} {ns : List Int} {cs : List Addr} (h : H a = some (.lst (ns.map V.int))) (hn : 1 ≤ ns.length) (h' : H b = some (.lst (cs.map V.ref))) : a ≠ b := ne_of h h' fun z => by
  injection z with z
  cases ns with
  | nil => simp at hn
  | cons x r =>
    cases cs with
    | nil => cases z
    | cons c t => injection (show V.int x :: r.map V.int = V.ref c :: t.map V.ref from z) with z1 _; cases z1
theorem cut_hi {xs : List Int} (h : xs.length = 32) : cutV (xs.map V.int) (some 16) none = (xs.drop 16).map V.int := by
  unfold cutV
  rw [List.length_map, h]
  rw [show HT.sIx 32 0 (some 16) = 16 from rfl, show HT.sIx 32 32 none = 32 from rfl, ← List.map_drop, ← List.map_take]
  congr 1
  exact List.take_of_length_le (by rw [List.length_drop]; omega)
theorem cut_lo {xs : List Int} (h : xs.length = 32) : cutV (xs.map V.int) none (some 16) = (xs.take 16).map V.int := by
  unfold cutV
  rw [List.length_map, h]
  rw [show HT.sIx 32 0 none = 0 from rfl, show HT.sIx 32 32 (some 16) = 16 from rfl, List.drop_zero, List.map_take]
section
variable {P : Program} {w : World} {K : PySem.W.Frag} {mg : Str → Option Value} {base : Heap}
theorem scCo : FnScope ["disk", "changes", "numbers", "n", "k", "head"] ["disk", "changes"] (defScope sCommit) := ⟨rfl, rfl, rfl, by decide +kernel, rfl, by decide +kernel, by decide +kernel⟩
set_option maxHeartbeats 4000000 in
theorem ok_commit {f C CN CF fR fW fV : Addr} {fd dR dW dV : FuncData} (F : Fun K "commit" "commit" sCommit f fd) (T : JTxt mg) (TC : Txt K mg C)
    (GR : FnOk P w K mg base (CXO P w) 2 fR dR ["self", "n"] (spRead C CN CF)) (bR : Binds K dR ["self", "n"] []) (mR : Meth K C "read" fR)
    (GW : FnOk P w K mg base (CXO P w) 2 fW dW ["self", "n", "numbers"] (spWrite K C CN CF)) (bW : Binds K dW ["self", "n", "numbers"] []) (mW : Meth K C "write" fW)
    (GV : FnOk P w K mg base (CXO P w) 4 fV dV ["disk"] (spRecover C CF)) (DV : Def K mg "recover" fV dV ["disk"]) : FnOk P w K mg base (CXO P w) 5 f fd ["disk", "changes"] (spCommit C CF) := by
  obtain ⟨u16, m16, r16⟩ := T.bn
  obtain ⟨u2, m2, r2⟩ := T.fl
  refine F.okx scCo (fun vs H Q E h => ?_) (fun cdv A outer s H vs Q E hr h => ?_)
  · obtain ⟨p, bl, a, d, uf, cs, bs, L, N, cur, rfl, _⟩ := h
    rfl
  · obtain ⟨p, bl, a, d, uf, cs, bs, L, N, cur, rfl, D, hu, hl1, hl2, cm, c, kQ, kE⟩ := h
    have hs : sizeLine = 16777216 := sizeLine_eq
    have hN := cm.len
    have nm : ∀ {d : Int} {uf : V} {fa : Bool} {m : Str}, ¬ m = "fallen" → ¬ m = "until_fall" → ¬ m = "done" → ¬ m = "blocks" → (flds bl d uf fa).lookup m = none := fun h1 h2 h3 h4 => flds_no _ _ _ _ h1 h2 h3 h4
    have nRead : ∀ {d : Int} {uf : V} {fa : Bool}, (flds bl d uf fa).lookup ("read" : Str) = none := nm (by decide +kernel) (by decide +kernel) (by decide +kernel) (by decide +kernel)
    have nWrite : ∀ {d : Int} {uf : V} {fa : Bool}, (flds bl d uf fa).lookup ("write" : Str) = none := nm (by decide +kernel) (by decide +kernel) (by decide +kernel) (by decide +kernel)
    have g : ∀ {n : Int} {bs' : List (List Int)}, bs'.length = N → 0 ≤ n → n < N → ¬ noB bs' n := fun hb a b z => by rcases z with z | z <;> omega
    have c1 := c.l1
    have c2 := c.l2
    have nz : ∀ {i : Nat} (j : Nat), lessN uf (i : Int) ≠ .int 0 → (∀ j : Nat, j < i → uf ≠ .int j) → j < i + 1 → uf ≠ .int j := fun {i} j hz nu hj e => by
      by_cases ej : j = i
      · subst ej
        apply hz
        rw [e]
        show V.int ((j : Int) - j) = .int 0
        rw [Int.sub_self]
      · exact nu j (by omega) e
    have fz : ∀ {i : Int} {fa : Bool}, fa = false → fa = true ∨ lessN uf i = .int 0 → uf = .int i := fun hf z => by
      rcases z with z | z
      · rw [hf] at z; cases z
      · exact lessN_nought hu z
    refine ⟨_, (pssx_cons (psx_of (ps_set (i := 2) scCo.nd rfl (Or.inl rfl) (pe_callB (call_sortedKs rfl) (by rfl) T.sorted bt_sorted (pa_cons (pv 1) pa_nil))))
      (pssx_cons (psx_of (ps_for PassesOwn.never rfl (pi_list (pv 2)) (pg_name (i := 3) scCo.nd rfl (Or.inl rfl)) (pss_one (ps_expr (pe_meth (pv 0) TC.cl mR GR (hr.mono (by decide)) bR .nil pass1 (pa_cons (pv 3) pa_nil))))))
      (pssx_cons (psx_for rfl rfl rfl (pi_enum (by rfl) T.enumerate (pa_cons (pv 2) pa_nil)) (pg_tup rfl (pgs_cons (pg_name (i := 4) scCo.nd rfl (Or.inl rfl)) (pgs_cons (pg_name (i := 3) scCo.nd rfl (Or.inl rfl)) pgs_nil))) (pssx_one (psx_expr (pex_meth (pv 0) TC.cl mW GW (hr.mono (by decide)) rfl bW .nil (pa_cons (pe_op op_add (pe_glob (by rfl) m2 r2) (pv 4)) (pa_cons (pe_dget (hu_of hr) (pv 1) (pv 3) (fun _ _ => rfl)) pa_nil))))))
      (pssx_cons (psx_of (ps_set (i := 5) scCo.nd rfl (Or.inl rfl) (pe_op op_cat (pe_lst (pa_cons (pe_callB call_len_seq (by rfl) T.len PySem.boot_len (pa_cons (pv 2) pa_nil)) pa_nil)) (pv 2))))
      (pssx_cons (psx_of (ps_set (i := 5) scCo.nd rfl (Or.inl rfl) (pe_op op_cat (pv 5) (pe_op op_rep (pe_lst (pa_cons pe_int pa_nil)) (pe_op op_sub (pe_op op_mul pe_int (pe_glob (by rfl) m16 r16)) (pe_callB call_len_seq (by rfl) T.len PySem.boot_len (pa_cons (pv 5) pa_nil)))))))
      (pssx_cons (psx_expr (pex_meth (pv 0) TC.cl mW GW (hr.mono (by decide)) rfl bW .nil (pa_cons pe_int (pa_cons (pe_slice sl_list (pv 5) (po_some (pe_glob (by rfl) m16 r16)) po_none) pa_nil))))
      (pssx_cons (psx_expr (pex_meth (pv 0) TC.cl mW GW (hr.mono (by decide)) rfl bW .nil (pa_cons pe_int (pa_cons (pe_slice sl_list (pv 5) po_none (po_some (pe_glob (by rfl) m16 r16))) pa_nil))))
      (pssx_one (psx_expr (pex_call GV (hr.mono (by decide)) rfl (by rfl) DV.mg DV.kp DV.b .nil (pa_cons (pv 0) pa_nil))))))))))), ?_⟩
    refine ⟨_, rfl, a, kvC L, L.map (·.1), rfl, c.hd, by unfold kvC dk; rw [List.map_map, List.map_map]; rfl, c.nd, by rw [List.length_map]; omega, fun l ns hl hp hsr => ?_⟩
    have s1 := same_new (X := .lst (ns.map V.int)) hl
    have hns : ns.length = L.length := by rw [hp.length_eq, List.length_map]
    have nd : ns.Nodup := hp.symm.nodup c.nd
    have rg : ∀ n ∈ ns, 28 ≤ n ∧ n < N ∧ ∃ x, look L n = some x ∧ (n, x) ∈ L := fun n hn => by
      obtain ⟨x, hx, e⟩ := List.mem_map.mp (hp.mem_iff.mp hn)
      obtain ⟨q1, q2⟩ := c.rg x hx
      rw [e] at q1 q2
      have hx' : (n, x.2) ∈ L := by rw [← e]; exact hx
      exact ⟨q1, q2, x.2, look_some c.nd hx', hx'⟩
    have mem : ∀ {n : Int} {x : Addr × List Int}, look L n = some x → n ∈ ns := fun h => hp.mem_iff.mpr (List.mem_map.mpr ⟨_, look_mem h, rfl⟩)
    -- each number is looked at
    refine ⟨_, rfl, l, rfl, ⟨_, SqL.of upd_same⟩, ?_⟩
    refine for_list (K := K) (a := l) (xs := ns.map V.int) (fun i σ H2 => ∃ v3 : Option V, σ = [some (.ref p), some (.ref a), some (.ref l), v3, none, none] ∧ Same (upd H l (.lst (ns.map V.int))) H2) ⟨_, rfl, Same.refl _⟩ (fun i σ H2 _ ⟨_, _, s2⟩ => SqL.of (s2 _ _ upd_same)) ?_ ?_
    · rintro i x σ H2 hx ⟨v3, rfl, s2⟩
      rw [List.getElem?_map] at hx
      obtain ⟨n, hn, rfl⟩ := Option.map_eq_some_iff.mp hx
      obtain ⟨q1, q2, _⟩ := rg n (List.mem_of_getElem? hn)
      have D2 := D.same (s1.trans s2)
      obtain ⟨dx2, h2⟩ := id D2.ob
      refine ⟨_, rfl, p, dx2, _, rfl, h2, nRead, _, rfl, p, bl, d, uf, false, cs, bs, n, rfl, D2, small_log (by omega) (by omega), fun z => absurd z (g hN (by omega) q2), (fun _ z => nomatch z), fun _ _ xs hxs lr hlr => ?_⟩
      exact ⟨_, rfl, s2.trans (same_new hlr)⟩
    rintro σ H2 ⟨v3, rfl, s2⟩
    have S2 := s1.trans s2
    have D2 := D.same S2
    have hl2' : H2 l = some (.lst (ns.map V.int)) := s2 _ _ upd_same
    have C2 := c.same S2
    clear s1 s2
    -- the lists
    refine ⟨_, rfl, l, rfl, ⟨_, SqL.of hl2'⟩, ?_⟩
    have keep : ∀ {H4 : Hp}, Off (Wr p bl) H2 H4 → H4 l = some (.lst (ns.map V.int)) ∧ ChgAt H4 a L N := fun {H4} o => by
      obtain ⟨dx2, h2⟩ := id D2.ob
      refine ⟨o _ _ hl2' fun z => z.elim (fun z => ins_lst h2 hl2' z.symm) fun z => ints_ne hl2' (by omega) D2.hb z, C2.off o (fun z => z.elim (dk_ins C2.hd h2) (dk_lst C2.hd D2.hb)) fun b ms q z => z.elim (fun z => ins_lst h2 q.1 z.symm) fun z => row_ne q D2.hb z⟩
    refine for_enumX (K := K) (a := l) (xs := ns.map V.int) (fun i σ H4 => ∃ (v3 v4 : Option V) (cs : List Addr) (bs' : List (List Int)), σ = [some (.ref p), some (.ref a), some (.ref l), v3, v4, none] ∧ DiskAt C H4 p bl (d + (i : Nat)) (lessN uf (i : Nat)) false cs bs' ∧ Calm bs' N cur ∧
      (∀ (k : Nat) (n : Int), k < i → ns[k]? = some n → bs'[2 + k]? = (look L n).map (·.2)) ∧ Off (Wr p bl) H2 H4 ∧ (∀ j : Nat, j < i → uf ≠ .int j))
      ⟨_, _, cs, bs, rfl, by rw [show ((0 : Nat) : Int) = 0 from rfl, lessN_zero hu, Int.add_zero]; exact D2, cm, fun k n hk => absurd hk (by omega), fun b o e _ => e, fun j hj => absurd hj (by omega)⟩ (fun i σ H4 _ ⟨_, _, _, _, _, _, _, _, o, _⟩ => SqL.of (keep o).1) ?_ ?_
    · rintro i x σ H4 Tt hx hTt ⟨v3, v4, cs4, bs4, rfl, D4, m4, ha, o4, nu⟩
      rw [List.getElem?_map] at hx
      obtain ⟨n, hn, rfl⟩ := Option.map_eq_some_iff.mp hx
      have hin : i < ns.length := (List.getElem?_eq_some_iff.mp hn).1
      obtain ⟨q1, q2, ⟨ad, row⟩, elk, emem⟩ := rg n (List.mem_of_getElem? hn)
      obtain ⟨_, C4⟩ := keep o4
      have hb4 := m4.len
      have sT := same_new (X := .tup [.int i, .int n]) hTt
      have D5 := D4.same sT
      have C5 := C4.same sT
      obtain ⟨dx5, h5⟩ := id D5.ob
      have hrow : RowAt (upd H4 Tt (.tup [.int i, .int n])) ad row := C5.hr _ emem
      refine ⟨Tt, [.int i, .int n], rfl, SqT.of upd_same, rfl, .int i, [.int n], rfl, .int n, [], rfl, rfl, ?_⟩
      have hg : DGet (upd H4 Tt (.tup [.int i, .int n])) a (.int n) (some (.ref ad)) := by
        have q := DGet.k (k := Sum.inl n) C5.hd
        rw [valV_dk, elk] at q
        exact q
      refine ⟨_, rfl, p, dx5, _, rfl, h5, nWrite, _, rfl, _, _, rfl, rfl, _, rfl, _, rfl, a, .ref ad, rfl, hg, ?_⟩
      refine ⟨p, bl, ad, _, _, false, cs4, bs4, 2 + (i : Int), row, rfl, D5, lessN_ok hu _, small_log (by omega) (by omega), SqL.of hrow.1, hrow.2, fun z => absurd z (g hb4 (by omega) (by omega)), fun _ z H6 D6 o6 => ?_, fun _ _ hz H6 cs6 D6 nc6 o6 => ?_⟩
      · exact kE H6 _ _ cs4 bs4 i (by omega) (fz rfl z) D6 (lessN_ok hu _) (.inl ⟨by omega, m4⟩) fun b u e nb => o6 _ _ (sT _ _ (o4 _ _ (S2 _ _ e) nb)) fun e => nb (.inl e)
      rw [lessN_succ hu, show (2 + (i : Int)).toNat = 2 + i by omega] at D6
      refine ⟨_, _, cs6, bs4.set (2 + i) row, rfl, ?_, m4.set (j := 2 + i) (by omega) (by omega) row, fun k n' hk hkn => ?_, (fun b o e hb => o6 _ _ (sT _ _ (o4 _ _ e hb)) hb), fun j hj => nz j hz nu hj⟩
      · rw [show d + ((i + 1 : Nat) : Int) = d + (i : Int) + 1 by push_cast; omega]
        exact D6
      · by_cases e : k = i
        · subst e
          rw [hn] at hkn
          cases hkn
          rw [List.getElem?_set_self (by omega), elk]
          rfl
        · rw [List.getElem?_set_ne (by omega)]
          exact ha k n' (by omega) hkn
    rintro σ H4 ⟨v3, v4, cs4, bs4, rfl, D4, m4, ha, o4, nu⟩
    rw [List.length_map] at ha nu D4
    obtain ⟨hl4, C4⟩ := keep o4
    have hb4 := m4.len
    -- the head
    have hlen : (ns.map V.int).length = ns.length := List.length_map ..
    refine ⟨_, rfl, l, _, rfl, .inl (SqL.of hl4), (by show 1 ≤ sizeLine; decide), fun h0 hh0 => ⟨_, rfl, h0, l, _, _, rfl, rfl, upd_same, by rw [upd_ne (ne_of_none hl4 hh0)]; exact hl4, by rw [hlen]; show 1 + ns.length ≤ sizeLine; omega, fun h1 hh1 => ?_⟩⟩
    rw [hlen] at hh1 ⊢
    have t1 := (same_new (X := .lst [V.int (ns.length : Int)]) hh0).trans (same_new (X := .lst ([V.int (ns.length : Int)] ++ ns.map V.int)) hh1)
    have eh1 : (upd (upd H4 h0 (.lst [V.int (ns.length : Int)])) h1 (.lst ([V.int (ns.length : Int)] ++ ns.map V.int))) h1 = some (.lst ([V.int (ns.length : Int)] ++ ns.map V.int)) := upd_same
    generalize upd (upd H4 h0 (.lst [V.int (ns.length : Int)])) h1 (.lst ([V.int (ns.length : Int)] ++ ns.map V.int)) = H5 at *
    have hlen1 : ([V.int (ns.length : Int)] ++ ns.map V.int).length = 1 + ns.length := by rw [List.length_append, hlen]; rfl
    refine ⟨_, rfl, (by decide), fun z0 hz0 => ⟨_, _, rfl, rfl, .inl ⟨by decide, by decide⟩, _, rfl, h1, _, rfl, .inl (SqL.of (by rw [upd_ne (ne_of_none eh1 hz0)]; exact eh1)), _, _, rfl, rfl, z0, _, _, rfl, rfl, upd_same, ?_, ?_, ?_, fun z1 hz1 => ?_⟩⟩
    · rw [hlen1]; omega
    · rw [hlen1]; omega
    · rw [hlen1, List.length_singleton]; omega
    have t2 := (same_new (X := .lst [V.int 0]) hz0)
    have t3 := same_new (X := .lst (List.replicate (2 * 16 - (([V.int (ns.length : Int)] ++ ns.map V.int).length : Int)).toNat [V.int 0]).flatten) hz1
    have ez : ((List.replicate (2 * 16 - (([V.int (ns.length : Int)] ++ ns.map V.int).length : Int)).toNat [V.int 0]).flatten) = (List.replicate (31 - ns.length) (0 : Int)).map V.int := by
      rw [rep1, hlen1, List.map_replicate, show (2 * 16 - ((1 + ns.length : Nat) : Int)).toNat = 31 - ns.length by omega]
    rw [ez] at t3 ⊢
    refine ⟨h1, z1, _, _, rfl, rfl, (t2.trans t3) _ _ eh1, upd_same, by rw [hlen1, List.length_map, List.length_replicate]; omega, fun h2 hh2 => ?_⟩
    have ehd : ([V.int (ns.length : Int)] ++ ns.map V.int) ++ (List.replicate (31 - ns.length) (0 : Int)).map V.int = ((ns.length : Int) :: (ns ++ List.replicate (31 - ns.length) 0)).map V.int := by
      rw [List.map_cons, List.map_append]
      rfl
    rw [ehd]
    have t4 := same_new (X := .lst (((ns.length : Int) :: (ns ++ List.replicate (31 - ns.length) 0)).map V.int)) hh2
    have S6 := ((t1.trans t2).trans t3).trans t4
    have eh6 : (upd (upd (upd H5 z0 (.lst [V.int 0])) z1 (.lst ((List.replicate (31 - ns.length) (0 : Int)).map V.int))) h2 (.lst (((ns.length : Int) :: (ns ++ List.replicate (31 - ns.length) 0)).map V.int))) h2 = _ := upd_same
    have lhd : ((ns.length : Int) :: (ns ++ List.replicate (31 - ns.length) 0)).length = 32 := by rw [List.length_cons, List.length_append, List.length_replicate]; omega
    have D6 := D4.same S6
    have o6 : Off (Wr p bl) H2 (upd (upd (upd H5 z0 (.lst [V.int 0])) z1 (.lst ((List.replicate (31 - ns.length) (0 : Int)).map V.int))) h2 (.lst (((ns.length : Int) :: (ns ++ List.replicate (31 - ns.length) 0)).map V.int))) := fun b o e hb => S6 _ _ (o4 _ _ e hb)
    generalize upd (upd (upd H5 z0 (.lst [V.int 0])) z1 (.lst ((List.replicate (31 - ns.length) (0 : Int)).map V.int))) h2 (.lst (((ns.length : Int) :: (ns ++ List.replicate (31 - ns.length) 0)).map V.int)) = H6 at *
    generalize hhd : ((ns.length : Int) :: (ns ++ List.replicate (31 - ns.length) 0)) = hd at *
    -- the head's two blocks
    obtain ⟨dx6, h6⟩ := id D6.ob
    refine ⟨_, rfl, p, dx6, _, rfl, h6, nWrite, _, rfl, 16, rfl, h2, _, rfl, SqL.of eh6, fun sl hsl => ?_⟩
    rw [cut_hi lhd]
    have s7 := same_new (X := .lst ((hd.drop 16).map V.int)) hsl
    refine ⟨p, bl, sl, _, _, false, cs4, bs4, 1, hd.drop 16, rfl, D6.same s7, lessN_ok hu _, small_log (by decide) (by decide), SqL.of upd_same, by rw [List.length_drop]; omega, fun z => absurd z (g hb4 (by decide) (by omega)), fun _ z H8 D8 o8 => ?_, fun _ _ hz1 H8 cs8 D8 nc8 o8 => ?_⟩
    · exact kE H8 _ _ cs4 bs4 ns.length (by omega) (fz rfl z) D8 (lessN_ok hu _) (.inl ⟨by omega, m4⟩) fun b u e nb => o8 _ _ (s7 _ _ (o6 _ _ (S2 _ _ e) nb)) fun e => nb (.inl e)
    rw [lessN_succ hu, show ((1 : Int)).toNat = 1 from rfl] at D8
    have m8 := m4.set (j := 1) (by decide) (by decide) (hd.drop 16)
    have nu8 : ∀ j : Nat, j < ns.length + 1 → uf ≠ .int j := fun j hj => nz j hz1 nu hj
    have h7 := s7 _ _ h6
    have hd8 : H8 h2 = some (.lst (hd.map V.int)) := o8 _ _ (s7 _ _ eh6) fun z => z.elim (fun z => ins_lst h7 (s7 _ _ eh6) z.symm) fun z => ints_ne (s7 _ _ eh6) (by omega) (D6.same s7).hb z
    obtain ⟨dx8, h8⟩ := id D8.ob
    refine ⟨_, rfl, p, dx8, _, rfl, h8, nWrite, _, rfl, 16, rfl, h2, _, rfl, SqL.of hd8, fun sm hsm => ?_⟩
    rw [cut_lo lhd]
    have s9 := same_new (X := .lst ((hd.take 16).map V.int)) hsm
    refine ⟨p, bl, sm, _, _, false, cs8, _, 0, hd.take 16, rfl, D8.same s9, lessN_ok hu _, small_log (by decide) (by decide), SqL.of upd_same, by rw [List.length_take]; omega, fun z => absurd z (g m8.len (by decide) (by omega)), fun _ z H10 D10 o10 => ?_, fun _ _ hz2 H10 cs10 D10 nc10 o10 => ?_⟩
    · exact kE H10 _ _ cs8 _ (ns.length + 1) (by omega) (by have := fz rfl z; rw [this]; congr 1) D10 (lessN_ok hu _) (.inl ⟨by omega, m8⟩) fun b u e nb => o10 _ _ (s9 _ _ (o8 _ _ (s7 _ _ (o6 _ _ (S2 _ _ e) nb)) nb)) fun e => nb (.inl e)
    rw [lessN_succ hu, show ((0 : Int)).toNat = 0 from rfl] at D10
    have o11 : Off (Wr p bl) H H10 := fun b o e hb => o10 _ _ (s9 _ _ (o8 _ _ (s7 _ _ (o6 _ _ (S2 _ _ e) hb)) hb)) hb
    have nu10 : ∀ j : Nat, j < ns.length + 2 → uf ≠ .int j := fun j hj => nz (i := ns.length + 1) j (by push_cast; exact hz2) nu8 hj
    have blk : ∀ j : Nat, 2 ≤ j → ((bs4.set 1 (hd.drop 16)).set 0 (hd.take 16))[j]? = bs4[j]? := fun j hj => by rw [List.getElem?_set_ne (by omega), List.getElem?_set_ne (by omega)]
    have hln : ((bs4.set 1 (hd.drop 16)).set 0 (hd.take 16)).length = N := by rw [List.length_set, List.length_set]; exact hb4
    have P10 : Pend ((bs4.set 1 (hd.drop 16)).set 0 (hd.take 16)) N cur (newOf L cur) ns := by
      refine ⟨hln, ⟨hd.take 16, hd.drop 16, List.replicate (31 - ns.length) 0, ?_, ?_, ?_⟩, by omega, by omega, nd, fun n hn => ⟨(rg n hn).1, (rg n hn).2.1⟩, fun k n hk => ?_, fun j hj hm => ?_, fun j hj hm => ?_⟩
      · rw [List.getElem?_set_self (by rw [List.length_set]; omega)]
      · rw [List.getElem?_set_ne (by omega), List.getElem?_set_self (by omega)]
      · rw [List.take_append_drop, ← hhd]
      · have hkl := (List.getElem?_eq_some_iff.mp hk).1
        obtain ⟨r1, _, x, ex, _⟩ := rg n (List.mem_of_getElem? hk)
        rw [blk _ (by omega), ha k n hkl hk]
        unfold newOf
        rw [show ((n.toNat : Nat) : Int) = n by omega, ex]
        rfl
      · rw [blk _ (by omega), m4.at_ j hj]
        refine ⟨rfl, ?_⟩
        unfold newOf
        cases e : look L (j : Int) with
        | none => rfl
        | some x => exact absurd (mem e) hm
      · rw [blk _ (by omega), m4.at_ j hj]
        exact .inr rfl
    refine ⟨_, rfl, p, bl, _, _, cs10, _, N, rfl, D10, lessN_ok hu _, hl1, hl2, .inr ⟨cur, newOf L cur, ns, P10, fun H' cs' bs' hnu D' m' o' => ?_, fun H' d' uf' cs' bs' i hi e D' ok' P' o' => ?_⟩⟩
    · refine kQ H' cs' bs' (fun j hj e => ?_) ?_ m' fun b o e hb => o' _ _ (o11 _ _ e hb) hb
      · by_cases h : j < ns.length + 2
        · exact nu10 j h e
        · refine hnu (j - (ns.length + 2)) (by omega) ?_
          rw [e]
          show V.int _ = V.int _
          congr 1
          omega
      · rw [lessN_add hu] at D'
        rw [show d + ((2 * L.length + 3 : Nat) : Int) = d + (ns.length : Int) + 1 + 1 + ((ns.length + 1 : Nat) : Int) by push_cast; omega, show ((2 * L.length + 3 : Nat) : Int) = (ns.length : Int) + 1 + 1 + ((ns.length + 1 : Nat) : Int) by push_cast; omega]
        exact D'
    · have e' := lessN_eq hu e
      exact kE H' d' uf' cs' bs' (ns.length + 2 + i) (by omega) (by rw [e']; congr 1) D' ok' (.inr ⟨by omega, ns, hns, P'⟩) fun b o e hb => o' _ _ (o11 _ _ e hb) hb
end
end Dk

namespace Dk
open PySem L2
abbrev sRows : Stmt := top 20
abbrev sDisk : Stmt := top 21
abbrev sChanges : Stmt := top 23
structure MTxt (mg : Str → Option Value) : Prop where
  list : mg "list" = none
  len : mg "len" = none
  range : mg "range" = none
  min : mg "min" = none
  max : mg "max" = none
  dict : mg "dict" = none
  enumerate : mg "enumerate" = none
def spRows (K : PySem.W.Frag) : Sp := fun vs H Q _ => ∃ (a : Addr) (ns : List Int) (most : Int), vs = [.ref a, .int most] ∧ SqL K H a (ns.map V.int) ∧ 0 < most ∧ most ≤ 100 ∧
  ∀ (H' : Hp) (l : Addr) (as : List Addr) (rs : List (List Int)), Same H H' → H l = none → H' l = some (.lst (as.map V.ref)) → Rows H' as rs → 2 ≤ rs.length → (rs.length : Int) ≤ 1 + most → Q (.ref l) H'
def spDisk (C : Addr) : Sp := fun vs H Q _ => ∃ (l : Addr) (as : List Addr) (rs : List (List Int)), vs = [.ref l] ∧ H l = some (.lst (as.map V.ref)) ∧ Rows H as rs ∧ 1 ≤ rs.length ∧ rs.length ≤ 250 ∧
  ∀ (H' : Hp) (p bl : Addr) (d : Int) (cs : List Addr) (bs : List (List Int)), Same H H' → H p = none → H bl = none → DiskAt C H' p bl d .non false cs bs → bs.length = 28 + rs.length → bs.drop 28 = rs → bs[0]? = some zs16 → Q (.ref p) H'
def spChanges : Sp := fun vs H Q _ => ∃ (v : Int) (l : Addr) (as : List Addr), vs = [.int v, .ref l] ∧ H l = some (.lst (as.map V.ref)) ∧ 1 ≤ as.length ∧ as.length ≤ 250 ∧
  ∀ (H' : Hp) (a : Addr) (L : Chg), Same H H' → H a = none → ChgAt H' a L (28 + as.length) → (∀ x ∈ L, H x.2.1 = none) → Q (.ref a) H'
section
variable {P : Program} {w : World} {K : PySem.W.Frag} {mg : Str → Option Value} {base : Heap}
theorem scRo : FnScope ["_law_script", "_law_most", "_law_number", "_law_many", "_law_factor", "_law_rows_here", "_law_block"] ["_law_script", "_law_most"] (defScope sRows) := ⟨rfl, rfl, rfl, by decide +kernel, rfl, by decide +kernel, by decide +kernel⟩
set_option maxHeartbeats 4000000 in
theorem ok_rows {f fWd : Addr} {fd dWd : FuncData} (F : Fun K "_law_rows" "_law_rows" sRows f fd) (T : LTxt mg)
    (GWd : FnOk P w K mg base CX0 2 fWd dWd ["_law_script", "_law_k"] (spWide K)) (DWd : Def K mg "_law_wide" fWd dWd ["_law_script", "_law_k"]) : FnOk P w K mg base CX0 3 f fd ["_law_script", "_law_most"] (spRows K) := by
  refine F.ok scRo (fun vs H Q E h => ?_) (fun cdv A outer s H vs Q E hr h => ?_)
  · obtain ⟨a, ns, most, rfl, _⟩ := h
    rfl
  · obtain ⟨a, ns, most, rfl, hq, m0, m1, k⟩ := h
    have hs : sizeLine = 16777216 := sizeLine_eq
    refine ⟨_, (pss_cons (ps_set (i := 2) scRo.nd rfl (Or.inr rfl) (pe_op op_fdiv (pe_call GWd (hr.mono (by decide)) (by rfl) DWd.mg DWd.kp DWd.b .nil pass0 (pa_cons (pv 0) (pa_cons pe_int pa_nil))) pe_int))
      (pss_cons (ps_set (i := 3) scRo.nd rfl (Or.inl rfl) (pe_op op_add pe_int (pe_op op_mod (pv 2) (pv 1))))
      (pss_cons (ps_set (i := 4) scRo.nd rfl (Or.inr rfl) (pe_op op_add pe_int (pe_op op_mod (pe_op op_fdiv (pv 2) (pv 1)) pe_int)))
      (pss_cons (ps_set (i := 5) scRo.nd rfl (Or.inl rfl) (pe_lst pa_nil))
      (pss_cons (ps_for PassesOwn.never rfl (pi_range1 (by rfl) T.range (pa_cons (pv 3) pa_nil)) (pg_name (i := 6) scRo.nd rfl (Or.inr rfl)) (pss_one (ps_expr (pe_bm PySem.F.plainAttrs_list PySem.F.slot_list_append PySem.F.type_list_append mt_append (pv 5) (pa_cons (pe_comp (cl := [("_law_number", s.heap.objs.size + 1), ("_law_factor", s.heap.objs.size + 2), ("_law_block", s.heap.objs.size + 3)]) (caps := [("_law_number", 2), ("_law_factor", 4), ("_law_block", 6)]) ⟨rfl, by decide +kernel, by decide +kernel, rfl, by kernel_rfl, by intro p hp; simp only [List.mem_cons, List.not_mem_nil, or_false] at hp; rcases hp with rfl | rfl | rfl <;> first | rfl | exact ⟨rfl, .inl rfl, .inl rfl⟩ | exact ⟨rfl, .inl rfl, .inr rfl⟩, by kernel_rfl, by intro p hp; simp only [List.mem_cons, List.not_mem_nil, or_false] at hp; rcases hp with rfl | rfl | rfl <;> first | rfl | exact ⟨rfl, .inl rfl, .inl rfl⟩ | exact ⟨rfl, .inl rfl, .inr rfl⟩, by decide +kernel⟩ rfl (pi_range1 (by rfl) T.range (pa_cons pe_int pa_nil)) (fun _ _ _ _ => pts_nil) (fun _ _ _ _ => (pe_op op_mod (pe_op op_add (pe_op op_mul (pe_op op_mul (pv 2) (pe_op op_add (pv 3) pe_int)) (pe_op op_add (pv 0) pe_int)) (pe_op op_mod (pv 1) pe_int)) pe_int))) pa_nil)))))
      (pss_one (ps_ret (pv 5)))))))), ?_⟩
    refine ⟨_, rfl, a, ns, 0, rfl, hq, by omega, fun v v0 => ⟨_, _, rfl, rfl, ⟨by decide, by decide⟩, ?_⟩⟩
    refine ⟨_, rfl, _, rfl, _, _, rfl, rfl, m0, _, _, rfl, rfl, ?_⟩
    refine ⟨_, rfl, _, rfl, _, _, rfl, rfl, ⟨m0, by omega⟩, _, _, rfl, rfl, (by show (0 : Int) < 65521; decide), _, _, rfl, rfl, ?_⟩
    refine ⟨by decide, fun l hl => ?_⟩
    show tSeq _ _ _ [some (V.ref a), some (.int most), some (.int (v / 2)), some (.int (2 + v / 2 % most)), some (.int (1 + v / 2 / most % 65521)), some (.ref l), none] (upd H l (.lst []))
    have q1 := Int.emod_nonneg (v / 2) (show most ≠ 0 by omega)
    have q2 := Int.emod_lt_of_pos (v / 2) m0
    have f1 := Int.emod_nonneg (v / 2 / most) (show (65521 : Int) ≠ 0 by decide)
    have f2 := Int.emod_lt_of_pos (v / 2 / most) (show (0 : Int) < 65521 by decide)
    have f3 : 0 ≤ 1 + v / 2 / most % 65521 ∧ 1 + v / 2 / most % 65521 ≤ 65521 := ⟨by omega, by omega⟩
    generalize 1 + v / 2 / most % 65521 = fa at f3 ⊢
    have hmn : 2 ≤ 2 + v / 2 % most ∧ 2 + v / 2 % most ≤ 1 + most := ⟨by omega, by omega⟩
    generalize 2 + v / 2 % most = mn at hmn ⊢
    refine ⟨_, rfl, mn, rfl, by omega, by omega, ?_⟩
    refine for_range (lo := 0) (n := mn.toNat) (fun i σ H2 => ∃ (v6 : Option V) (as : List Addr) (rs : List (List Int)), σ = [some (.ref a), some (.int most), some (.int (v / 2)), some (.int mn), some (.int fa), some (.ref l), v6] ∧ H2 l = some (.lst (as.map V.ref)) ∧ Rows H2 as rs ∧ rs.length = i ∧ Same H H2)
      ⟨_, [], [], rfl, upd_same, .nil, rfl, same_new hl⟩ ?_ ?_
    · rintro i σ H2 hi ⟨v6, as, rs, rfl, h2, R2, hrs, s2⟩
      have la := paired_len R2
      refine ⟨_, rfl, .inl ⟨rfl, _, SqL.of h2⟩, 16, rfl, by decide, by decide, ?_⟩
      refine comp_range0 (lo := 0) (n := (16 : Int).toNat) (fun j ys H3 => ∃ xs : List Int, ys = xs.map V.int ∧ xs.length = j ∧ H3 = H2) ⟨[], rfl, rfl, rfl⟩ ?_ ?_
      · rintro j ys H3 hj ⟨xs, rfl, hx, rfl⟩
        refine ⟨_, rfl, _, rfl, _, _, rfl, rfl, _, _, rfl, rfl, .inl ⟨by omega, by omega⟩, _, rfl, _, _, rfl, rfl, _, _, rfl, rfl, .inr ⟨by omega, by omega⟩, _, rfl, _, _, rfl, rfl, (by show (0 : Int) < 17; decide), _, _, rfl, rfl, _, _, rfl, rfl, (by show (0 : Int) < 65536; decide), ?_, ?_⟩
        · rw [List.length_map]; omega
        · exact ⟨xs ++ [_], by rw [List.map_append]; rfl, by rw [List.length_append, hx]; rfl, rfl⟩
      · rintro ys H3 ⟨xs, rfl, hx, rfl⟩ r hr0
        have sr := same_new (X := .lst (xs.map V.int)) hr0
        have h3 := sr _ _ h2
        refine ⟨l, _, _, rfl, rfl, h3, by rw [List.length_map]; omega, ?_⟩
        have rl : r ≠ l := Ne.symm (ne_of_none h2 hr0)
        refine ⟨_, as ++ [r], rs ++ [xs], rfl, by rw [upd_same, List.map_append]; rfl, ?_, by rw [List.length_append, hrs]; rfl, same_wr (s2.trans sr) hl⟩
        have nl : ∀ b ms, RowAt (upd H3 r (.lst (xs.map V.int))) b ms → b ≠ l := fun b ms q z => by
          have q1 := q.1
          rw [z, h3] at q1
          have q2 := Option.some.inj q1
          injection q2 with q2
          cases as with
          | nil =>
            have : ms.length = 0 := by
              have := congrArg List.length q2
              simpa using this.symm
            have := q.2
            omega
          | cons c t =>
            cases ms with
            | nil => cases q2
            | cons m u => injection (show V.ref c :: t.map V.ref = V.int m :: u.map V.int from q2) with z1 _; cases z1
        have o : Off (· = l) (upd H3 r (.lst (xs.map V.int))) (upd (upd H3 r (.lst (xs.map V.int))) l (.lst (as.map V.ref ++ [V.ref r]))) := fun b u e hb => by rw [upd_ne hb]; exact e
        exact paired_snoc ⟨by rw [upd_ne rl, upd_same], hx⟩ ((R2.same sr).off o nl)
    · rintro σ H2 ⟨v6, as, rs, rfl, h2, R2, hrs, s2⟩
      exact ⟨_, rfl, k H2 l as rs s2 hl h2 R2 (by omega) (by omega)⟩
theorem scDi : FnScope ["_law_rows_here", "_law_disk_here", "_law_block", "_law_row"] ["_law_rows_here"] (defScope sDisk) := ⟨rfl, rfl, rfl, by decide +kernel, rfl, by decide +kernel, by decide +kernel⟩
set_option maxHeartbeats 4000000 in
theorem ok_disk {f C CN CF fI fW : Addr} {fd dI dW : FuncData} (F : Fun K "_law_disk" "_law_disk" sDisk f fd) (T : MTxt mg) (TC : Txt K mg C) (mgC : mg "Disk" = some (.ref C)) (MK : Mk K C fI)
    (GI : FnOk P w K mg base CX0 1 fI dI ["self", "many"] (spInit C)) (bI : Binds K dI ["self", "many"] [])
    (GW : FnOk P w K mg base (CXO P w) 2 fW dW ["self", "n", "numbers"] (spWrite K C CN CF)) (bW : Binds K dW ["self", "n", "numbers"] []) (mW : Meth K C "write" fW) : FnOk P w K mg base CX0 3 f fd ["_law_rows_here"] (spDisk C) := by
  refine F.ok scDi (fun vs H Q E h => ?_) (fun cdv A outer s H vs Q E hr h => ?_)
  · obtain ⟨l, as, rs, rfl, _⟩ := h
    rfl
  · obtain ⟨l, as, rs, rfl, hl, R, n1, n2, k⟩ := h
    have la := paired_len R
    have nWrite : ∀ {bl : Addr} {d : Int}, (flds bl d .non false).lookup ("write" : Str) = none := flds_no _ _ _ _ (by decide +kernel) (by decide +kernel) (by decide +kernel) (by decide +kernel)
    refine ⟨_, (pss_cons (ps_set (i := 1) scDi.nd rfl (Or.inl rfl) (pe_make MK GI (hr.mono (by decide)) (by rfl) mgC bI .nil pass0 (pa_cons (pe_op op_add pe_int (pe_callB call_len_seq (by rfl) T.len PySem.boot_len (pa_cons (pv 0) pa_nil))) pa_nil)))
      (pss_cons (ps_for PassesOwn.never rfl (pi_enum (by rfl) T.enumerate (pa_cons (pv 0) pa_nil)) (pg_tup rfl (pgs_cons (pg_name (i := 2) scDi.nd rfl (Or.inl rfl)) (pgs_cons (pg_name (i := 3) scDi.nd rfl (Or.inl rfl)) pgs_nil))) (pss_one (ps_if (pt_cmpR (op_neL hr.units0) (pv 3) (pe_op op_rep (pe_lst (pa_cons pe_int pa_nil)) pe_int) (nomark _)) (pss_one (ps_expr (pe_meth (pv 1) TC.cl mW GW (hr.mono (by decide)) bW .nil pass1 (pa_cons (pe_op op_add pe_int (pv 2)) (pa_cons (pe_callTy call_list_of (by rfl) T.list bt_list (pa_cons (pv 3) pa_nil)) pa_nil))))) pss_nil)))
      (pss_one (ps_ret (pv 1))))), ?_⟩
    refine ⟨_, rfl, l, _, rfl, .inl (SqL.of hl), _, _, rfl, rfl, fun p dx np ndx ne0 => ⟨p, dx, 28 + rs.length, by rw [List.length_map, la]; rfl, by omega, upd_same, fun bl cs H1 hbl D1 off => ⟨rfl, ?_⟩⟩⟩
    have s0 : Same H (upd (upd H dx (.own p)) p (.ins C dx [])) := fun b u e => by rw [upd_ne (ne_of_none e np), upd_ne (ne_of_none e ndx)]; exact e
    have s1 : Same H H1 := fun b u e => off b u (s0 _ _ e) (ne_of_none e np)
    have nbl : H bl = none := s0.free hbl
    clear off hbl ndx ne0 s0
    have wr : ∀ {H2 H3 : Hp}, Same H H2 → Off (Wr p bl) H2 H3 → Same H H3 := fun s o b u e => o _ _ (s _ _ e) fun z => z.elim (ne_of_none e np) (ne_of_none e nbl)
    refine ⟨_, rfl, l, rfl, ⟨_, SqL.of (s1 _ _ hl)⟩, ?_⟩
    refine for_enum (K := K) (a := l) (xs := as.map V.ref) (fun i σ H2 => ∃ (v2 v3 : Option V) (d : Int) (cs : List Addr) (bs : List (List Int)), σ = [some (.ref l), some (.ref p), v2, v3] ∧ DiskAt C H2 p bl d .non false cs bs ∧ bs.length = 28 + rs.length ∧
      (∀ j : Nat, j < i → bs[28 + j]? = rs[j]?) ∧ bs[0]? = some zs16 ∧ (∀ j : Nat, i ≤ j → j < rs.length → bs[28 + j]? = some zs16) ∧ Same H H2) ⟨_, _, 0, cs, _, rfl, D1, List.length_replicate, fun j hj => absurd hj (by omega), ?_, fun j _ hj => ?_, s1⟩ (fun i σ H2 _ ⟨_, _, _, _, _, _, _, _, _, _, _, s2⟩ => SqL.of (s2 _ _ hl)) ?_ ?_
    · rw [List.getElem?_replicate, if_pos (by omega)]; rfl
    · rw [List.getElem?_replicate, if_pos (by omega)]; rfl
    · rintro i x σ H2 Tt hx hTt ⟨v2, v3, d2, cs2, bs2, rfl, D2, hb2, ha, h0, hz, s2⟩
      rw [List.getElem?_map] at hx
      obtain ⟨r, hr1, rfl⟩ := Option.map_eq_some_iff.mp hx
      have hi : i < as.length := (List.getElem?_eq_some_iff.mp hr1).1
      have hir : i < rs.length := by omega
      obtain ⟨r', hr2, rr⟩ := paired_get R (List.getElem?_eq_getElem hir)
      rw [hr1] at hr2
      cases hr2
      have sT := same_new (X := .tup [.int i, .ref r]) hTt
      have hs : sizeLine = 16777216 := sizeLine_eq
      refine ⟨Tt, [.int i, .ref r], rfl, SqT.of upd_same, rfl, .int i, [.ref r], rfl, .ref r, [], rfl, rfl, ?_⟩
      refine ⟨_, rfl, by decide, fun z1 hz1 => ⟨z1, 16, _, rfl, rfl, upd_same, by omega, by omega, by rw [List.length_singleton]; omega, fun z2 hz2 => ?_⟩⟩
      rw [rep1 (V.int 0)]
      have sz := (same_new (X := .lst [V.int 0]) hz1).trans (same_new (X := .lst (List.replicate ((16 : Int)).toNat (V.int 0))) hz2)
      have ez : (upd (upd (upd H2 Tt (.tup [.int i, .ref r])) z1 (.lst [V.int 0])) z2 (.lst (List.replicate ((16 : Int)).toNat (V.int 0)))) z2 = some (.lst (zs16.map V.int)) := by rw [upd_same]; unfold zs16; rw [List.map_replicate]; rfl
      have st := sT.trans sz
      generalize upd (upd (upd H2 Tt (.tup [.int i, .ref r])) z1 (.lst [V.int 0])) z2 (.lst (List.replicate ((16 : Int)).toNat (V.int 0))) = H3 at *
      have D3 := D2.same st
      obtain ⟨dx3, h3⟩ := id D3.ob
      have rr3 := st _ _ (s2 _ _ rr.1)
      have S3 := s2.trans st
      refine ⟨r, z2, _, _, rfl, rfl, SqL.of rr3, SqL.of ez, flat_ints _, flat_ints _, _, rfl, ?_⟩
      rw [eqLV_ints]
      refine ite2 (fun c => ?_) (fun c => ?_)
      · refine ⟨_, rfl, p, dx3, _, rfl, h3, nWrite, _, rfl, _, _, rfl, rfl, _, rfl, r, _, rfl, .inl (SqL.of rr3), fun lr hlr => ?_⟩
        have s4 := same_new (X := .lst ((rs[i]).map V.int)) hlr
        refine ⟨p, bl, lr, d2, .non, false, cs2, bs2, 28 + (i : Int), rs[i], rfl, D3.same s4, .inl rfl, small_log (by omega) (by omega), SqL.of upd_same, rr.2, fun z => ?_, fun _ z => ?_, fun _ _ _ H5 cs5 D5 _ o5 => ?_⟩
        · rcases z with z | z <;> omega
        · rcases z with z | z <;> cases z
        rw [show lessU V.non = V.non from rfl, show (28 + (i : Int)).toNat = 28 + i by omega] at D5
        refine ⟨_, _, d2 + 1, cs5, _, rfl, D5, by rw [List.length_set]; exact hb2, fun j hj => ?_, by rw [List.getElem?_set_ne (by omega)]; exact h0, fun j hj1 hj2 => by rw [List.getElem?_set_ne (by omega)]; exact hz j (by omega) hj2, wr (S3.trans s4) o5⟩
        by_cases e : j = i
        · subst e
          rw [List.getElem?_set_self (by omega), List.getElem?_eq_getElem hir]
        · rw [List.getElem?_set_ne (by omega)]
          exact ha j (by omega)
      · have e : rs[i] = zs16 := by simpa using c
        refine ⟨_, _, d2, cs2, bs2, rfl, D3, hb2, fun j hj => ?_, h0, fun j hj1 hj2 => hz j (by omega) hj2, S3⟩
        by_cases ej : j = i
        · subst ej
          rw [hz j (by omega) hir, List.getElem?_eq_getElem hir, e]
        · exact ha j (by omega)
    · rintro σ H2 ⟨v2, v3, d2, cs2, bs2, rfl, D2, hb2, ha, h0, _, s2⟩
      rw [List.length_map] at ha
      refine ⟨_, rfl, k H2 p bl d2 cs2 bs2 s2 np nbl D2 hb2 (List.ext_getElem? fun j => ?_) h0⟩
      rw [List.getElem?_drop]
      by_cases hj : j < rs.length
      · exact ha j (by omega)
      · rw [List.getElem?_eq_none (by omega), List.getElem?_eq_none (by omega)]
end
end Dk

namespace Dk
open PySem L2
/-- the invariant of the drawing of changes -/
structure Drawn (H0 H : Hp) (ll a : Addr) (lf : List Int) (L : Chg) (n i : Nat) : Prop where
  hl : H ll = some (.lst (lf.map V.int))
  hn : lf.length + i = n
  nd : lf.Nodup
  rg : ∀ b ∈ lf, 0 ≤ b ∧ b < n
  hd : H a = some (.dK (kvC L))
  hr : ∀ x ∈ L, RowAt H x.2.1 x.2.2
  kd : (L.map (·.1)).Nodup
  kr : ∀ x ∈ L, 28 ≤ x.1 ∧ x.1 < ((28 + n : Nat) : Int)
  ln : L.length = i
  df : ∀ b ∈ lf, look L (28 + b) = none
  fr : ∀ x ∈ L, H0 x.2.1 = none
  nl : ∀ x ∈ L, x.2.1 ≠ ll
  s : Same H0 H
theorem range_nodup (n : Nat) : ((List.range n).map fun i : Nat => (i : Int)).Nodup :=
  List.pairwise_map.mpr (List.nodup_range.imp fun h e => h (Int.ofNat.inj e))
theorem erase_map {α β : Type} (f : α → β) : ∀ (l : List α) (k : Nat), (l.map f).eraseIdx k = (l.eraseIdx k).map f
  | [], _ => rfl
  | _ :: _, 0 => rfl
  | x :: l, k + 1 => congrArg (f x :: ·) (erase_map f l k)
theorem erase_nodup : ∀ {l : List Int} {k : Nat} (h : k < l.length) (nd : l.Nodup), ¬ l[k] ∈ l.eraseIdx k ∧ (l.eraseIdx k).Nodup
  | [], _, h, _ => absurd h (Nat.not_lt_zero _)
  | x :: l, 0, _, nd => List.nodup_cons.mp nd
  | x :: l, k + 1, h, nd => by
    obtain ⟨n1, n2⟩ := List.nodup_cons.mp nd
    have hk : k < l.length := Nat.lt_of_succ_lt_succ h
    obtain ⟨q1, q2⟩ := erase_nodup hk n2
    show ¬ l[k] ∈ x :: l.eraseIdx k ∧ (x :: l.eraseIdx k).Nodup
    refine ⟨fun m => ?_, List.nodup_cons.mpr ⟨fun m => n1 (List.mem_of_mem_eraseIdx m), q2⟩⟩
    rcases List.mem_cons.mp m with e | m
    · exact n1 (e ▸ List.getElem_mem hk)
    · exact q1 m
section
variable {P : Program} {w : World} {K : PySem.W.Frag} {mg : Str → Option Value} {base : Heap}
theorem scCh : FnScope ["_law_number", "_law_rows_here", "_law_left", "_law_many", "_law_changes_here", "_law_turn", "_law_block"] ["_law_number", "_law_rows_here"] (defScope sChanges) := ⟨rfl, rfl, rfl, by decide +kernel, rfl, by decide +kernel, by decide +kernel⟩
set_option maxHeartbeats 4000000 in
theorem ok_changes {f fNu : Addr} {fd dNu : FuncData} (F : Fun K "_law_changes" "_law_changes" sChanges f fd) (T : MTxt mg)
    (GNu : FnOk P w K mg base CX0 1 fNu dNu ["_law_number"] spNumbers) (DNu : Def K mg "_law_numbers" fNu dNu ["_law_number"]) : FnOk P w K mg base CX0 2 f fd ["_law_number", "_law_rows_here"] spChanges := by
  refine F.ok scCh (fun vs H Q E h => ?_) (fun cdv A outer s H vs Q E hr h => ?_)
  · obtain ⟨v, l, as, rfl, _⟩ := h
    rfl
  · obtain ⟨v, l, as, rfl, hl, n1, n2, k⟩ := h
    have hs : sizeLine = 16777216 := sizeLine_eq
    refine ⟨_, (pss_cons (ps_set (i := 2) scCh.nd rfl (Or.inl rfl) (pe_callTy (call_list_rng rfl) (by rfl) T.list bt_list (pa_cons (pe_callTy call_rng1 (by rfl) T.range bt_range (pa_cons (pe_callB call_len_seq (by rfl) T.len PySem.boot_len (pa_cons (pv 1) pa_nil)) pa_nil)) pa_nil)))
      (pss_cons (ps_set (i := 3) scCh.nd rfl (Or.inl rfl) (pe_op op_add pe_int (pe_op op_mod (pv 0) (pe_callB (call_min2 rfl) (by rfl) T.min bt_min (pa_cons pe_int (pa_cons (pe_callB call_len_seq (by rfl) T.len PySem.boot_len (pa_cons (pv 2) pa_nil)) pa_nil))))))
      (pss_cons (ps_if (pt_cmpR op_eq (pe_op op_mod (pe_op op_fdiv (pv 0) pe_int) pe_int) pe_int (nomark _)) (pss_one (ps_set (i := 3) scCh.nd rfl (Or.inl rfl) (pe_op op_add pe_int (pe_op op_mod (pe_op op_fdiv (pv 0) pe_int) (pe_callB (call_min2 rfl) (by rfl) T.min bt_min (pa_cons pe_int (pa_cons (pe_callB call_len_seq (by rfl) T.len PySem.boot_len (pa_cons (pv 2) pa_nil)) pa_nil))))))) pss_nil)
      (pss_cons (ps_set (i := 0) scCh.nd rfl (Or.inl rfl) (pe_op op_fdiv (pv 0) pe_int))
      (pss_cons (ps_set (i := 4) scCh.nd rfl (Or.inl rfl) pe_dnewK)
      (pss_cons (ps_for PassesOwn.never rfl (pi_range1 (by rfl) T.range (pa_cons (pv 3) pa_nil)) (pg_name (i := 5) scCh.nd rfl (Or.inl rfl)) (pss_cons (ps_set (i := 6) scCh.nd rfl (Or.inl rfl) (pe_bm PySem.F.plainAttrs_list PySem.F.slot_list_pop PySem.F.type_list_pop mt_popAt (pv 2) (pa_cons (pe_op op_mod (pv 0) (pe_callB call_len_seq (by rfl) T.len PySem.boot_len (pa_cons (pv 2) pa_nil))) pa_nil)))
      (pss_cons (ps_set (i := 0) scCh.nd rfl (Or.inl rfl) (pe_op op_fdiv (pv 0) (pe_op op_add (pe_callB call_len_seq (by rfl) T.len PySem.boot_len (pa_cons (pv 2) pa_nil)) pe_int)))
      (pss_one (ps_dput (hu_of hr) (pv 4) (pe_op op_add pe_int (pv 6)) (pe_call GNu (hr.mono (by decide)) (by rfl) DNu.mg DNu.kp DNu.b .nil pass0 (pa_cons (pe_op op_add (pe_op op_add (pv 0) (pe_op op_mul (pe_op op_mul pe_int (pv 5)) (pv 5))) (pe_op op_mul pe_int (pv 5))) pa_nil)) rfl)))))
      (pss_one (ps_ret (pv 4))))))))), ?_⟩
    refine ⟨_, rfl, l, _, rfl, .inl (SqL.of hl), _, rfl, fun q hq => ⟨q, as.length, rfl, by rw [upd_same, List.length_map], by omega, fun ll hll => ?_⟩⟩
    have s1 : Same H (upd (upd H q (.rng 0 ((as.map V.ref).length : Nat))) ll (.lst ((List.range as.length).map fun i : Nat => V.int i))) := (same_new hq).trans (same_new hll)
    have nll : H ll = none := (same_new hq).free hll
    have h1 : (upd (upd H q (.rng 0 ((as.map V.ref).length : Nat))) ll (.lst ((List.range as.length).map fun i : Nat => V.int i))) ll = some (.lst (((List.range as.length).map fun i : Nat => (i : Int)).map V.int)) := by rw [upd_same, List.map_map]; rfl
    show tSeq _ _ _ [some (.int v), some (.ref l), some (.ref ll), none, none, none, none] _
    generalize upd (upd H q (.rng 0 ((as.map V.ref).length : Nat))) ll (.lst ((List.range as.length).map fun i : Nat => V.int i)) = H1 at s1 h1 ⊢
    clear hq hll
    have le : ((((List.range as.length).map fun i : Nat => (i : Int)).map V.int).length : Int) = as.length := by rw [List.length_map, List.length_map, List.length_range]
    have hm24 : 0 < (if (as.length : Int) < 24 then (as.length : Int) else 24) ∧ (if (as.length : Int) < 24 then (as.length : Int) else 24) ≤ as.length ∧ (if (as.length : Int) < 24 then (as.length : Int) else 24) ≤ 24 := by split <;> omega
    have hm3 : 0 < (if (as.length : Int) < 3 then (as.length : Int) else 3) ∧ (if (as.length : Int) < 3 then (as.length : Int) else 3) ≤ as.length ∧ (if (as.length : Int) < 3 then (as.length : Int) else 3) ≤ 24 := by split <;> omega
    refine ⟨_, rfl, _, rfl, ll, _, rfl, .inl (SqL.of h1), 24, _, rfl, ?_⟩
    rw [le]
    generalize (if (as.length : Int) < 24 then (as.length : Int) else 24) = m24 at hm24 ⊢
    refine ⟨_, _, rfl, rfl, hm24.1, _, _, rfl, rfl, ?_⟩
    refine ⟨_, rfl, _, _, rfl, rfl, ⟨by decide, by decide⟩, _, _, rfl, rfl, (by show (0 : Int) < 3; decide), rfl, _, rfl, ?_⟩
    have main : ∀ mn : Int, 1 ≤ mn → mn ≤ as.length → mn ≤ 24 → True := fun _ _ _ _ => trivial
    refine ite2 (fun c => ?A) (fun c => ?B)
    case' A =>
      refine ⟨_, rfl, _, _, rfl, rfl, ⟨by decide, by decide⟩, _, rfl, ll, _, rfl, .inl (SqL.of h1), 3, _, rfl, ?_⟩
      rw [le]
      generalize (if (as.length : Int) < 3 then (as.length : Int) else 3) = m3 at hm3 ⊢
      refine ⟨_, _, rfl, rfl, hm3.1, _, _, rfl, rfl, ?_⟩
      show tSeq _ _ _ [some (.int v), some (.ref l), some (.ref ll), some (.int (1 + v / 72 % m3)), none, none, none] _
      have hmn : 1 ≤ 1 + v / 72 % m3 ∧ 1 + v / 72 % m3 ≤ as.length ∧ 1 + v / 72 % m3 ≤ 24 := by
        have := Int.emod_nonneg (v / 72) (show m3 ≠ 0 by omega)
        have := Int.emod_lt_of_pos (v / 72) hm3.1
        omega
      generalize 1 + v / 72 % m3 = mn at hmn ⊢
    case' B =>
      show tSeq _ _ _ [some (.int v), some (.ref l), some (.ref ll), some (.int (1 + v % m24)), none, none, none] _
      have hmn : 1 ≤ 1 + v % m24 ∧ 1 + v % m24 ≤ as.length ∧ 1 + v % m24 ≤ 24 := by
        have := Int.emod_nonneg v (show m24 ≠ 0 by omega)
        have := Int.emod_lt_of_pos v hm24.1
        omega
      generalize 1 + v % m24 = mn at hmn ⊢
    all_goals
      refine ⟨_, rfl, _, _, rfl, rfl, ⟨by decide, by decide⟩, fun a ha => ?_⟩
      have na : H a = none := s1.free ha
      refine ⟨_, rfl, mn, rfl, by omega, by omega, ?_⟩
      refine for_range (lo := 0) (n := mn.toNat) (fun i σ H2 => ∃ (u : Int) (v5 v6 : Option V) (lf : List Int) (L : Chg), σ = [some (.int u), some (.ref l), some (.ref ll), some (.int mn), some (.ref a), v5, v6] ∧ Drawn H H2 ll a lf L as.length i)
        ⟨_, _, _, _, [], rfl, (same_new ha) _ _ h1, ?_, range_nodup _, ?_, upd_same, (fun _ h => nomatch h), List.nodup_nil, (fun _ h => nomatch h), rfl, (fun _ _ => rfl), (fun _ h => nomatch h), (fun _ h => nomatch h), s1.trans (same_new ha)⟩ ?_ ?_
      · rw [List.length_map, List.length_range]; omega
      · intro b hb
        obtain ⟨j, hj, rfl⟩ := List.mem_map.mp hb
        have := List.mem_range.mp hj
        omega
      · rintro i σ H2 hi ⟨u, v5, v6, lf, L, rfl, d⟩
        have dn := d.hn
        have lp : 0 < lf.length := by omega
        have el : ((lf.map V.int).length : Int) = lf.length := by rw [List.length_map]
        have q0 := Int.emod_nonneg u (show (lf.length : Int) ≠ 0 by omega)
        have q1 := Int.emod_lt_of_pos u (show (0 : Int) < lf.length by omega)
        obtain ⟨kx, ek⟩ : ∃ kx : Nat, u % (lf.length : Int) = kx := ⟨(u % (lf.length : Int)).toNat, by omega⟩
        have hk : kx < lf.length := by omega
        obtain ⟨e1, e2⟩ := erase_nodup hk d.nd
        have mb : lf[kx] ∈ lf := List.getElem_mem hk
        have rb := d.rg _ mb
        refine ⟨_, rfl, .inl ⟨rfl, _, SqL.of d.hl⟩, _, rfl, _, rfl, ll, _, rfl, .inl (SqL.of d.hl), _, _, rfl, rfl, by rw [el]; omega, ll, _, _, kx, .int lf[kx], rfl, rfl, d.hl, ?_, ?_, ?_, ?_, ?_⟩
        · rw [el, ek]; omega
        · rw [el, ek]; omega
        · rw [el, ek, List.length_map]; exact PySem.StrLaws.seqIndex_nonneg (by omega) (by omega)
        · rw [List.getElem?_map, List.getElem?_eq_getElem hk]; rfl
        have h3 : (upd H2 ll (.lst ((lf.map V.int).eraseIdx kx))) ll = some (.lst ((lf.eraseIdx kx).map V.int)) := by rw [upd_same, erase_map]
        have l3 : (lf.eraseIdx kx).length + 1 = lf.length := by rw [List.length_eraseIdx_of_lt hk]; omega
        have nal : a ≠ ll := dk_lst d.hd d.hl
        have r3 : ∀ x ∈ L, RowAt (upd H2 ll (.lst ((lf.map V.int).eraseIdx kx))) x.2.1 x.2.2 := fun x hx => ⟨by rw [upd_ne (d.nl x hx)]; exact (d.hr x hx).1, (d.hr x hx).2⟩
        have hd3 : (upd H2 ll (.lst ((lf.map V.int).eraseIdx kx))) a = some (.dK (kvC L)) := by rw [upd_ne nal]; exact d.hd
        have s3 : Same H (upd H2 ll (.lst ((lf.map V.int).eraseIdx kx))) := same_wr d.s nll
        show tSeq _ _ _ [some (.int u), some (.ref l), some (.ref ll), some (.int mn), some (.ref a), some (.int (0 + i)), some (.int lf[kx])] _
        generalize upd H2 ll (.lst ((lf.map V.int).eraseIdx kx)) = H3 at h3 hd3 s3 r3 ⊢
        refine ⟨_, rfl, _, rfl, ll, _, rfl, .inl (SqL.of h3), _, _, rfl, rfl, _, _, rfl, rfl, ⟨by omega, by rw [List.length_map]; omega⟩, ?_⟩
        refine ⟨_, rfl, _, rfl, _, _, rfl, rfl, .inl ⟨by decide, by decide⟩, _, rfl, _, _, rfl, rfl, .inr ⟨by omega, by omega⟩, _, _, rfl, rfl, _, rfl, _, _, rfl, rfl, .inl ⟨by decide, by decide⟩, _, _, rfl, rfl, _, rfl, fun H4 r xs s4 nr rr => ?_⟩
        refine ⟨_, rfl, _, rfl, _, _, rfl, rfl, a, _, rfl, DPut.k (k := Sum.inl (28 + lf[kx])) (s4 _ _ hd3) (by unfold kvC dk; rw [List.length_map, d.ln]; omega), ?_⟩
        have hlk := d.df _ mb
        have hd4 := s4 _ _ hd3
        have ra : r ≠ a := Ne.symm (ne_of_none hd3 nr)
        have rl : r ≠ ll := Ne.symm (ne_of_none h3 nr)
        have na4 : ∀ b ms, RowAt H4 b ms → b ≠ a := fun b ms q => Ne.symm (dk_lst hd4 q.1)
        rw [show putK (kvC L) (Sum.inl (28 + lf[kx])) (V.ref r) = kvC (L ++ [(28 + lf[kx], r, xs)]) from putK_new' (f := fC) (a := (r, xs)) hlk]
        refine ⟨_, _, _, lf.eraseIdx kx, L ++ [(28 + lf[kx], r, xs)], rfl, ⟨by rw [upd_ne (Ne.symm nal)]; exact s4 _ _ h3, by omega, e2, fun b hb => d.rg b (List.mem_of_mem_eraseIdx hb), upd_same, fun x hx => ?_, ?_, fun x hx => ?_, by rw [List.length_append, d.ln]; rfl, fun b hb => ?_, fun x hx => ?_, fun x hx => ?_, same_wr (s3.trans s4) na⟩⟩
        · rcases List.mem_append.mp hx with m | m
          · have q : RowAt H4 x.2.1 x.2.2 := ⟨s4 _ _ (r3 x m).1, (r3 x m).2⟩
            exact ⟨by rw [upd_ne (na4 _ _ q)]; exact q.1, q.2⟩
          · obtain rfl := List.mem_singleton.mp m
            exact ⟨by rw [upd_ne ra]; exact rr.1, rr.2⟩
        · rw [List.map_append]
          refine List.nodup_append.mpr ⟨d.kd, (by simp), fun p hp p2 hp2 z => ?_⟩
          obtain rfl : p2 = 28 + lf[kx] := by simpa using hp2
          rw [z] at hp
          exact look_none hlk hp
        · rcases List.mem_append.mp hx with m | m
          · exact d.kr x m
          · obtain rfl := List.mem_singleton.mp m
            exact ⟨by show 28 ≤ 28 + lf[kx]; omega, by show 28 + lf[kx] < _; omega⟩
        · rw [look_snoc _ hlk, if_neg (fun z => e1 ?_)]
          · exact d.df b (List.mem_of_mem_eraseIdx hb)
          · have : b = lf[kx] := by omega
            rw [← this]; exact hb
        · rcases List.mem_append.mp hx with m | m
          · exact d.fr x m
          · obtain rfl := List.mem_singleton.mp m
            exact s3.free nr
        · rcases List.mem_append.mp hx with m | m
          · exact d.nl x m
          · obtain rfl := List.mem_singleton.mp m
            exact rl
      · rintro σ H2 ⟨u, v5, v6, lf, L, rfl, d⟩
        exact ⟨_, rfl, k H2 a L d.s na ⟨d.hd, d.hr, d.kd, d.kr, by have := d.ln; omega, by have := d.ln; omega⟩ d.fr⟩
end
end Dk

namespace Dk
open PySem L2
abbrev sChanged : Stmt := top 24
abbrev sHanded : Stmt := top 25
def spChanged (K : PySem.W.Frag) : Sp := fun vs H Q _ => ∃ (l a : Addr) (as : List Addr) (L : Chg), vs = [.ref l, .ref a] ∧ H l = some (.lst (as.map V.ref)) ∧ H a = some (.dK (kvC L)) ∧ as.length ≤ 250 ∧
  ∀ (H' : Hp) (l' : Addr) (as' : List Addr), Same H H' → H l' = none → H' l' = some (.lst (as'.map V.ref)) → as'.length = as.length → (∀ j : Nat, j < as.length → as'[j]? = (as[j]?).map fun x => ((look L (28 + (j : Int))).map (·.1)).getD x) → Q (.ref l') H'
def spHanded : Sp := fun vs H Q _ => ∃ (a : Addr) (L : Chg) (len : Nat), vs = [.ref a] ∧ ChgAt H a L len ∧
  ∀ (H' : Hp) (a' : Addr) (L' : Chg), Same H H' → H a' = none → ChgAt H' a' L' len → L'.map (fun x => (x.1, x.2.2)) = L.map (fun x => (x.1, x.2.2)) → (∀ x ∈ L', H x.2.1 = none) → Q (.ref a') H'
theorem pr_imp {α β : Type} {F G : α → β → Prop} (h : ∀ x y, F x y → G x y) : ∀ {xs : List α} {ys : List β}, Paired F xs ys → Paired G xs ys
  | _, _, .nil => .nil
  | _, _, .cons q t => .cons (h _ _ q) (pr_imp h t)
section
variable {P : Program} {w : World} {K : PySem.W.Frag} {mg : Str → Option Value} {base : Heap}
theorem scCd : FnScope ["_law_rows_here", "_law_changes_here"] ["_law_rows_here", "_law_changes_here"] (defScope sChanged) := ⟨rfl, rfl, rfl, by decide +kernel, rfl, by decide +kernel, by decide +kernel⟩
set_option maxHeartbeats 4000000 in
theorem ok_changed {f : Addr} {fd : FuncData} (F : Fun K "_law_changed" "_law_changed" sChanged f fd) (T : MTxt mg) : FnOk P w K mg base CX0 2 f fd ["_law_rows_here", "_law_changes_here"] (spChanged K) := by
  refine F.ok scCd (fun vs H Q E h => ?_) (fun cdv A outer s H vs Q E hr h => ?_)
  · obtain ⟨l, a, as, L, rfl, _⟩ := h
    rfl
  · obtain ⟨l, a, as, L, rfl, hl, ha, n2, k⟩ := h
    have hs : sizeLine = 16777216 := sizeLine_eq
    refine ⟨_, (pss_one (ps_ret (pe_comp2 (t := ("_law_block", "_law_row")) (cl := [("_law_changes_here", s.heap.objs.size + 1)]) (caps := [("_law_changes_here", 1)]) ⟨rfl, by decide +kernel, by decide +kernel, by kernel_rfl, by intro p hp; simp only [List.mem_cons, List.not_mem_nil, or_false] at hp; rcases hp with rfl <;> first | rfl | exact ⟨rfl, .inl rfl, .inl rfl⟩ | exact ⟨rfl, .inl rfl, .inr rfl⟩, by kernel_rfl, by intro p hp; simp only [List.mem_cons, List.not_mem_nil, or_false] at hp; rcases hp with rfl <;> first | rfl | exact ⟨rfl, .inl rfl, .inl rfl⟩ | exact ⟨rfl, .inl rfl, .inr rfl⟩, by decide +kernel⟩ rfl (pi_enum (by rfl) T.enumerate (pa_cons (pv 0) pa_nil)) (fun _ _ _ _ => (show PG _ _ (g2 K) from pg_tup rfl (pgs_cons (pg_name (i := 0) (show (capN2 ("_law_block", "_law_row") [("_law_changes_here", 1)]).Nodup by decide +kernel) rfl (Or.inl (lookup_relabel_local rfl)) (.inr (lookup_relabel_local rfl))) (pgs_cons (pg_name (i := 1) (show (capN2 ("_law_block", "_law_row") [("_law_changes_here", 1)]).Nodup by decide +kernel) rfl (Or.inl (lookup_relabel_local rfl)) (.inr (lookup_relabel_local rfl))) pgs_nil)))) (fun _ _ _ _ => pts_nil) (fun _ _ _ _ => (pe_dget2 (hu_of hr) (pv 2) (pe_op op_add pe_int (pv 0)) (pv 1) ⟨rfl, rfl, rfl, rfl⟩))))), ?_⟩
    refine ⟨_, rfl, l, rfl, ⟨_, SqL.of hl⟩, ?_⟩
    refine comp_enum0 (K := K) (a := l) (xs := as.map V.ref) (fun i zs H2 => ∃ bs : List Addr, zs = bs.map V.ref ∧ bs.length = i ∧ (∀ j : Nat, j < i → bs[j]? = (as[j]?).map fun x => ((look L (28 + (j : Int))).map (·.1)).getD x) ∧ Same H H2) ⟨[], rfl, rfl, fun j hj => absurd hj (by omega), Same.refl H⟩
      (fun i zs H2 _ ⟨_, _, _, _, s2⟩ => SqL.of (s2 _ _ hl)) ?_ ?_
    · rintro i x zs H2 Tt hx hTt ⟨bs, rfl, hb, hj, s2⟩
      rw [List.getElem?_map] at hx
      obtain ⟨r, hr1, rfl⟩ := Option.map_eq_some_iff.mp hx
      have s3 := s2.trans (same_new (X := .tup [.int i, .ref r]) hTt)
      refine ⟨_, rfl, a, rfl, .inl ⟨_, .inl (s3 _ _ ha)⟩, _, rfl, _, _, rfl, rfl, _, rfl, _, DGet.k (k := Sum.inl (28 + (i : Int))) (s3 _ _ ha), by rw [List.length_map]; have := (List.getElem?_eq_some_iff.mp hr1).1; omega, bs ++ [((look L (28 + (i : Int))).map (·.1)).getD r], ?_, by rw [List.length_append, hb]; rfl, fun j hj' => ?_, s3⟩
      · rw [List.map_append]
        congr 1
        show [(valV (dk fC L) (Sum.inl (28 + (i : Int)))).getD (V.ref r)] = _
        rw [valV_dk]
        cases look L (28 + (i : Int)) <;> rfl
      · by_cases e : j = i
        · subst e
          rw [List.getElem?_append_right (by omega), hb, Nat.sub_self, hr1]; rfl
        · rw [List.getElem?_append_left (by omega)]
          exact hj j (by omega)
    · rintro zs H2 ⟨bs, rfl, hb, hj, s2⟩ l' hl'
      rw [List.length_map] at hb hj
      exact k _ l' bs (s2.trans (same_new hl')) (s2.free hl') upd_same hb hj
theorem scHa : FnScope ["_law_changes_here"] ["_law_changes_here"] (defScope sHanded) := ⟨rfl, rfl, rfl, by decide +kernel, rfl, by decide +kernel, by decide +kernel⟩
set_option maxHeartbeats 4000000 in
theorem ok_handed {f : Addr} {fd : FuncData} (F : Fun K "_law_handed" "_law_handed" sHanded f fd) (T : MTxt mg) : FnOk P w K mg base CX0 2 f fd ["_law_changes_here"] spHanded := by
  refine F.ok scHa (fun vs H Q E h => ?_) (fun cdv A outer s H vs Q E hr h => ?_)
  · obtain ⟨a, L, len, rfl, _⟩ := h
    rfl
  · obtain ⟨a, L, len, rfl, c, k⟩ := h
    have hs : sizeLine = 16777216 := sizeLine_eq
    refine ⟨_, (pss_one (ps_ret (pe_callTy (call_dictP rfl) (by rfl) T.dict bt_dict (pa_cons (pe_thaw (pe_comp2 (t := ("_law_block", "_law_row")) (cl := []) (caps := []) ⟨rfl, by decide +kernel, by decide +kernel, by kernel_rfl, by intro p hp; simp at hp, by kernel_rfl, by intro p hp; simp at hp, by decide +kernel⟩ rfl (pi_items (pv 0)) (fun _ _ _ _ => (show PG _ _ (g2 K) from pg_tup rfl (pgs_cons (pg_name (i := 0) (show (capN2 ("_law_block", "_law_row") []).Nodup by decide +kernel) rfl (Or.inl (lookup_relabel_local rfl)) (.inr (lookup_relabel_local rfl))) (pgs_cons (pg_name (i := 1) (show (capN2 ("_law_block", "_law_row") []).Nodup by decide +kernel) rfl (Or.inl (lookup_relabel_local rfl)) (.inr (lookup_relabel_local rfl))) pgs_nil)))) (fun _ _ _ _ => pts_nil) (fun _ _ _ _ => (pe_tup (pa_cons (pv 0) (pa_cons (pe_callTy (show CallR _ _ (rListOf K) from call_listK) (by rfl) T.list bt_list (pa_cons (pv 1) pa_nil)) pa_nil)))))) pa_nil)))), ?_⟩
    have hn : ∀ (o : Obj) u', H a ≠ some (.frz o u') := fun o u' z => by rw [c.hd] at z; cases z
    refine ⟨_, rfl, a, _, rfl, c.hd, hn, fun o => ?_⟩
    have off0 : ∀ b u, H b = some u → b ≠ a → (upd H a (.frz o (.dK (kvC L)))) b = some u := fun b u e nb => by rw [upd_ne nb]; exact e
    have fr0 : ∀ b, (upd H a (.frz o (.dK (kvC L)))) b = none → H b = none := fun b e => by
      by_cases z : b = a
      · rw [z, upd_same] at e; cases e
      · rw [upd_ne z] at e; exact e
    have ha0 : (upd H a (.frz o (.dK (kvC L)))) a = some (.frz o (.dK (kvC L))) := upd_same
    have c2 := c.l2
    show ∃ W : Nat → Nat → List V → Hp → Prop, _
    generalize ef : upd H a (.frz o (.dK (kvC L))) = Hf at off0 fr0 ha0 ⊢
    have r0 : ∀ x ∈ L, RowAt Hf x.2.1 x.2.2 := fun x hx => ⟨off0 _ _ (c.hr x hx).1 (Ne.symm (dk_lst c.hd (c.hr x hx).1)), (c.hr x hx).2⟩
    refine comp_items0 (K := K) (a := a) (o := o) (kvs := kvC L) (fun i zs H2 => ∃ (ts : List Addr) (L' : Chg), zs = ts.map V.ref ∧ L'.length = i ∧ L'.map (fun x => (x.1, x.2.2)) = (L.take i).map (fun x => (x.1, x.2.2)) ∧
      Paired (fun t (p : Key × V) => H2 t = some (.tup [kV p.1, p.2])) ts (kvC L') ∧ (∀ x ∈ L', RowAt H2 x.2.1 x.2.2) ∧ (∀ x ∈ L', H x.2.1 = none) ∧ Same Hf H2)
      ⟨[], [], rfl, rfl, rfl, .nil, (fun _ h => nomatch h), (fun _ h => nomatch h), Same.refl Hf⟩ (fun i zs H2 _ ⟨_, _, _, _, _, _, _, _, s2⟩ => s2 _ _ ha0) ?_ ?_
    · rintro i kk v zs H2 Tt hx hTt ⟨ts, L', rfl, hL, hm, hp, hr2, hf2, s2⟩
      have hx' : (L.map fun x : Int × Addr × List Int => ((Sum.inl x.1 : Key), fC x.2))[i]? = some (kk, v) := hx
      rw [List.getElem?_map] at hx'
      obtain ⟨x, hx1, hx2⟩ := Option.map_eq_some_iff.mp hx'
      cases hx2
      have hi : i < L.length := (List.getElem?_eq_some_iff.mp hx1).1
      have mx : x ∈ L := List.mem_of_getElem? hx1
      have s3 := same_new (X := .tup [kV (Sum.inl x.1), fC x.2]) hTt
      have rx := r0 x mx
      refine ⟨_, rfl, _, rfl, x.2.1, _, rfl, .inl (SqL.of (s3 _ _ (s2 _ _ rx.1))), fun lr hlr => ⟨(by show 2 ≤ sizeLine; decide), fun tp htp => ⟨?_, ts ++ [tp], L' ++ [(x.1, lr, x.2.2)], by rw [List.map_append]; rfl, by rw [List.length_append, hL]; rfl, ?_, ?_, ?_, ?_, ?_⟩⟩⟩
      · rw [List.length_map, Paired.length hp]; show (L'.map _).length < _; rw [List.length_map]; omega
      · rw [List.map_append, hm, List.take_add_one, List.map_append, hx1]; rfl
      · show Paired _ _ ((L' ++ [(x.1, lr, x.2.2)]).map _)
        rw [List.map_append]
        refine paired_snoc ?_ ?_
        · exact upd_same
        · exact pr_imp (fun t p e => (same_new htp) _ _ ((same_new hlr) _ _ (s3 _ _ e))) hp
      · intro y hy
        have S := (s3.trans (same_new (X := .lst (x.2.2.map V.int)) hlr)).trans (same_new (X := .tup [kV (Sum.inl x.1), V.ref lr]) htp)
        rcases List.mem_append.mp hy with m | m
        · exact ⟨S _ _ (hr2 y m).1, (hr2 y m).2⟩
        · obtain rfl := List.mem_singleton.mp m
          exact ⟨(same_new htp) _ _ upd_same, rx.2⟩
      · intro y hy
        rcases List.mem_append.mp hy with m | m
        · exact hf2 y m
        · obtain rfl := List.mem_singleton.mp m
          exact fr0 _ ((s2.trans s3).free hlr)
      · exact ((s2.trans s3).trans (same_new hlr)).trans (same_new htp)
    · rintro zs H2 ⟨ts, L', rfl, hL, hm, hp, hr2, hf2, s2⟩ l hl
      have hkl : (kvC L).length = L.length := List.length_map ..
      rw [hkl] at hL hm
      rw [List.take_length] at hm
      have ek : L'.map (·.1) = L.map (·.1) := by
        have := congrArg (List.map (·.1)) hm
        rw [List.map_map, List.map_map] at this
        exact this
      have sl := same_new (X := .lst (ts.map V.ref)) hl
      have hal := sl _ _ (s2 _ _ ha0)
      have nal : l ≠ a := Ne.symm (ne_of_none (s2 _ _ ha0) hl)
      refine ⟨a, o, _, hal, hn, l, ts, kvC L', rfl, by rw [upd_ne nal, upd_same], ?_, ?_, fun b hb => ?_⟩
      · refine pr_imp (fun t p e => ?_) hp
        have e1 := sl _ _ e
        have : t ≠ a := fun z => by rw [z, hal] at e1; cases e1
        rw [upd_ne this]; exact e1
      · have : (kvC L').map (·.1) = (L'.map (·.1)).map Sum.inl := by unfold kvC dk; rw [List.map_map, List.map_map]; rfl
        rw [this, ek]
        exact List.pairwise_map.mpr (c.nd.imp fun h e => h (Sum.inl.inj e))
      have sT : Same H (upd (upd H2 l (.lst (ts.map V.ref))) a (.dK (kvC L))) := fun p u e => by
        by_cases z : p = a
        · rw [z] at e ⊢; rw [upd_same, ← c.hd, e]
        · rw [upd_ne z]; exact sl _ _ (s2 _ _ (off0 _ _ e z))
      have sb := same_new (X := .dK (kvC L')) hb
      refine k _ b L' (sT.trans sb) (sT.free hb) ⟨upd_same, fun x hx => ?_, by rw [ek]; exact c.nd, fun x hx => ?_, by rw [hL]; exact c.l1, by rw [hL]; exact c.l2⟩ hm hf2
      · have q := hr2 x hx
        have q1 := sl _ _ q.1
        have : x.2.1 ≠ a := fun z => by rw [z, hal] at q1; cases q1
        exact ⟨sb _ _ (by rw [upd_ne this]; exact q1), q.2⟩
      · have : x.1 ∈ L'.map (·.1) := List.mem_map.mpr ⟨x, hx, rfl⟩
        rw [ek] at this
        obtain ⟨y, hy, e⟩ := List.mem_map.mp this
        rw [← e]
        exact c.rg y hy
end
end Dk

namespace Dk
open PySem L2
abbrev sFell : Stmt := top 26
abbrev sMended : Stmt := top 27
def spRowIsG : Sp := fun vs H Q _ => ∃ (a b : Addr) (xs ys : List Int), vs = [.ref a, .ref b] ∧ H a = some (.lst (xs.map V.int)) ∧ H b = some (.lst (ys.map V.int)) ∧ xs.length = ys.length ∧ xs.length ≤ 300 ∧ ∀ H', Same H H' → Q (.bl (decide (xs = ys))) H'
def spRowsAreG : Sp := fun vs H Q _ => ∃ (a b : Addr) (as bs : List Addr) (rs qs : List (List Int)), vs = [.ref a, .ref b] ∧ H a = some (.lst (as.map V.ref)) ∧ H b = some (.lst (bs.map V.ref)) ∧ Rows H as rs ∧ Rows H bs qs ∧ rs.length = qs.length ∧ rs.length ≤ 300 ∧ ∀ H', Same H H' → Q (.bl (decide (rs = qs))) H'
def spCountIsG : Sp := fun vs H Q _ => ∃ (i j : Int), vs = [.int i, .int j] ∧ Q (.bl (decide (i = j))) H
def spFall (C : Addr) : Sp := fun vs H Q _ => ∃ (p bl : Addr) (d : Int) (uf : V) (fa : Bool) (cs : List Addr) (bs : List (List Int)) (a : Int), vs = [.ref p, .int a] ∧ DiskAt C H p bl d uf fa cs bs ∧ ∀ H', DiskAt C H' p bl d (.int a) fa cs bs → Off (· = p) H H' → Q .non H'
def spRise (C : Addr) : Sp := fun vs H Q _ => ∃ (p bl : Addr) (d : Int) (uf : V) (fa : Bool) (cs : List Addr) (bs : List (List Int)), vs = [.ref p] ∧ DiskAt C H p bl d uf fa cs bs ∧ ∀ H', DiskAt C H' p bl d .non false cs bs → Off (· = p) H H' → Q .non H'
theorem paired_drop {α β : Type} {F : α → β → Prop} : ∀ {xs : List α} {ys : List β} (n : Nat), Paired F xs ys → Paired F (xs.drop n) (ys.drop n)
  | _, _, 0, h => h
  | _, _, _ + 1, .nil => .nil
  | _, _, n + 1, .cons _ t => paired_drop n t
theorem cut28g {fs : List Addr} (h : 28 ≤ fs.length) : cutV (fs.map V.ref) (some 28) none = (fs.drop 28).map V.ref := by
  unfold cutV
  rw [List.length_map, show HT.sIx fs.length 0 (some 28) = 28 by unfold HT.sIx; simp; omega, show HT.sIx fs.length fs.length none = fs.length from rfl, ← List.map_drop, ← List.map_take]
  congr 1
  exact List.take_of_length_le (by rw [List.length_drop]; omega)
theorem zip_all {α : Type} [DecidableEq α] : ∀ {xs ys : List α}, xs.length = ys.length → (List.zipWith (fun x y => decide (x = y)) xs ys).all id = decide (xs = ys)
  | [], [], _ => rfl
  | [], _ :: _, h => by simp at h
  | _ :: _, [], h => by simp at h
  | x :: xs, y :: ys, h => by
    have ih := zip_all (xs := xs) (ys := ys) (by simpa using h)
    show (decide (x = y) && (List.zipWith (fun x y => decide (x = y)) xs ys).all id) = _
    rw [ih]
    by_cases e1 : x = y <;> by_cases e2 : xs = ys <;> simp [e1, e2]
theorem take_bl {l : List Bool} {i : Nat} {b : Bool} (h : l[i]? = some b) : (l.take i).map V.bl ++ [V.bl b] = (l.take (i + 1)).map V.bl := by
  rw [List.take_add_one, h, List.map_append]
  rfl
theorem dec_int (v u : Int) : decide (V.int v = V.int u) = decide (v = u) := by
  by_cases e : v = u
  · rw [e, decide_eq_true rfl, decide_eq_true rfl]
  · rw [decide_eq_false e, decide_eq_false fun z => e (V.int.inj z)]
theorem spRecover_mono {C CF : Addr} {vs : List V} {H : Hp} {Q Q' : VK} {E E' : XK} (h : spRecover C CF vs H Q E) (hq : ∀ v H', Q v H' → Q' v H') (he : ∀ H', E (.ref CF) none H' → E' (.ref CF) none H') : spRecover C CF vs H Q' E' := by
  obtain ⟨p, bl, d, uf, cs, bs, N, e, D, hu, l1, l2, k⟩ := h
  refine ⟨p, bl, d, uf, cs, bs, N, e, D, hu, l1, l2, ?_⟩
  rcases k with ⟨cur, c, k⟩ | ⟨old, new, ns, c, kQ, kE⟩
  · exact .inl ⟨cur, c, fun H' s => hq _ _ (k H' s)⟩
  · exact .inr ⟨old, new, ns, c, fun H' cs' bs' a b c d => hq _ _ (kQ H' cs' bs' a b c d), fun H' d' uf' cs' bs' i a b c d e f => he _ (kE H' d' uf' cs' bs' i a b c d e f)⟩
theorem spCommit_mono {C CF : Addr} {vs : List V} {H : Hp} {Q Q' : VK} {E E' : XK} (h : spCommit C CF vs H Q E) (hq : ∀ v H', Q v H' → Q' v H') (he : ∀ H', E (.ref CF) none H' → E' (.ref CF) none H') : spCommit C CF vs H Q' E' := by
  obtain ⟨p, bl, a, d, uf, cs, bs, L, N, cur, e, D, hu, l1, l2, cm, c, kQ, kE⟩ := h
  exact ⟨p, bl, a, d, uf, cs, bs, L, N, cur, e, D, hu, l1, l2, cm, c, fun H' cs' bs' a b c d => hq _ _ (kQ H' cs' bs' a b c d), fun H' d' uf' cs' bs' i a b c d e f => he _ (kE H' d' uf' cs' bs' i a b c d e f)⟩
def spFell (C CF : Addr) : Sp := fun vs H Q _ => (∃ p : Addr, vs = [.ref p, .non] ∧ spRecover C CF [.ref p] H (fun _ H' => Q (.bl false) H') (fun _ _ H' => Q (.bl true) H')) ∨
  ∃ p a : Addr, vs = [.ref p, .ref a] ∧ spCommit C CF [.ref p, .ref a] H (fun _ H' => Q (.bl false) H') (fun _ _ H' => Q (.bl true) H')
def spMended (C : Addr) : Sp := fun vs H Q _ => ∃ (p bl : Addr) (d : Int) (cs : List Addr) (bs : List (List Int)) (N : Nat), vs = [.ref p] ∧ DiskAt C H p bl d .non false cs bs ∧ 29 ≤ N ∧ N ≤ 300 ∧
  ((∃ cur, Calm bs N cur ∧ ∀ H', Same H H' → Q (.int 0) H') ∨
   ∃ (old new : Nat → Option (List Int)) (ns : List Int), Pend bs N old new ns ∧
    ∀ (H' : Hp) (d' : Int) (cs' : List Addr) (bs' : List (List Int)), DiskAt C H' p bl d' .non false cs' bs' → Calm bs' N new → Off (Wr p bl) H H' → Q (.int ns.length) H')
section
variable {P : Program} {w : World} {K : PySem.W.Frag} {mg : Str → Option Value} {base : Heap}
theorem scFl : FnScope ["self", "after"] ["self", "after"] (defScope sFall) := ⟨rfl, rfl, rfl, by decide +kernel, rfl, by decide +kernel, by decide +kernel⟩
theorem ok_fall {f C : Addr} {fd : FuncData} (F : Fun K "fall" "Disk.fall" sFall f fd) (T : Txt K mg C) : FnOk P w K mg base CX0 1 f fd ["self", "after"] (spFall C) := by
  refine F.ok scFl (fun vs H Q E h => ?_) (fun cdv A outer s H vs Q E hr h => ?_)
  · obtain ⟨p, bl, d, uf, fa, cs, bs, a, rfl, _⟩ := h
    rfl
  · obtain ⟨p, bl, d, uf, fa, cs, bs, a, rfl, D, k⟩ := h
    obtain ⟨dx, h1⟩ := id D.ob
    refine ⟨_, (pss_one (ps_fld (pv 0) (pv 1) rfl)), ?_⟩
    refine ⟨_, rfl, _, rfl, p, C, dx, _, rfl, h1, T.cl, T.nU, flds_len _ _ _ _, ?_⟩
    rw [put_u]
    refine k _ ⟨⟨dx, upd_same⟩, by rw [upd_ne (Ne.symm (ins_lst h1 D.hb))]; exact D.hb, Paired.mapP D.hc fun a ns q => ⟨by rw [upd_ne (Ne.symm (ins_lst h1 q.1))]; exact q.1, q.2⟩⟩ fun b o e hb => ?_
    rw [upd_ne hb]
    exact e
theorem scRs : FnScope ["self"] ["self"] (defScope sRise) := ⟨rfl, rfl, rfl, by decide +kernel, rfl, by decide +kernel, by decide +kernel⟩
theorem ok_rise {f C : Addr} {fd : FuncData} (F : Fun K "rise" "Disk.rise" sRise f fd) (T : Txt K mg C) : FnOk P w K mg base CX0 1 f fd ["self"] (spRise C) := by
  refine F.ok scRs (fun vs H Q E h => ?_) (fun cdv A outer s H vs Q E hr h => ?_)
  · obtain ⟨p, bl, d, uf, fa, cs, bs, rfl, _⟩ := h
    rfl
  · obtain ⟨p, bl, d, uf, fa, cs, bs, rfl, D, k⟩ := h
    obtain ⟨dx, h1⟩ := id D.ob
    refine ⟨_, (pss_cons (ps_fld (pv 0) pe_non rfl)
      (pss_one (ps_fld (pv 0) pe_bl rfl))), ?_⟩
    refine ⟨_, rfl, p, C, dx, _, rfl, h1, T.cl, T.nU, flds_len _ _ _ _, ?_⟩
    rw [put_u]
    refine ⟨_, rfl, p, C, dx, _, rfl, upd_same, T.cl, T.nF, flds_len _ _ _ _, ?_⟩
    rw [put_f]
    refine k _ ⟨⟨dx, upd_same⟩, ?_, Paired.mapP D.hc fun a ns q => ⟨?_, q.2⟩⟩ fun b o e hb => ?_
    · rw [upd_ne (Ne.symm (ins_lst h1 D.hb)), upd_ne (Ne.symm (ins_lst h1 D.hb))]; exact D.hb
    · rw [upd_ne (Ne.symm (ins_lst h1 q.1)), upd_ne (Ne.symm (ins_lst h1 q.1))]; exact q.1
    · rw [upd_ne hb, upd_ne hb]
      exact e
theorem ok_rowIsG {f : Addr} {fd : FuncData} (F : Fun K "_law_row_is" "_law_row_is" sRowIs f fd) (T : LTxt mg) : FnOk P w K mg base CX0 1 f fd ["_law_found", "_law_due"] spRowIsG := by
  refine F.ok scRi (fun vs H Q E h => ?_) (fun cdv A outer s H vs Q E hr h => ?_)
  · obtain ⟨a, b, xs, ys, rfl, _⟩ := h
    rfl
  · obtain ⟨a, b, xs, ys, rfl, ha, hb, hxy, hl, k⟩ := h
    have hs : sizeLine = 16777216 := sizeLine_eq
    have lab : (xs.map V.int).length = (ys.map V.int).length := by rw [List.length_map, List.length_map, hxy]
    have lz : (List.zipWith (fun x y => decide (x = y)) xs ys).length = xs.length := by rw [List.length_zipWith, ← hxy, Nat.min_self]
    refine ⟨_, (pss_cons (ps_if (PW.pt (pw_or (pt_not (pt_val (pe_callB call_isi (by rfl) T.isi bt_isinstance (pa_cons (pv 0) (pa_cons (pe_bltn (v := .ty "list") (by rfl) T.list bt_list rfl) pa_nil))))) (pw_or1 (pt_cmpR op_ne (pe_callB call_len_seq (by rfl) T.len PySem.boot_len (pa_cons (pv 0) pa_nil)) (pe_callB call_len_seq (by rfl) T.len PySem.boot_len (pa_cons (pv 1) pa_nil)) (nomark _))))) (pss_one (ps_ret pe_bl)) pss_nil)
      (pss_one (ps_ret (pe_callB (call_allB rfl) (by rfl) T.all bt_all (pa_cons (pe_comp2 (t := ("_law_one", "_law_other")) (cl := []) (caps := []) ⟨rfl, by decide +kernel, by decide +kernel, by kernel_rfl, by intro p hp; simp at hp, by kernel_rfl, by intro p hp; simp at hp, by decide +kernel⟩ rfl (pi_zip (by rfl) T.zip (pa_cons (pv 0) (pa_cons (pv 1) pa_nil))) (fun _ _ _ _ => (show PG _ _ (g2 K) from pg_tup rfl (pgs_cons (pg_name (i := 0) (show (capN2 ("_law_one", "_law_other") []).Nodup by decide +kernel) rfl (Or.inl (lookup_relabel_local rfl)) (.inr (lookup_relabel_local rfl))) (pgs_cons (pg_name (i := 1) (show (capN2 ("_law_one", "_law_other") []).Nodup by decide +kernel) rfl (Or.inl (lookup_relabel_local rfl)) (.inr (lookup_relabel_local rfl))) pgs_nil)))) (fun _ _ _ _ => pts_nil) (fun _ _ _ _ => (pe_and (pe_callB (show CallR _ _ (rIsi K) from call_isiK) (by rfl) T.isi bt_isinstance (pa_cons (pv 0) (pa_cons (pe_bltn (v := .ty "int") (by rfl) T.int bt_int rfl) pa_nil))) (pe_and (pe_not (pe_callB (show CallR _ _ (rIsi K) from call_isiK) (by rfl) T.isi bt_isinstance (pa_cons (pv 0) (pa_cons (pe_bltn (v := .ty "bool") (by rfl) T.bool bt_bool rfl) pa_nil)))) (pe_one (pe_cmpR op_eq (pv 0) (pv 1) (nomark _))))))) pa_nil))))), ?_⟩
    refine ⟨_, rfl, .ref a, "list", _, true, rfl, .lst ha, kit_ll _, true, rfl, iteF ?_⟩
    refine ⟨_, rfl, a, _, rfl, .inl (SqL.of ha), _, rfl, b, _, rfl, .inl (SqL.of hb), rfl, _, rfl, ?_⟩
    rw [lab, decide_eq_true rfl]
    refine iteF ?_
    refine ⟨_, rfl, _, rfl, a, b, rfl, ⟨_, SqL.of ha⟩, ⟨_, SqL.of hb⟩, ?_⟩
    refine comp_zip0 (K := K) (a := a) (b := b) (xs := xs.map V.int) (ys := ys.map V.int) (fun i zs H2 => zs = ((List.zipWith (fun x y => decide (x = y)) xs ys).take i).map V.bl ∧ Same H H2) ⟨rfl, Same.refl H⟩ lab (fun i zs H2 _ ⟨_, s2⟩ => ⟨SqL.of (s2 _ _ ha), SqL.of (s2 _ _ hb)⟩) ?_ ?_
    · rintro i x y zs H2 T2 hx hy hT ⟨rfl, s2⟩
      have hi : i < xs.length := by simpa using (List.getElem?_eq_some_iff.mp hx).1
      rw [List.getElem?_map] at hx hy
      obtain ⟨v, hv, rfl⟩ := Option.map_eq_some_iff.mp hx
      obtain ⟨u, hu, rfl⟩ := Option.map_eq_some_iff.mp hy
      have hz : (List.zipWith (fun x y => decide (x = y)) xs ys)[i]? = some (decide (v = u)) := by rw [List.getElem?_zipWith, hv, hu]
      refine ⟨_, rfl, .int v, "int", _, true, rfl, .int v, kit_ii _, true, rfl, iteT ?_⟩
      refine ⟨_, rfl, .int v, "bool", _, false, rfl, .int v, kit_ib _, false, rfl, true, rfl, iteT ?_⟩
      refine ⟨_, rfl, _, rfl, rfl, ?_, ?_, s2.trans (same_new hT)⟩
      · rw [List.length_map, List.length_take]; omega
      · rw [dec_int]; exact take_bl hz
    · rintro zs H2 ⟨rfl, s2⟩ l hlf
      refine ⟨l, List.zipWith (fun x y => decide (x = y)) xs ys, rfl, SqL.of ?_, ?_⟩
      · rw [upd_same, List.length_map, ← lz, List.take_length]
      rw [zip_all hxy]
      exact k _ (s2.trans (same_new hlf))
theorem ok_rowsAreG {f fR : Addr} {fd dR : FuncData} (F : Fun K "_law_rows_are" "_law_rows_are" sRowsAre f fd) (T : LTxt mg)
    (GR : FnOk P w K mg base CX0 1 fR dR ["_law_found", "_law_due"] spRowIsG) (DR : Def K mg "_law_row_is" fR dR ["_law_found", "_law_due"]) : FnOk P w K mg base CX0 2 f fd ["_law_found", "_law_due"] spRowsAreG := by
  refine F.ok scRa (fun vs H Q E h => ?_) (fun cdv A outer s H vs Q E hr h => ?_)
  · obtain ⟨a, b, as, bs, rs, qs, rfl, _⟩ := h
    rfl
  · obtain ⟨a, b, as, bs, rs, qs, rfl, ha, hb, Ra, Rb, hrq, hl, k⟩ := h
    have hs : sizeLine = 16777216 := sizeLine_eq
    have la := paired_len Ra
    have lb := paired_len Rb
    have lab : (as.map V.ref).length = (bs.map V.ref).length := by rw [List.length_map, List.length_map, la, lb, hrq]
    have lz : (List.zipWith (fun x y => decide (x = y)) rs qs).length = rs.length := by rw [List.length_zipWith, ← hrq, Nat.min_self]
    refine ⟨_, (pss_cons (ps_if (PW.pt (pw_or (pt_not (pt_val (pe_callB call_isi (by rfl) T.isi bt_isinstance (pa_cons (pv 0) (pa_cons (pe_bltn (v := .ty "list") (by rfl) T.list bt_list rfl) pa_nil))))) (pw_or1 (pt_cmpR op_ne (pe_callB call_len_seq (by rfl) T.len PySem.boot_len (pa_cons (pv 0) pa_nil)) (pe_callB call_len_seq (by rfl) T.len PySem.boot_len (pa_cons (pv 1) pa_nil)) (nomark _))))) (pss_one (ps_ret pe_bl)) pss_nil)
      (pss_one (ps_ret (pe_callB (call_allB rfl) (by rfl) T.all bt_all (pa_cons (pe_comp2 (t := ("_law_one", "_law_other")) (cl := []) (caps := []) ⟨rfl, by decide +kernel, by decide +kernel, by kernel_rfl, by intro p hp; simp at hp, by kernel_rfl, by intro p hp; simp at hp, by decide +kernel⟩ rfl (pi_zip (by rfl) T.zip (pa_cons (pv 0) (pa_cons (pv 1) pa_nil))) (fun _ _ _ _ => (show PG _ _ (g2 K) from pg_tup rfl (pgs_cons (pg_name (i := 0) (show (capN2 ("_law_one", "_law_other") []).Nodup by decide +kernel) rfl (Or.inl (lookup_relabel_local rfl)) (.inr (lookup_relabel_local rfl))) (pgs_cons (pg_name (i := 1) (show (capN2 ("_law_one", "_law_other") []).Nodup by decide +kernel) rfl (Or.inl (lookup_relabel_local rfl)) (.inr (lookup_relabel_local rfl))) pgs_nil)))) (fun _ _ _ _ => pts_nil) (fun _ _ _ _ => (pe_call GR (hr.mono (by decide)) (by rfl) DR.mg DR.kp DR.b .nil pass0 (pa_cons (pv 0) (pa_cons (pv 1) pa_nil))))) pa_nil))))), ?_⟩
    refine ⟨_, rfl, .ref a, "list", _, true, rfl, .lst ha, kit_ll _, true, rfl, iteF ?_⟩
    refine ⟨_, rfl, a, _, rfl, .inl (SqL.of ha), _, rfl, b, _, rfl, .inl (SqL.of hb), rfl, _, rfl, ?_⟩
    rw [lab, decide_eq_true rfl]
    refine iteF ?_
    refine ⟨_, rfl, _, rfl, a, b, rfl, ⟨_, SqL.of ha⟩, ⟨_, SqL.of hb⟩, ?_⟩
    refine comp_zip0 (K := K) (a := a) (b := b) (xs := as.map V.ref) (ys := bs.map V.ref) (fun i zs H2 => zs = ((List.zipWith (fun x y => decide (x = y)) rs qs).take i).map V.bl ∧ Same H H2) ⟨rfl, Same.refl H⟩ lab (fun i zs H2 _ ⟨_, s2⟩ => ⟨SqL.of (s2 _ _ ha), SqL.of (s2 _ _ hb)⟩) ?_ ?_
    · rintro i x y zs H2 T2 hx hy hT ⟨rfl, s2⟩
      have hi : i < as.length := by simpa using (List.getElem?_eq_some_iff.mp hx).1
      rw [List.getElem?_map] at hx hy
      obtain ⟨a', ea, rfl⟩ := Option.map_eq_some_iff.mp hx
      obtain ⟨b', eb, rfl⟩ := Option.map_eq_some_iff.mp hy
      have hir : i < rs.length := by omega
      have hiq : i < qs.length := by omega
      obtain ⟨a2, ea2, ra⟩ := paired_get Ra (List.getElem?_eq_getElem hir)
      obtain ⟨b2, eb2, rb⟩ := paired_get Rb (List.getElem?_eq_getElem hiq)
      rw [ea] at ea2
      rw [eb] at eb2
      cases ea2
      cases eb2
      have hz : (List.zipWith (fun x y => decide (x = y)) rs qs)[i]? = some (decide (rs[i] = qs[i])) := by rw [List.getElem?_zipWith, List.getElem?_eq_getElem hir, List.getElem?_eq_getElem hiq]
      have sT := s2.trans (same_new (X := .tup [.ref a', .ref b']) hT)
      refine ⟨_, rfl, _, rfl, a', b', rs[i], qs[i], rfl, sT _ _ ra.1, sT _ _ rb.1, by rw [ra.2, rb.2], by rw [ra.2]; decide, fun H3 s3 => ⟨?_, ?_, sT.trans s3⟩⟩
      · rw [List.length_map, List.length_take]; omega
      · exact take_bl hz
    · rintro zs H2 ⟨rfl, s2⟩ l hlf
      refine ⟨l, List.zipWith (fun x y => decide (x = y)) rs qs, rfl, SqL.of ?_, ?_⟩
      · rw [upd_same, List.length_map, la, ← lz, List.take_length]
      rw [zip_all hrq]
      exact k _ (s2.trans (same_new hlf))
theorem ok_countIsG {f : Addr} {fd : FuncData} (F : Fun K "_law_count_is" "_law_count_is" sCountIs f fd) (T : LTxt mg) : FnOk P w K mg base CX0 1 f fd ["_law_found", "_law_due"] spCountIsG := by
  refine F.ok scCi (fun vs H Q E h => ?_) (fun cdv A outer s H vs Q E hr h => ?_)
  · obtain ⟨i, j, rfl, _⟩ := h
    rfl
  · obtain ⟨i, j, rfl, k⟩ := h
    refine ⟨_, (pss_one (ps_ret (pe_and (pe_callB call_isi (by rfl) T.isi bt_isinstance (pa_cons (pv 0) (pa_cons (pe_bltn (v := .ty "int") (by rfl) T.int bt_int rfl) pa_nil))) (pe_and (pe_not (pe_callB call_isi (by rfl) T.isi bt_isinstance (pa_cons (pv 0) (pa_cons (pe_bltn (v := .ty "bool") (by rfl) T.bool bt_bool rfl) pa_nil)))) (pe_one (pe_cmpR op_eq (pv 0) (pv 1) (nomark _))))))), ?_⟩
    refine ⟨_, rfl, .int i, "int", _, true, rfl, .int i, kit_ii _, true, rfl, iteT ?_⟩
    refine ⟨_, rfl, .int i, "bool", _, false, rfl, .int i, kit_ib _, false, rfl, true, rfl, iteT ?_⟩
    refine ⟨_, rfl, _, rfl, rfl, ?_⟩
    rw [dec_int]
    exact k
theorem scFe : FnScope ["_law_disk_here", "_law_changes_here", "_law_fell_here"] ["_law_disk_here", "_law_changes_here"] (defScope sFell) := ⟨rfl, rfl, rfl, by decide +kernel, rfl, by decide +kernel, by decide +kernel⟩
theorem ok_fell {f C CF fV fCo : Addr} {fd dV dCo : FuncData} (F : Fun K "_law_fell" "_law_fell" sFell f fd) (mgF : mg "Fallen" = some (.ref CF)) (exF : PySem.W.exmOne K (.ref CF) (.ref CF) = some true)
    (GV : FnOk P w K mg base (CXO P w) 4 fV dV ["disk"] (spRecover C CF)) (DV : Def K mg "recover" fV dV ["disk"])
    (GCo : FnOk P w K mg base (CXO P w) 5 fCo dCo ["disk", "changes"] (spCommit C CF)) (DCo : Def K mg "commit" fCo dCo ["disk", "changes"]) : FnOk P w K mg base CX0 6 f fd ["_law_disk_here", "_law_changes_here"] (spFell C CF) := by
  refine F.ok scFe (fun vs H Q E h => ?_) (fun cdv A outer s H vs Q E hr h => ?_)
  · rcases h with ⟨p, rfl, _⟩ | ⟨p, a, rfl, _⟩ <;> rfl
  · refine ⟨_, (pss_cons (ps_set (i := 2) scFe.nd rfl (Or.inl rfl) pe_bl)
      (pss_cons (ps_try0 rfl rfl rfl mgF (pssx_one (psx_if (pt_cmpR op_isN (pv 1) pe_non (nomark _)) (pssx_one (psx_expr (pex_call GV (hr.mono (by decide)) rfl (by rfl) DV.mg DV.kp DV.b .nil (pa_cons (pv 0) pa_nil)))) (pssx_one (psx_expr (pex_call GCo (hr.mono (by decide)) rfl (by rfl) DCo.mg DCo.kp DCo.b .nil (pa_cons (pv 0) (pa_cons (pv 1) pa_nil))))))) (fun _ => (pss_one (ps_set (i := 2) scFe.nd rfl (Or.inl rfl) pe_bl))))
      (pss_one (ps_ret (pv 2))))), ?_⟩
    rcases h with ⟨p, rfl, h⟩ | ⟨p, a, rfl, h⟩
    · refine ⟨_, rfl, rfl, _, rfl, ?_⟩
      rw [decide_eq_true rfl]
      refine iteT ?_
      refine ⟨_, rfl, ?_⟩
      unfold tNil
      dsimp only [List.append_nil, List.cons_append, List.nil_append]
      exact spRecover_mono h (fun v H' q => ⟨_, rfl, q⟩) fun H' q => ⟨exF, _, rfl, q⟩
    · refine ⟨_, rfl, rfl, _, rfl, ?_⟩
      rw [decide_eq_false (by intro z; cases z)]
      refine iteF ?_
      refine ⟨_, rfl, _, rfl, ?_⟩
      unfold tNil
      dsimp only [List.append_nil, List.cons_append, List.nil_append]
      exact spCommit_mono h (fun v H' q => ⟨_, rfl, q⟩) fun H' q => ⟨exF, _, rfl, q⟩
theorem scMe : FnScope ["_law_disk_here", "_law_told", "_law_kept"] ["_law_disk_here"] (defScope sMended) := ⟨rfl, rfl, rfl, by decide +kernel, rfl, by decide +kernel, by decide +kernel⟩
theorem ok_mended {f C CF fV fCi fRa fIm : Addr} {fd dV dCi dRa dIm : FuncData} (F : Fun K "_law_mended" "_law_mended" sMended f fd) (TC : Txt K mg C)
    (GV : FnOk P w K mg base (CXO P w) 4 fV dV ["disk"] (spRecover C CF)) (DV : Def K mg "recover" fV dV ["disk"])
    (GCi : FnOk P w K mg base CX0 1 fCi dCi ["_law_found", "_law_due"] spCountIsG) (DCi : Def K mg "_law_count_is" fCi dCi ["_law_found", "_law_due"])
    (GRa : FnOk P w K mg base CX0 2 fRa dRa ["_law_found", "_law_due"] spRowsAreG) (DRa : Def K mg "_law_rows_are" fRa dRa ["_law_found", "_law_due"])
    (GIm : FnOk P w K mg base CX0 1 fIm dIm ["self"] (spImage C)) (bIm : Binds K dIm ["self"] []) (mI : Meth K C "image" fIm) : FnOk P w K mg base CX0 6 f fd ["_law_disk_here"] (spMended C) := by
  refine F.ok scMe (fun vs H Q E h => ?_) (fun cdv A outer s H vs Q E hr h => ?_)
  · obtain ⟨p, bl, d, cs, bs, N, rfl, _⟩ := h
    rfl
  · obtain ⟨p, bl, d, cs, bs, N, rfl, D, l1, l2, k⟩ := h
    have nImage : ∀ {bl : Addr} {d : Int} {uf : V} {fa : Bool}, (flds bl d uf fa).lookup ("image" : Str) = none := flds_no _ _ _ _ (by decide +kernel) (by decide +kernel) (by decide +kernel) (by decide +kernel)
    refine ⟨_, (pss_cons (ps_set (i := 1) scMe.nd rfl (Or.inl rfl) (pe_call GV (hr.mono (by decide)) (by rfl) DV.mg DV.kp DV.b .nil pass1 (pa_cons (pv 0) pa_nil)))
      (pss_cons (ps_set (i := 2) scMe.nd rfl (Or.inl rfl) (pe_slice sl_list (pe_meth0 (pv 0) TC.cl mI GIm (hr.mono (by decide)) bIm .nil pass0) (po_some pe_int) po_none))
      (pss_cons (ps_if (PW.pt (pw_or (pt_not (pt_val (pe_call GCi (hr.mono (by decide)) (by rfl) DCi.mg DCi.kp DCi.b .nil pass0 (pa_cons (pe_call GV (hr.mono (by decide)) (by rfl) DV.mg DV.kp DV.b .nil pass1 (pa_cons (pv 0) pa_nil)) (pa_cons pe_int pa_nil))))) (pw_or1 (pt_not (pt_val (pe_call GRa (hr.mono (by decide)) (by rfl) DRa.mg DRa.kp DRa.b .nil pass0 (pa_cons (pe_slice sl_list (pe_meth0 (pv 0) TC.cl mI GIm (hr.mono (by decide)) bIm .nil pass0) (po_some pe_int) po_none) (pa_cons (pv 2) pa_nil)))))))) (pss_one (ps_ret pe_non)) pss_nil)
      (pss_one (ps_ret (pv 1)))))), ?_⟩
    refine ⟨_, rfl, p, bl, d, .non, cs, bs, N, rfl, D, .inl rfl, l1, l2, ?_⟩
    rcases k with ⟨cur, c, k⟩ | ⟨old, new, ns, c, k⟩
    case' inl =>
      refine .inl ⟨cur, c, fun H1 s1 => ?_⟩
      have D1 := D.same s1
      have c1 := c
      have kk : ∀ H', Same H1 H' → Q (.int 0) H' := fun H' s => k H' (s1.trans s)
      clear k c D s1
    case' inr =>
      refine .inr ⟨old, new, ns, c, fun H1 cs1 bs1 _ D1 c1 o1 => ?_, fun _ _ _ _ _ i _ e => by cases e⟩
      have D1 : DiskAt C H1 p bl _ .non false cs1 bs1 := D1
      have kk : ∀ H', Same H1 H' → Q (.int ns.length) H' := fun H' s => k H' _ cs1 bs1 (D1.same s) c1 fun b u e nb => s _ _ (o1 _ _ e nb)
      clear k c D o1
    all_goals
      obtain ⟨dx1, h1⟩ := D1.ob
      have ln := c1.len
      refine ⟨_, rfl, p, dx1, _, rfl, h1, nImage, p, bl, _, .non, false, _, _, rfl, D1, by omega, fun H2 li fs s2 nli hl2 R2 nf nd => ⟨28, rfl, li, _, rfl, SqL.of hl2, fun sl hsl => ?_⟩⟩
      have lf := paired_len R2
      rw [cut28g (by omega)]
      have t2 := same_new (X := .lst ((fs.drop 28).map V.ref)) hsl
      have S3 := s2.trans t2
      have hsl3 : (upd H2 sl (.lst ((fs.drop 28).map V.ref))) sl = some (.lst ((fs.drop 28).map V.ref)) := upd_same
      have R3 := Rows.same t2 (paired_drop 28 R2)
      refine ⟨_, rfl, p, bl, _, .non, _, _, N, rfl, D1.same S3, .inl rfl, l1, l2, .inl ⟨_, c1, fun H4 s4 => ⟨0, 0, rfl, true, rfl, iteF ?_⟩⟩⟩
      have D4 := (D1.same S3).same s4
      obtain ⟨dx4, h4⟩ := D4.ob
      refine ⟨_, rfl, p, dx4, _, rfl, h4, nImage, p, bl, _, .non, false, _, _, rfl, D4, by omega, fun H5 li5 fs5 s5 nli5 hl5 R5 nf5 nd5 => ⟨28, rfl, li5, _, rfl, SqL.of hl5, fun sm hsm => ?_⟩⟩
      have lf5 := paired_len R5
      rw [cut28g (by omega)]
      have t5 := same_new (X := .lst ((fs5.drop 28).map V.ref)) hsm
      have S6 := (s4.trans s5).trans t5
      refine ⟨_, rfl, sm, sl, fs5.drop 28, fs.drop 28, _, _, rfl, upd_same, S6 _ _ hsl3, Rows.same t5 (paired_drop 28 R5), R3.same S6, rfl, by rw [List.length_drop]; omega, fun H7 s7 => ?_⟩
      rw [decide_eq_true rfl]
      exact ⟨true, rfl, iteF ⟨_, rfl, kk _ ((S3.trans S6).trans s7)⟩⟩
end
end Dk

namespace Dk
open PySem L2
abbrev sCarried : Stmt := top 22
abbrev sMade : Stmt := top 28
abbrev sFalls : Stmt := top 29
abbrev sAllFalls : Stmt := top 30
def curOf (rs : List (List Int)) : Nat → Option (List Int) := fun j => rs[j - 28]?
/-- the changes ahead: none, or some -/
def AhAt (H : Hp) (a : Addr) (L : Chg) (N : Nat) : Prop := (L = [] ∧ H a = some (.dK [])) ∨ ChgAt H a L N
theorem AhAt.same {H H' : Hp} {a : Addr} {L : Chg} {N : Nat} (h : AhAt H a L N) (s : Same H H') : AhAt H' a L N := h.imp (fun z => ⟨z.1, s _ _ z.2⟩) fun z => z.same s
theorem AhAt.hd {H : Hp} {a : Addr} {L : Chg} {N : Nat} (h : AhAt H a L N) : H a = some (.dK (kvC L)) := by
  rcases h with ⟨rfl, h⟩ | h
  · exact h
  · exact h.hd
theorem AhAt.hr {H : Hp} {a : Addr} {L : Chg} {N : Nat} (h : AhAt H a L N) : ∀ x ∈ L, RowAt H x.2.1 x.2.2 := by
  rcases h with ⟨rfl, h⟩ | h
  · exact fun _ z => nomatch z
  · exact h.hr
def spMade (C : Addr) : Sp := fun vs H Q _ => ∃ (lr a : Addr) (as : List Addr) (rs : List (List Int)) (L : Chg), vs = [.ref lr, .ref a] ∧ H lr = some (.lst (as.map V.ref)) ∧ Rows H as rs ∧ 2 ≤ rs.length ∧ rs.length ≤ 250 ∧ AhAt H a L (28 + rs.length) ∧
  ∀ (H' : Hp) (p bl : Addr) (d : Int) (cs : List Addr) (bs : List (List Int)), Same H H' → H p = none → H bl = none → DiskAt C H' p bl d .non false cs bs → Calm bs (28 + rs.length) (newOf L (curOf rs)) → Q (.ref p) H'
def spFalls : Sp := fun vs H Q _ => ∃ (lr : Addr) (as : List Addr) (m : Nat), vs = [.ref lr, .int m] ∧ H lr = some (.lst (as.map V.ref)) ∧ m ≤ 100 ∧
  ∀ (H' : Hp) (l : Addr) (xs : List Nat), Same H H' → H l = none → H' l = some (.lst (xs.map fun x : Nat => V.int (x : Int))) → (∀ x ∈ xs, x ≤ m) → Q (.ref l) H'
def spCarried (C : Addr) : Sp := fun vs H Q _ => ∃ (p bl : Addr) (d : Int) (uf : V) (fa : Bool) (cs : List Addr) (bs : List (List Int)), vs = [.ref p] ∧ DiskAt C H p bl d uf fa cs bs ∧ bs.length ≤ 300 ∧
  ∀ (H' : Hp) (p2 bl2 : Addr) (d2 : Int) (cs2 : List Addr), Same H H' → H p2 = none → H bl2 = none → DiskAt C H' p2 bl2 d2 .non false cs2 bs → Q (.ref p2) H'
theorem look_both (k : Int) : ∀ {L L' : Chg}, L'.map (fun x => (x.1, x.2.2)) = L.map (fun x => (x.1, x.2.2)) → (look L' k).map (·.2) = (look L k).map (·.2)
  | [], [], _ => rfl
  | [], _ :: _, h => by simp at h
  | _ :: _, [], h => by simp at h
  | x :: L, y :: L', h => by
    have h' : (y.1, y.2.2) :: L'.map (fun x => (x.1, x.2.2)) = (x.1, x.2.2) :: L.map (fun x => (x.1, x.2.2)) := h
    injection h' with h1 h2
    have e1 : y.1 = x.1 := (Prod.mk.inj h1).1
    have e2 : y.2.2 = x.2.2 := (Prod.mk.inj h1).2
    rw [look_cons, look_cons, e1]
    by_cases e : x.1 = k
    · rw [if_pos e, if_pos e]; exact congrArg some e2
    · rw [if_neg e, if_neg e]; exact look_both k h2
theorem newOf_both {L L' : Chg} (h : L'.map (fun x => (x.1, x.2.2)) = L.map (fun x => (x.1, x.2.2))) (cur : Nat → Option (List Int)) : newOf L' cur = newOf L cur := by
  funext j
  unfold newOf
  rw [look_both _ h]
theorem calm_of {bs rs : List (List Int)} (h : bs.length = 28 + rs.length) (hd : bs.drop 28 = rs) (h0 : bs[0]? = some zs16) : Calm bs (28 + rs.length) (curOf rs) := ⟨h, h0, fun j hj => by
  unfold curOf
  rw [← hd, List.getElem?_drop, show 28 + (j - 28) = j by omega]⟩
section
variable {P : Program} {w : World} {K : PySem.W.Frag} {mg : Str → Option Value} {base : Heap}
theorem scCa : FnScope ["_law_disk_here", "_law_image", "_law_other", "_law_n", "_law_numbers_here"] ["_law_disk_here"] (defScope sCarried) := ⟨rfl, rfl, rfl, by decide +kernel, rfl, by decide +kernel, by decide +kernel⟩
theorem ok_carried {f C CN CF fI fW fIm : Addr} {fd dI dW dIm : FuncData} (F : Fun K "_law_carried" "_law_carried" sCarried f fd) (T : MTxt mg) (TC : Txt K mg C) (mgC : mg "Disk" = some (.ref C)) (MK : Mk K C fI)
    (GI : FnOk P w K mg base CX0 1 fI dI ["self", "many"] (spInit C)) (bI : Binds K dI ["self", "many"] [])
    (GW : FnOk P w K mg base (CXO P w) 2 fW dW ["self", "n", "numbers"] (spWrite K C CN CF)) (bW : Binds K dW ["self", "n", "numbers"] []) (mW : Meth K C "write" fW)
    (GIm : FnOk P w K mg base CX0 1 fIm dIm ["self"] (spImage C)) (bIm : Binds K dIm ["self"] []) (mI : Meth K C "image" fIm) : FnOk P w K mg base CX0 3 f fd ["_law_disk_here"] (spCarried C) := by
  refine F.ok scCa (fun vs H Q E h => ?_) (fun cdv A outer s H vs Q E hr h => ?_)
  · obtain ⟨p, bl, d, uf, fa, cs, bs, rfl, _⟩ := h
    rfl
  · obtain ⟨p0, bl0, d0, uf0, fa0, cs0, rs, rfl, D0, n2, k⟩ := h
    have nImage : ∀ {bl : Addr} {d : Int} {uf : V} {fa : Bool}, (flds bl d uf fa).lookup ("image" : Str) = none := flds_no _ _ _ _ (by decide +kernel) (by decide +kernel) (by decide +kernel) (by decide +kernel)
    have nWrite : ∀ {bl : Addr} {d : Int}, (flds bl d .non false).lookup ("write" : Str) = none := flds_no _ _ _ _ (by decide +kernel) (by decide +kernel) (by decide +kernel) (by decide +kernel)
    refine ⟨_, (pss_cons (ps_set (i := 1) scCa.nd rfl (Or.inl rfl) (pe_meth0 (pv 0) TC.cl mI GIm (hr.mono (by decide)) bIm .nil pass0))
      (pss_cons (ps_set (i := 2) scCa.nd rfl (Or.inl rfl) (pe_make MK GI (hr.mono (by decide)) (by rfl) mgC bI .nil pass0 (pa_cons (pe_callB call_len_seq (by rfl) T.len PySem.boot_len (pa_cons (pv 1) pa_nil)) pa_nil)))
      (pss_cons (ps_for PassesOwn.never rfl (pi_enum (by rfl) T.enumerate (pa_cons (pv 1) pa_nil)) (pg_tup rfl (pgs_cons (pg_name (i := 3) scCa.nd rfl (Or.inl rfl)) (pgs_cons (pg_name (i := 4) scCa.nd rfl (Or.inl rfl)) pgs_nil))) (pss_one (ps_if (pt_cmpR (op_neL hr.units0) (pv 4) (pe_op op_rep (pe_lst (pa_cons pe_int pa_nil)) pe_int) (nomark _)) (pss_one (ps_expr (pe_meth (pv 2) TC.cl mW GW (hr.mono (by decide)) bW .nil pass1 (pa_cons (pv 3) (pa_cons (pe_callTy call_list_of (by rfl) T.list bt_list (pa_cons (pv 4) pa_nil)) pa_nil))))) pss_nil)))
      (pss_one (ps_ret (pv 2)))))), ?_⟩
    obtain ⟨dx0, h0⟩ := id D0.ob
    refine ⟨_, rfl, p0, dx0, _, rfl, h0, nImage, p0, bl0, d0, uf0, fa0, cs0, rs, rfl, D0, n2, fun Hi l as si nli hl R nf nd => ?_⟩
    have la := paired_len R
    refine ⟨_, rfl, l, _, rfl, .inl (SqL.of hl), fun p dx np ndx ne0 => ⟨p, dx, rs.length, by rw [List.length_map, la]; rfl, by omega, upd_same, fun bl cs H1 hbl D1 off => ⟨rfl, ?_⟩⟩⟩
    have s0 : Same Hi (upd (upd Hi dx (.own p)) p (.ins C dx [])) := fun b u e => by rw [upd_ne (ne_of_none e np), upd_ne (ne_of_none e ndx)]; exact e
    have s1 : Same Hi H1 := fun b u e => off b u (s0 _ _ e) (ne_of_none e np)
    have nbl : Hi bl = none := s0.free hbl
    clear off hbl ndx ne0 s0
    have wr : ∀ {H2 H3 : Hp}, Same Hi H2 → Off (Wr p bl) H2 H3 → Same Hi H3 := fun s o b u e => o _ _ (s _ _ e) fun z => z.elim (ne_of_none e np) (ne_of_none e nbl)
    refine ⟨_, rfl, l, rfl, ⟨_, SqL.of (s1 _ _ hl)⟩, ?_⟩
    refine for_enum (K := K) (a := l) (xs := as.map V.ref) (fun i σ H2 => ∃ (v2 v3 : Option V) (d : Int) (cs : List Addr) (bs : List (List Int)), σ = [some (.ref p0), some (.ref l), some (.ref p), v2, v3] ∧ DiskAt C H2 p bl d .non false cs bs ∧ bs.length = rs.length ∧
      (∀ j : Nat, j < i → bs[j]? = rs[j]?) ∧ (∀ j : Nat, i ≤ j → j < rs.length → bs[j]? = some zs16) ∧ Same Hi H2) ⟨_, _, 0, cs, _, rfl, D1, List.length_replicate, fun j hj => absurd hj (by omega), fun j _ hj => ?_, s1⟩ (fun i σ H2 _ ⟨_, _, _, _, _, _, _, _, _, _, s2⟩ => SqL.of (s2 _ _ hl)) ?_ ?_
    · rw [List.getElem?_replicate, if_pos (by omega)]; rfl
    · rintro i x σ H2 Tt hx hTt ⟨v2, v3, d2, cs2, bs2, rfl, D2, hb2, ha, hz, s2⟩
      rw [List.getElem?_map] at hx
      obtain ⟨r, hr1, rfl⟩ := Option.map_eq_some_iff.mp hx
      have hi : i < as.length := (List.getElem?_eq_some_iff.mp hr1).1
      have hir : i < rs.length := by omega
      obtain ⟨r', hr2, rr⟩ := paired_get R (List.getElem?_eq_getElem hir)
      rw [hr1] at hr2
      cases hr2
      have sT := same_new (X := .tup [.int i, .ref r]) hTt
      have hs : sizeLine = 16777216 := sizeLine_eq
      refine ⟨Tt, [.int i, .ref r], rfl, SqT.of upd_same, rfl, .int i, [.ref r], rfl, .ref r, [], rfl, rfl, ?_⟩
      refine ⟨_, rfl, by decide, fun z1 hz1 => ⟨z1, 16, _, rfl, rfl, upd_same, by omega, by omega, by rw [List.length_singleton]; omega, fun z2 hz2 => ?_⟩⟩
      rw [rep1 (V.int 0)]
      have sz := (same_new (X := .lst [V.int 0]) hz1).trans (same_new (X := .lst (List.replicate ((16 : Int)).toNat (V.int 0))) hz2)
      have ez : (upd (upd (upd H2 Tt (.tup [.int i, .ref r])) z1 (.lst [V.int 0])) z2 (.lst (List.replicate ((16 : Int)).toNat (V.int 0)))) z2 = some (.lst (zs16.map V.int)) := by rw [upd_same]; unfold zs16; rw [List.map_replicate]; rfl
      have st := sT.trans sz
      generalize upd (upd (upd H2 Tt (.tup [.int i, .ref r])) z1 (.lst [V.int 0])) z2 (.lst (List.replicate ((16 : Int)).toNat (V.int 0))) = H3 at *
      have D3 := D2.same st
      obtain ⟨dx3, h3⟩ := id D3.ob
      have rr3 := st _ _ (s2 _ _ rr.1)
      have S3 := s2.trans st
      refine ⟨r, z2, _, _, rfl, rfl, SqL.of rr3, SqL.of ez, flat_ints _, flat_ints _, _, rfl, ?_⟩
      rw [eqLV_ints]
      refine ite2 (fun c => ?_) (fun c => ?_)
      · refine ⟨_, rfl, p, dx3, _, rfl, h3, nWrite, _, rfl, _, rfl, r, _, rfl, .inl (SqL.of rr3), fun lr hlr => ?_⟩
        have s4 := same_new (X := .lst ((rs[i]).map V.int)) hlr
        refine ⟨p, bl, lr, d2, .non, false, cs2, bs2, (i : Int), rs[i], rfl, D3.same s4, .inl rfl, small_log (by omega) (by omega), SqL.of upd_same, rr.2, fun z => ?_, fun _ z => ?_, fun _ _ _ H5 cs5 D5 _ o5 => ?_⟩
        · rcases z with z | z <;> omega
        · rcases z with z | z <;> cases z
        rw [show lessU V.non = V.non from rfl, show ((i : Int)).toNat = i by omega] at D5
        refine ⟨_, _, d2 + 1, cs5, _, rfl, D5, by rw [List.length_set]; exact hb2, fun j hj => ?_, fun j hj1 hj2 => by rw [List.getElem?_set_ne (by omega)]; exact hz j (by omega) hj2, wr (S3.trans s4) o5⟩
        by_cases e : j = i
        · subst e
          rw [List.getElem?_set_self (by omega), List.getElem?_eq_getElem hir]
        · rw [List.getElem?_set_ne (by omega)]
          exact ha j (by omega)
      · have e : rs[i] = zs16 := by simpa using c
        refine ⟨_, _, d2, cs2, bs2, rfl, D3, hb2, fun j hj => ?_, fun j hj1 hj2 => hz j (by omega) hj2, S3⟩
        by_cases ej : j = i
        · subst ej
          rw [hz j (by omega) hir, List.getElem?_eq_getElem hir, e]
        · exact ha j (by omega)
    · rintro σ H2 ⟨v2, v3, d2, cs2, bs2, rfl, D2, hb2, ha, _, s2⟩
      rw [List.length_map] at ha
      have eb : bs2 = rs := List.ext_getElem? fun j => by
        by_cases hj : j < rs.length
        · exact ha j (by omega)
        · rw [List.getElem?_eq_none (by omega), List.getElem?_eq_none (by omega)]
      rw [eb] at D2
      exact ⟨_, rfl, k H2 p bl d2 cs2 (si.trans s2) (si.free np) (si.free nbl) D2⟩
theorem scMa : FnScope ["_law_rows_here", "_law_ahead", "_law_disk_here"] ["_law_rows_here", "_law_ahead"] (defScope sMade) := ⟨rfl, rfl, rfl, by decide +kernel, rfl, by decide +kernel, by decide +kernel⟩
theorem ok_made {f C CF fDi fCo fHa : Addr} {fd dDi dCo dHa : FuncData} (F : Fun K "_law_made" "_law_made" sMade f fd) (T : MTxt mg)
    (GDi : FnOk P w K mg base CX0 3 fDi dDi ["_law_rows_here"] (spDisk C)) (DDi : Def K mg "_law_disk" fDi dDi ["_law_rows_here"])
    (GCo : FnOk P w K mg base (CXO P w) 5 fCo dCo ["disk", "changes"] (spCommit C CF)) (DCo : Def K mg "commit" fCo dCo ["disk", "changes"])
    (GHa : FnOk P w K mg base CX0 2 fHa dHa ["_law_changes_here"] spHanded) (DHa : Def K mg "_law_handed" fHa dHa ["_law_changes_here"]) : FnOk P w K mg base CX0 6 f fd ["_law_rows_here", "_law_ahead"] (spMade C) := by
  refine F.ok scMa (fun vs H Q E h => ?_) (fun cdv A outer s H vs Q E hr h => ?_)
  · obtain ⟨lr, a, as, rs, L, rfl, _⟩ := h
    rfl
  · obtain ⟨lr, a, as, rs, L, rfl, hl, R, n1, n2, c, k⟩ := h
    refine ⟨_, (pss_cons (ps_set (i := 2) scMa.nd rfl (Or.inl rfl) (pe_call GDi (hr.mono (by decide)) (by rfl) DDi.mg DDi.kp DDi.b .nil pass0 (pa_cons (pv 0) pa_nil)))
      (pss_cons (ps_if (pt_cmpR (op_neD0 hr.units0) (pv 1) pe_dnewK (nomark _)) (pss_one (ps_expr (pe_call GCo (hr.mono (by decide)) (by rfl) DCo.mg DCo.kp DCo.b .nil pass1 (pa_cons (pv 2) (pa_cons (pe_call GHa (hr.mono (by decide)) (by rfl) DHa.mg DHa.kp DHa.b .nil pass0 (pa_cons (pv 1) pa_nil)) pa_nil))))) pss_nil)
      (pss_one (ps_ret (pv 2))))), ?_⟩
    refine ⟨_, rfl, lr, as, rs, rfl, hl, R, by omega, by omega, fun H1 p bl d cs bs s1 np nbl D1 lb dr b0 => ?_⟩
    have c1 := c.same s1
    refine ⟨_, rfl, fun e he => ?_⟩
    have se := same_new (X := .dK []) he
    refine ⟨a, e, _, rfl, rfl, se _ _ c1.hd, upd_same, _, rfl, ?_⟩
    have S2 := s1.trans se
    have D2 := D1.same se
    have c2 := c1.same se
    generalize upd H1 e (.dK []) = H2 at *
    rcases c2 with ⟨rfl, c2⟩ | c2
    · refine iteF ?_
      exact ⟨_, rfl, k H2 p bl d cs bs S2 np nbl D2 (calm_of lb dr b0)⟩
    · have hL := c2.l1
      have e1 : decide ((kvC L).length ≠ 0) = true := decide_eq_true (by unfold kvC dk; rw [List.length_map]; omega)
      rw [e1]
      refine iteT ?_
      refine ⟨_, rfl, _, rfl, a, L, _, rfl, c2, fun H3 a' L' s3 na' c3 em f3 => ?_⟩
      refine ⟨p, bl, a', d, .non, cs, bs, L', 28 + rs.length, curOf rs, rfl, D2.same s3, .inl rfl, by omega, by omega, calm_of lb dr b0, c3, fun H4 cs4 bs4 _ D4 m4 o4 => ?_, fun _ _ _ _ _ i _ e => by cases e⟩
      rw [newOf_both em] at m4
      exact ⟨_, rfl, k H4 p bl _ cs4 bs4 (fun b u e => o4 _ _ (s3 _ _ (S2 _ _ e)) fun z => z.elim (ne_of_none e np) (ne_of_none e nbl)) np nbl D4 m4⟩
theorem scFs : FnScope ["_law_rows_here", "_law_many", "_law_some"] ["_law_rows_here", "_law_many"] (defScope sFalls) := ⟨rfl, rfl, rfl, by decide +kernel, rfl, by decide +kernel, by decide +kernel⟩
theorem ok_falls {f : Addr} {fd : FuncData} (F : Fun K "_law_falls" "_law_falls" sFalls f fd) (T : MTxt mg) : FnOk P w K mg base CX0 1 f fd ["_law_rows_here", "_law_many"] spFalls := by
  refine F.ok scFs (fun vs H Q E h => ?_) (fun cdv A outer s H vs Q E hr h => ?_)
  · obtain ⟨lr, as, m, rfl, _⟩ := h
    rfl
  · obtain ⟨lr, as, m, rfl, hl, hm, k⟩ := h
    have hs : sizeLine = 16777216 := sizeLine_eq
    refine ⟨_, (pss_cons (ps_set (i := 2) scFs.nd rfl (Or.inr rfl) (pe_lst (pa_cons pe_int (pa_cons pe_int (pa_cons (pe_op op_fdiv (pv 1) pe_int) (pa_cons (pe_op op_sub (pv 1) pe_int) (pa_cons (pe_op op_sub (pv 1) pe_int) (pa_cons (pv 1) pa_nil))))))))
      (pss_one (ps_ret (pe_comp (cl := [("_law_some", s.heap.objs.size + 2), ("_law_rows_here", s.heap.objs.size + 1)]) (caps := [("_law_rows_here", 0), ("_law_some", 2)]) ⟨rfl, by decide +kernel, by decide +kernel, rfl, by kernel_rfl, by intro p hp; simp only [List.mem_cons, List.not_mem_nil, or_false] at hp; rcases hp with rfl | rfl <;> first | rfl | exact ⟨rfl, .inl rfl, .inl rfl⟩ | exact ⟨rfl, .inl rfl, .inr rfl⟩, by kernel_rfl, by intro p hp; simp only [List.mem_cons, List.not_mem_nil, or_false] at hp; rcases hp with rfl | rfl <;> first | rfl | exact ⟨rfl, .inl rfl, .inl rfl⟩ | exact ⟨rfl, .inl rfl, .inr rfl⟩, by decide +kernel⟩ rfl (pi_range1 (by rfl) T.range (pa_cons (pe_op op_add (pv 1) pe_int) pa_nil)) (fun _ _ _ _ => pts_one (PW.pt (pw_or (pt_cmpR op_lt (pe_callB (show CallR _ _ (rLenSeq K) from call_lenK) (by rfl) T.len PySem.boot_len (pa_cons (pv 1) pa_nil)) pe_int (nomark _)) (pw_or (pt_cmpR op_eq (pe_op op_mod (pv 0) pe_int) pe_int (nomark _)) (pw_or1 (pt_cmpR (show OpR _ _ (rIn K false) from op_in_seq) (pv 0) (pv 2) (by with_unfolding_all rfl))))))) (fun _ _ _ _ => (pv 0)))))), ?_⟩
    refine ⟨_, rfl, _, _, rfl, rfl, ⟨by decide, by decide⟩, _, rfl, _, _, rfl, rfl, _, rfl, _, _, rfl, rfl, _, rfl, (by show 6 ≤ sizeLine; decide), fun ls hls => ?_⟩
    have s1 := same_new (X := .lst [V.int 0, .int 1, .int ((m : Int) / 2), .int ((m : Int) - 2), .int ((m : Int) - 1), .int m]) hls
    have hls1 : (upd H ls (.lst [V.int 0, .int 1, .int ((m : Int) / 2), .int ((m : Int) - 2), .int ((m : Int) - 1), .int m])) ls = some (.lst [V.int 0, .int 1, .int ((m : Int) / 2), .int ((m : Int) - 2), .int ((m : Int) - 1), .int m]) := upd_same
    generalize upd H ls (.lst [V.int 0, .int 1, .int ((m : Int) / 2), .int ((m : Int) - 2), .int ((m : Int) - 1), .int m]) = H1 at *
    refine ⟨_, rfl, _, _, rfl, rfl, _, rfl, by omega, by omega, ?_⟩
    refine comp_range (lo := 0) (n := ((m : Int) + 1).toNat) (fun i ys H2 => ∃ xs : List Nat, ys = xs.map (fun x : Nat => V.int (x : Int)) ∧ xs.length ≤ i ∧ (∀ x ∈ xs, x ≤ m) ∧ H2 = H1) ⟨[], rfl, Nat.le_refl _, (fun _ z => nomatch z), rfl⟩ ?_ ?_
    · rintro i ys H2 hi ⟨xs, rfl, hx, hm', rfl⟩
      rw [Int.zero_add]
      have him : i ≤ m := by omega
      have hl1 := s1 _ _ hl
      refine ⟨_, rfl, lr, _, rfl, .inl (SqL.of hl1), _, _, rfl, rfl, _, rfl, ?_⟩
      have e1 : (xs.map (fun x : Nat => V.int (x : Int))).length < sizeLine := by rw [List.length_map]; omega
      have e2 : xs.map (fun x : Nat => V.int (x : Int)) ++ [V.int (i : Int)] = (xs ++ [i]).map (fun x : Nat => V.int (x : Int)) := by rw [List.map_append]; rfl
      have e3 : (xs ++ [i]).length ≤ i + 1 := by rw [List.length_append, List.length_singleton]; omega
      have e4 : ∀ x ∈ xs ++ [i], x ≤ m := fun x h => by
        rcases List.mem_append.mp h with h | h
        · exact hm' x h
        · rw [List.mem_singleton.mp h]; exact him
      refine ite2 (fun _ => iteT ⟨_, rfl, e1, xs ++ [i], e2, e3, e4, rfl⟩) (fun _ => ?_)
      refine ⟨_, rfl, _, _, rfl, rfl, (by show (0 : Int) < 7; decide), rfl, _, rfl, ?_⟩
      refine ite2 (fun _ => iteT ⟨_, rfl, e1, xs ++ [i], e2, e3, e4, rfl⟩) (fun _ => ?_)
      refine ⟨_, rfl, _, rfl, ls, _, rfl, .inl (SqL.of hls1), rfl, rfl, _, rfl, ?_⟩
      exact ite2 (fun _ => ⟨_, rfl, e1, xs ++ [i], e2, e3, e4, rfl⟩) (fun _ => ⟨xs, rfl, by omega, hm', rfl⟩)
    · rintro ys H2 ⟨xs, rfl, hx, hm', rfl⟩ l hl'
      exact k _ l xs (s1.trans (same_new hl')) (s1.free hl') upd_same hm'
end
end Dk

namespace Dk
open PySem L2
theorem pr_of {α β : Type} {F : α → β → Prop} : ∀ {xs : List α} {ys : List β}, xs.length = ys.length → (∀ (i : Nat) x y, xs[i]? = some x → ys[i]? = some y → F x y) → Paired F xs ys
  | [], [], _, _ => .nil
  | [], _ :: _, h, _ => by simp at h
  | _ :: _, [], h, _ => by simp at h
  | x :: xs, y :: ys, h, g => .cons (g 0 x y rfl rfl) (pr_of (by simpa using h) fun i a b ha hb => g (i + 1) a b (by simpa using ha) (by simpa using hb))
def dueOf (L : Chg) (rs : List (List Int)) : List (List Int) := (List.range rs.length).map fun j => (newOf L (curOf rs) (28 + j)).getD []
theorem dueOf_at {L : Chg} {rs : List (List Int)} {j : Nat} (hj : j < rs.length) : (dueOf L rs)[j]? = newOf L (curOf rs) (28 + j) := by
  unfold dueOf
  rw [List.getElem?_map, List.getElem?_range hj]
  unfold newOf curOf
  have hb : rs[28 + j - 28]? = some (rs[j]'hj) := by rw [show 28 + j - 28 = j by omega]; exact List.getElem?_eq_getElem hj
  show some (Option.getD (((look L ((28 + j : Nat) : Int)).map (·.2)).or rs[28 + j - 28]?) []) = ((look L ((28 + j : Nat) : Int)).map (·.2)).or rs[28 + j - 28]?
  rw [hb]
  cases look L ((28 + j : Nat) : Int) <;> rfl
theorem dueOf_len (L : Chg) (rs : List (List Int)) : (dueOf L rs).length = rs.length := by unfold dueOf; rw [List.length_map, List.length_range]
theorem drop_cur {bs rs : List (List Int)} (c : Calm bs (28 + rs.length) (curOf rs)) : bs.drop 28 = rs := List.ext_getElem? fun j => by
  rw [List.getElem?_drop, c.at_ _ (by omega)]
  unfold curOf
  rw [show 28 + j - 28 = j by omega]
theorem drop_new {bs rs : List (List Int)} {L : Chg} (c : Calm bs (28 + rs.length) (newOf L (curOf rs))) : bs.drop 28 = dueOf L rs := List.ext_getElem? fun j => by
  rw [List.getElem?_drop]
  have := c.len
  by_cases hj : j < rs.length
  · rw [c.at_ _ (by omega), dueOf_at hj]
  · rw [List.getElem?_eq_none (by omega), List.getElem?_eq_none (by rw [dueOf_len]; omega)]
theorem calm_due {bs rs : List (List Int)} {L : Chg} (c : Calm bs (28 + rs.length) (newOf L (curOf rs))) : Calm bs (28 + (dueOf L rs).length) (curOf (dueOf L rs)) := by
  rw [dueOf_len]
  refine ⟨c.len, c.b0, fun j hj => ?_⟩
  have hl := c.len
  unfold curOf
  by_cases h : j - 28 < rs.length
  · rw [dueOf_at h, c.at_ j hj, show 28 + (j - 28) = j by omega]
  · rw [List.getElem?_eq_none (by omega), List.getElem?_eq_none (by rw [dueOf_len]; omega)]
/-- what changed tells -/
theorem rows_due {H H' : Hp} {as ds : List Addr} {rs : List (List Int)} {L : Chg} (R : Rows H as rs) (hr : ∀ x ∈ L, RowAt H x.2.1 x.2.2) (s1 : Same H H') (lds : ds.length = as.length)
    (hjd : ∀ j : Nat, j < as.length → ds[j]? = (as[j]?).map fun x => ((look L (28 + (j : Int))).map (·.1)).getD x) : Rows H' ds (dueOf L rs) := by
  have la := paired_len R
  refine pr_of (by rw [dueOf_len]; omega) fun j x y hx hy => ?_
  have hj : j < rs.length := by have := (List.getElem?_eq_some_iff.mp hx).1; omega
  rw [hjd j (by omega)] at hx
  rw [dueOf_at hj] at hy
  unfold newOf at hy
  rw [show ((28 + j : Nat) : Int) = 28 + (j : Int) by push_cast; rfl] at hy
  cases q : look L (28 + (j : Int)) with
  | some z =>
    rw [q] at hx hy
    have e2 : z.2 = y := by simpa using hy
    rw [List.getElem?_eq_getElem (show j < as.length by omega)] at hx
    have e1 : z.1 = x := by simpa using hx
    have := hr _ (look_mem q)
    rw [← e1, ← e2]
    exact ⟨s1 _ _ this.1, this.2⟩
  | none =>
    rw [q] at hx hy
    have hy' : rs[28 + j - 28]? = some y := by simpa [curOf] using hy
    have hx' : as[j]? = some x := by simpa using hx
    rw [show 28 + j - 28 = j by omega] at hy'
    obtain ⟨x', g1, g2⟩ := paired_get R hy'
    rw [hx'] at g1
    cases g1
    exact ⟨s1 _ _ g2.1, g2.2⟩
/-- the state ahead of the mending -/
def FSb (b : Bool) (bs rs : List (List Int)) (L : Chg) : Prop := (b = true ∧ Calm bs (28 + rs.length) (curOf rs)) ∨ Calm bs (28 + rs.length) (newOf L (curOf rs)) ∨ (b = true ∧ ∃ ns, ns.length = L.length ∧ Pend bs (28 + rs.length) (curOf rs) (newOf L (curOf rs)) ns)
theorem FSb.both {b : Bool} {bs rs : List (List Int)} {L L' : Chg} (em : L'.map (fun x => (x.1, x.2.2)) = L.map (fun x => (x.1, x.2.2))) (h : FSb b bs rs L') : FSb b bs rs L := by
  have hL : L'.length = L.length := by
    have := congrArg List.length em
    rwa [List.length_map, List.length_map] at this
  unfold FSb at h
  rw [newOf_both em, hL] at h
  exact h
theorem FSb.len {b : Bool} {bs rs : List (List Int)} {L : Chg} (h : FSb b bs rs L) : bs.length = 28 + rs.length := by
  rcases h with z | z | ⟨_, _, _, z⟩
  · exact z.2.len
  · exact z.len
  · exact z.len
def OutB (b : Bool) (t : Int) (bs bs' rs : List (List Int)) (L : Chg) : Prop := (t = 0 ∧ bs'.drop 28 = bs.drop 28 ∧ ((b = true ∧ bs'.drop 28 = rs) ∨ bs'.drop 28 = dueOf L rs)) ∨ (b = true ∧ t = L.length ∧ bs'.drop 28 = dueOf L rs)
theorem mend_any {C p bl : Addr} {b : Bool} {d : Int} {cs : List Addr} {bs rs : List (List Int)} {L : Chg} {H : Hp} {Q : VK} {E : XK} (D : DiskAt C H p bl d .non false cs bs) (n1 : 2 ≤ rs.length) (n2 : rs.length ≤ 250) (fs : FSb b bs rs L)
    (k : ∀ (H' : Hp) (d' : Int) (cs' : List Addr) (bs' : List (List Int)) (t : Int), DiskAt C H' p bl d' .non false cs' bs' → bs'.length = 28 + rs.length → OutB b t bs bs' rs L → Off (Wr p bl) H H' → Q (.int t) H') : spMended C [.ref p] H Q E := by
  refine ⟨p, bl, d, cs, bs, 28 + rs.length, rfl, D, by omega, by omega, ?_⟩
  rcases fs with ⟨hb, c⟩ | c | ⟨hb, ns, hn, c⟩
  · exact .inl ⟨_, c, fun H' s => k H' d cs bs 0 (D.same s) c.len (.inl ⟨rfl, rfl, .inl ⟨hb, drop_cur c⟩⟩) fun b u e _ => s _ _ e⟩
  · exact .inl ⟨_, c, fun H' s => k H' d cs bs 0 (D.same s) c.len (.inl ⟨rfl, rfl, .inr (drop_new c)⟩) fun b u e _ => s _ _ e⟩
  · exact .inr ⟨_, _, ns, c, fun H' d' cs' bs' D' c' o' => hn ▸ k H' d' cs' bs' L.length D' c'.len (.inr ⟨hb, rfl, drop_new c'⟩) o'⟩
theorem fell_commit {C CF p bl a : Addr} {d : Int} {i : Nat} {cs : List Addr} {bs rs : List (List Int)} {L : Chg} {H : Hp} {Q : VK} {E : XK} (D : DiskAt C H p bl d (.int i) false cs bs) (n1 : 2 ≤ rs.length) (n2 : rs.length ≤ 250)
    (cm : Calm bs (28 + rs.length) (curOf rs)) (c : ChgAt H a L (28 + rs.length))
    (k : ∀ (H' : Hp) (d' : Int) (uf' : V) (fa' : Bool) (cs' : List Addr) (bs' : List (List Int)), DiskAt C H' p bl d' uf' fa' cs' bs' → FSb (decide ((i : Int) < ((2 * L.length + 3 : Nat) : Int))) bs' rs L → Off (Wr p bl) H H' → Q (.bl (decide ((i : Int) < ((2 * L.length + 3 : Nat) : Int)))) H') : spFell C CF [.ref p, .ref a] H Q E := by
  refine .inr ⟨p, a, rfl, p, bl, a, d, .int i, cs, bs, L, 28 + rs.length, curOf rs, rfl, D, .inr ⟨_, rfl⟩, by omega, by omega, cm, c, fun H' cs' bs' hn D' m' o' => ?_, fun H' d' uf' cs' bs' j hj e D' _ js o' => ?_⟩
  · have hge : ¬ (i : Int) < ((2 * L.length + 3 : Nat) : Int) := fun z => hn i (by omega) rfl
    have := k H' _ _ _ _ _ D' (.inr (.inl m')) o'
    rw [decide_eq_false hge] at this
    exact this
  · have eij : i = j := by have := V.int.inj e; omega
    subst eij
    have hlt : (i : Int) < ((2 * L.length + 3 : Nat) : Int) := by omega
    have := k H' _ _ _ _ _ D' (by
      rw [decide_eq_true hlt]
      rcases js with ⟨_, z⟩ | ⟨_, z⟩
      · exact .inl ⟨rfl, z⟩
      · exact .inr (.inr ⟨rfl, z⟩)) o'
    rw [decide_eq_true hlt] at this
    exact this
def spAllFalls (C : Addr) : Sp := fun vs H Q _ => ∃ (lr ah a : Addr) (as : List Addr) (rs : List (List Int)) (La L : Chg), vs = [.ref lr, .ref ah, .ref a] ∧ H lr = some (.lst (as.map V.ref)) ∧ Rows H as rs ∧ 2 ≤ rs.length ∧ rs.length ≤ 250 ∧ AhAt H ah La (28 + rs.length) ∧ ChgAt H a L (28 + rs.length) ∧
  ∀ H', Same H H' → Q (.bl true) H'
section
variable {P : Program} {w : World} {K : PySem.W.Frag} {mg : Str → Option Value} {base : Heap}
theorem scAf : FnScope ["_law_rows_here", "_law_ahead", "_law_changes_here", "_law_probe", "_law_begin", "_law_many", "_law_old", "_law_due", "_law_after", "_law_disk_here", "_law_fell_here", "_law_before", "_law_told", "_law_found"] ["_law_rows_here", "_law_ahead", "_law_changes_here"] (defScope sAllFalls) := ⟨rfl, rfl, rfl, by decide +kernel, rfl, by decide +kernel, by decide +kernel⟩
set_option maxHeartbeats 16000000 in
theorem ok_allFalls {f C CF fMa fFs fFe fHa fCo fCd fS fFl fRs fCa fIm fMe fCi fRa : Addr} {fd dMa dFs dFe dHa dCo dCd dS dFl dRs dCa dIm dMe dCi dRa : FuncData} (F : Fun K "_law_all_falls" "_law_all_falls" sAllFalls f fd) (T : MTxt mg) (TC : Txt K mg C)
    (GMa : FnOk P w K mg base CX0 6 fMa dMa ["_law_rows_here", "_law_ahead"] (spMade C)) (DMa : Def K mg "_law_made" fMa dMa ["_law_rows_here", "_law_ahead"])
    (GFs : FnOk P w K mg base CX0 1 fFs dFs ["_law_rows_here", "_law_many"] spFalls) (DFs : Def K mg "_law_falls" fFs dFs ["_law_rows_here", "_law_many"])
    (GFe : FnOk P w K mg base CX0 6 fFe dFe ["_law_disk_here", "_law_changes_here"] (spFell C CF)) (DFe : Def K mg "_law_fell" fFe dFe ["_law_disk_here", "_law_changes_here"])
    (GHa : FnOk P w K mg base CX0 2 fHa dHa ["_law_changes_here"] spHanded) (DHa : Def K mg "_law_handed" fHa dHa ["_law_changes_here"])
    (GCo : FnOk P w K mg base (CXO P w) 5 fCo dCo ["disk", "changes"] (spCommit C CF)) (DCo : Def K mg "commit" fCo dCo ["disk", "changes"])
    (GCd : FnOk P w K mg base CX0 2 fCd dCd ["_law_rows_here", "_law_changes_here"] (spChanged K)) (DCd : Def K mg "_law_changed" fCd dCd ["_law_rows_here", "_law_changes_here"])
    (GS : FnOk P w K mg base CX0 1 fS dS ["self"] (spWrites C)) (bS : Binds K dS ["self"] []) (mS : Meth K C "writes" fS)
    (GFl : FnOk P w K mg base CX0 1 fFl dFl ["self", "after"] (spFall C)) (bFl : Binds K dFl ["self", "after"] []) (mFl : Meth K C "fall" fFl)
    (GRs : FnOk P w K mg base CX0 1 fRs dRs ["self"] (spRise C)) (bRs : Binds K dRs ["self"] []) (mRs : Meth K C "rise" fRs)
    (GCa : FnOk P w K mg base CX0 3 fCa dCa ["_law_disk_here"] (spCarried C)) (DCa : Def K mg "_law_carried" fCa dCa ["_law_disk_here"])
    (GIm : FnOk P w K mg base CX0 1 fIm dIm ["self"] (spImage C)) (bIm : Binds K dIm ["self"] []) (mI : Meth K C "image" fIm)
    (GMe : FnOk P w K mg base CX0 6 fMe dMe ["_law_disk_here"] (spMended C)) (DMe : Def K mg "_law_mended" fMe dMe ["_law_disk_here"])
    (GCi : FnOk P w K mg base CX0 1 fCi dCi ["_law_found", "_law_due"] spCountIsG) (DCi : Def K mg "_law_count_is" fCi dCi ["_law_found", "_law_due"])
    (GRa : FnOk P w K mg base CX0 2 fRa dRa ["_law_found", "_law_due"] spRowsAreG) (DRa : Def K mg "_law_rows_are" fRa dRa ["_law_found", "_law_due"]) :
    FnOk P w K mg base CX0 7 f fd ["_law_rows_here", "_law_ahead", "_law_changes_here"] (spAllFalls C) := by
  refine F.ok scAf (fun vs H Q E h => ?_) (fun cdv A outer s H vs Q E hr h => ?_)
  · obtain ⟨lr, ah, a, as, rs, La, L, rfl, _⟩ := h
    rfl
  · obtain ⟨lr, ah, a, as, rs, La, L, rfl, hl, R, n1, n2, cA, c, k⟩ := h
    have g__law_made : (defScope sAllFalls).names.lookup ("_law_made" : Str) = some NameKind.globalImplicit := by decide +kernel
    have g_commit : (defScope sAllFalls).names.lookup ("commit" : Str) = some NameKind.globalImplicit := by decide +kernel
    have g__law_handed : (defScope sAllFalls).names.lookup ("_law_handed" : Str) = some NameKind.globalImplicit := by decide +kernel
    have g__law_changed : (defScope sAllFalls).names.lookup ("_law_changed" : Str) = some NameKind.globalImplicit := by decide +kernel
    have g__law_falls : (defScope sAllFalls).names.lookup ("_law_falls" : Str) = some NameKind.globalImplicit := by decide +kernel
    have g__law_fell : (defScope sAllFalls).names.lookup ("_law_fell" : Str) = some NameKind.globalImplicit := by decide +kernel
    have g__law_carried : (defScope sAllFalls).names.lookup ("_law_carried" : Str) = some NameKind.globalImplicit := by decide +kernel
    have g__law_mended : (defScope sAllFalls).names.lookup ("_law_mended" : Str) = some NameKind.globalImplicit := by decide +kernel
    have g__law_count_is : (defScope sAllFalls).names.lookup ("_law_count_is" : Str) = some NameKind.globalImplicit := by decide +kernel
    have g_len : (defScope sAllFalls).names.lookup ("len" : Str) = some NameKind.globalImplicit := by decide +kernel
    have g__law_rows_are : (defScope sAllFalls).names.lookup ("_law_rows_are" : Str) = some NameKind.globalImplicit := by decide +kernel
    refine ⟨_, (pss_cons (ps_set (i := 3) scAf.nd rfl (Or.inl rfl) (pe_call GMa (hr.mono (by decide)) g__law_made DMa.mg DMa.kp DMa.b .nil pass0 (pa_cons (pv 0) (pa_cons (pv 1) pa_nil))))
      (pss_cons (ps_set (i := 4) scAf.nd rfl (Or.inl rfl) (pe_meth0 (pv 3) TC.cl mS GS (hr.mono (by decide)) bS .nil pass0))
      (pss_cons (ps_expr (pe_call GCo (hr.mono (by decide)) g_commit DCo.mg DCo.kp DCo.b .nil pass1 (pa_cons (pv 3) (pa_cons (pe_call GHa (hr.mono (by decide)) g__law_handed DHa.mg DHa.kp DHa.b .nil pass0 (pa_cons (pv 2) pa_nil)) pa_nil))))
      (pss_cons (ps_set (i := 5) scAf.nd rfl (Or.inl rfl) (pe_op op_sub (pe_meth0 (pv 3) TC.cl mS GS (hr.mono (by decide)) bS .nil pass0) (pv 4)))
      (pss_cons (ps_set (i := 6) scAf.nd rfl (Or.inl rfl) (pe_call GCd (hr.mono (by decide)) g__law_changed DCd.mg DCd.kp DCd.b .nil pass0 (pa_cons (pv 0) (pa_cons (pv 1) pa_nil))))
      (pss_cons (ps_set (i := 7) scAf.nd rfl (Or.inl rfl) (pe_call GCd (hr.mono (by decide)) g__law_changed DCd.mg DCd.kp DCd.b .nil pass0 (pa_cons (pv 6) (pa_cons (pv 2) pa_nil))))
      (pss_cons (ps_for PassesOwn.never rfl (pi_list (pe_call GFs (hr.mono (by decide)) g__law_falls DFs.mg DFs.kp DFs.b .nil pass0 (pa_cons (pv 0) (pa_cons (pv 5) pa_nil)))) (pg_name (i := 8) scAf.nd rfl (Or.inl rfl)) (pss_cons (ps_set (i := 9) scAf.nd rfl (Or.inl rfl) (pe_call GMa (hr.mono (by decide)) g__law_made DMa.mg DMa.kp DMa.b .nil pass0 (pa_cons (pv 0) (pa_cons (pv 1) pa_nil))))
      (pss_cons (ps_expr (pe_meth (pv 9) TC.cl mFl GFl (hr.mono (by decide)) bFl .nil pass0 (pa_cons (pv 8) pa_nil)))
      (pss_cons (ps_set (i := 10) scAf.nd rfl (Or.inl rfl) (pe_call GFe (hr.mono (by decide)) g__law_fell DFe.mg DFe.kp DFe.b .nil pass0 (pa_cons (pv 9) (pa_cons (pe_call GHa (hr.mono (by decide)) g__law_handed DHa.mg DHa.kp DHa.b .nil pass0 (pa_cons (pv 2) pa_nil)) pa_nil))))
      (pss_cons (ps_if (pt_cmpR op_ne (pv 10) (pe_cmpR op_lt (pv 8) (pv 5) (nomark _)) (nomark _)) (pss_one (ps_ret pe_bl)) pss_nil)
      (pss_cons (ps_if (pt_cmpR op_eq (pe_op op_mod (pv 8) pe_int) pe_int (nomark _)) (pss_one (ps_set (i := 9) scAf.nd rfl (Or.inl rfl) (pe_call GCa (hr.mono (by decide)) g__law_carried DCa.mg DCa.kp DCa.b .nil pass0 (pa_cons (pv 9) pa_nil)))) pss_nil)
      (pss_cons (ps_expr (pe_meth0 (pv 9) TC.cl mRs GRs (hr.mono (by decide)) bRs .nil pass0))
      (pss_cons (ps_set (i := 11) scAf.nd rfl (Or.inl rfl) (pe_slice sl_list (pe_meth0 (pv 9) TC.cl mI GIm (hr.mono (by decide)) bIm .nil pass0) (po_some pe_int) po_none))
      (pss_cons (ps_set (i := 12) scAf.nd rfl (Or.inl rfl) (pe_call GMe (hr.mono (by decide)) g__law_mended DMe.mg DMe.kp DMe.b .nil pass0 (pa_cons (pv 9) pa_nil)))
      (pss_cons (ps_set (i := 13) scAf.nd rfl (Or.inl rfl) (pe_slice sl_list (pe_meth0 (pv 9) TC.cl mI GIm (hr.mono (by decide)) bIm .nil pass0) (po_some pe_int) po_none))
      (pss_cons (ps_if (PW.pt (pw_and (pt_not (pt_val (pe_call GCi (hr.mono (by decide)) g__law_count_is DCi.mg DCi.kp DCi.b .nil pass0 (pa_cons (pv 12) (pa_cons pe_int pa_nil))))) (pw_and1 (pt_not (PW.pt (pw_and (pt_val (pv 10)) (pw_and1 (pt_val (pe_call GCi (hr.mono (by decide)) g__law_count_is DCi.mg DCi.kp DCi.b .nil pass0 (pa_cons (pv 12) (pa_cons (pe_callB call_lenD g_len T.len PySem.boot_len (pa_cons (pv 2) pa_nil)) pa_nil))))))))))) (pss_one (ps_ret pe_bl)) pss_nil)
      (pss_cons (ps_if (PW.pt (pw_and (pt_val (pe_call GCi (hr.mono (by decide)) g__law_count_is DCi.mg DCi.kp DCi.b .nil pass0 (pa_cons (pv 12) (pa_cons pe_int pa_nil)))) (pw_and (pt_val (pe_call GRa (hr.mono (by decide)) g__law_rows_are DRa.mg DRa.kp DRa.b .nil pass0 (pa_cons (pv 13) (pa_cons (pv 7) pa_nil)))) (pw_and1 (pt_not (pt_val (pe_call GRa (hr.mono (by decide)) g__law_rows_are DRa.mg DRa.kp DRa.b .nil pass0 (pa_cons (pv 11) (pa_cons (pv 7) pa_nil))))))))) (pss_one (ps_ret pe_bl)) pss_nil)
      (pss_one (ps_if (PW.pt (pw_and (pt_not (pt_val (pe_call GRa (hr.mono (by decide)) g__law_rows_are DRa.mg DRa.kp DRa.b .nil pass0 (pa_cons (pv 13) (pa_cons (pv 7) pa_nil))))) (pw_and1 (PW.pt (pw_or (pt_not (pt_val (pv 10))) (pw_or (pt_cmpR op_ne (pv 12) pe_int (nomark _)) (pw_or1 (pt_not (pt_val (pe_call GRa (hr.mono (by decide)) g__law_rows_are DRa.mg DRa.kp DRa.b .nil pass0 (pa_cons (pv 13) (pa_cons (pv 6) pa_nil)))))))))))) (pss_one (ps_ret pe_bl)) pss_nil))))))))))))))
      (pss_one (ps_ret pe_bl))))))))), ?_⟩
    have nm : ∀ {bl : Addr} {d : Int} {uf : V} {fa : Bool} {m : Str}, ¬ m = "fallen" → ¬ m = "until_fall" → ¬ m = "done" → ¬ m = "blocks" → (flds bl d uf fa).lookup m = none := fun h1 h2 h3 h4 => flds_no _ _ _ _ h1 h2 h3 h4
    have nWrites : ∀ {bl : Addr} {d : Int} {uf : V} {fa : Bool}, (flds bl d uf fa).lookup ("writes" : Str) = none := nm (by decide +kernel) (by decide +kernel) (by decide +kernel) (by decide +kernel)
    have nImage : ∀ {bl : Addr} {d : Int} {uf : V} {fa : Bool}, (flds bl d uf fa).lookup ("image" : Str) = none := nm (by decide +kernel) (by decide +kernel) (by decide +kernel) (by decide +kernel)
    have nRise : ∀ {bl : Addr} {d : Int} {uf : V} {fa : Bool}, (flds bl d uf fa).lookup ("rise" : Str) = none := nm (by decide +kernel) (by decide +kernel) (by decide +kernel) (by decide +kernel)
    have nFall : ∀ {bl : Addr} {d : Int} {uf : V} {fa : Bool}, (flds bl d uf fa).lookup ("fall" : Str) = none := nm (by decide +kernel) (by decide +kernel) (by decide +kernel) (by decide +kernel)
    have la := paired_len R
    have c2 := c.l2
    have lD := dueOf_len La rs
    -- the probe
    refine ⟨_, rfl, _, rfl, lr, ah, as, rs, La, rfl, hl, R, n1, n2, cA, fun H1 p bl d cs bs s1 np nbl D1 cm1 => ?_⟩
    have cu1 := calm_due cm1
    obtain ⟨dx1, h1⟩ := id D1.ob
    refine ⟨_, rfl, p, dx1, _, rfl, h1, nWrites, p, bl, d, .non, false, cs, bs, rfl, D1, ?_⟩
    refine ⟨_, rfl, _, rfl, a, L, _, rfl, c.same s1, fun H2 a' L' s2 na' c2' em f2 => ?_⟩
    have hL : L'.length = L.length := by
      have := congrArg List.length em
      rwa [List.length_map, List.length_map] at this
    rw [← lD] at c2'
    refine ⟨p, bl, a', d, .non, cs, bs, L', 28 + (dueOf La rs).length, curOf (dueOf La rs), rfl, D1.same s2, .inl rfl, by omega, by omega, cu1, c2', fun H3 cs3 bs3 _ D3 _ o3 => ?_, fun _ _ _ _ _ i _ e => by cases e⟩
    have S3 : Same H H3 := fun b u e => o3 _ _ (s2 _ _ (s1 _ _ e)) fun z => z.elim (ne_of_none e np) (ne_of_none e nbl)
    rw [hL] at D3
    clear o3 s2 D1 h1 cm1 cu1 c2' na' f2
    obtain ⟨dx3, h3⟩ := id D3.ob
    refine ⟨_, rfl, p, dx3, _, rfl, h3, nWrites, p, bl, _, _, false, _, _, rfl, D3, _, rfl, _, _, rfl, rfl, ?_⟩
    show tSeq _ _ _ [some (V.ref lr), some (.ref ah), some (.ref a), some (.ref p), some (.int d), some (.int (d + ((2 * L.length + 3 : Nat) : Int) - d)), none, none, none, none, none, none, none, none] H3
    rw [show d + ((2 * L.length + 3 : Nat) : Int) - d = ((2 * L.length + 3 : Nat) : Int) by omega]
    clear D3 h3 np nbl s1
    -- what stands ahead, and behind
    refine ⟨_, rfl, _, rfl, lr, ah, as, La, rfl, S3 _ _ hl, (cA.same S3).hd, by omega, fun H4 lo os s4 nlo hlo los hjo => ?_⟩
    have S4 := S3.trans s4
    have Ro : Rows H4 os (dueOf La rs) := rows_due (R.same S3) (cA.same S3).hr s4 los hjo
    have lo' := paired_len Ro
    refine ⟨_, rfl, _, rfl, lo, a, os, L, rfl, hlo, (c.same S4).hd, by omega, fun H5 ld ds s5 nld hld lds hjd => ?_⟩
    have S5 := S4.trans s5
    have Rd : Rows H5 ds (dueOf L (dueOf La rs)) := rows_due Ro (c.same S4).hr s5 lds hjd
    have hlo5 := s5 _ _ hlo
    have Ro5 := Ro.same s5
    have hl5 := S5 _ _ hl
    have R5 := R.same S5
    have cA5 := cA.same S5
    have c5 := c.same S5
    clear s4 s5 hjo hjd los lds nlo nld hlo Ro S3 S4
    -- the falls
    refine ⟨_, rfl, _, rfl, lr, as, _, rfl, hl5, by omega, fun H6 lx xs s6 nlx hlx hxm => ?_⟩
    refine ⟨lx, rfl, ⟨_, SqL.of hlx⟩, ?_⟩
    refine for_list (K := K) (a := lx) (xs := xs.map fun x : Nat => V.int (x : Int)) (fun _ σ H7 => ∃ (v8 v9 v10 v11 v12 v13 : Option V), σ = [some (V.ref lr), some (.ref ah), some (.ref a), some (.ref p), some (.int d), some (.int ((2 * L.length + 3 : Nat) : Int)), some (.ref lo), some (.ref ld), v8, v9, v10, v11, v12, v13] ∧ Same H6 H7) ⟨_, _, _, _, _, _, rfl, Same.refl _⟩ (fun _ σ H7 _ ⟨_, _, _, _, _, _, _, s7⟩ => SqL.of (s7 _ _ hlx)) ?_ ?_
    · rintro j x σ H7 hx ⟨v8, v9, v10, v11, v12, v13, rfl, S7⟩
      rw [List.getElem?_map] at hx
      obtain ⟨i, hi, rfl⟩ := Option.map_eq_some_iff.mp hx
      have him := hxm i (List.mem_of_getElem? hi)
      have S7' := s6.trans S7
      refine ⟨_, rfl, _, rfl, lr, ah, as, rs, La, rfl, S7' _ _ hl5, R5.same S7', n1, n2, cA5.same S7', fun H8 q bq d8 cs8 bs8 s8 nq nbq D8 cm8 => ?_⟩
      have cu8 := calm_due cm8
      obtain ⟨dx8, h8⟩ := id D8.ob
      refine ⟨_, rfl, q, dx8, _, rfl, h8, nFall, _, rfl, q, bq, d8, .non, false, cs8, bs8, (i : Int), rfl, D8, fun H9 D9 o9 => ?_⟩
      have S9 : Same H7 H9 := fun b u e => o9 _ _ (s8 _ _ e) (ne_of_none e nq)
      refine ⟨_, rfl, _, rfl, a, L, _, rfl, c5.same (S7'.trans S9), fun H10 a' L' s10 na' c10 em f10 => ?_⟩
      have hL : L'.length = L.length := by
        have := congrArg List.length em
        rwa [List.length_map, List.length_map] at this
      rw [← lD] at c10
      refine tNil_in ?_
      dsimp only [List.append_nil, List.cons_append, List.nil_append]
      refine fell_commit (D9.same s10) (by omega) (by omega) cu8 c10 fun H11 d11 uf11 fa11 cs11 bs11 D11 fs11 o11 => ?_
      have fs6 := fs11.both em
      rw [hL] at fs6 ⊢
      have l6 := fs6.len
      have S6 : Same H7 H11 := fun b u e => o11 _ _ (s10 _ _ (S9 _ _ e)) fun z => z.elim (ne_of_none e nq) (ne_of_none e nbq)
      clear o11 fs11 c10 na' f10 s10 S9 o9 D9 h8 cu8 cm8 D8 s8 em hL
      refine ⟨_, rfl, _, rfl, _, rfl, _, _, rfl, rfl, rfl, _, rfl, ?_⟩
      rw [decide_eq_true rfl]
      refine iteF ?_
      generalize decide ((i : Int) < ((2 * L.length + 3 : Nat) : Int)) = fb at fs6 ⊢
      refine ⟨_, rfl, _, _, rfl, rfl, (by show (0 : Int) < 2; decide), rfl, _, rfl, ?_⟩
      refine ite2 (fun c => ?A) (fun c => ?B)
      case' A =>
        refine ⟨_, rfl, q, bq, d11, uf11, fa11, cs11, bs11, rfl, D11, by omega, fun H7x qx bx d7 cs7 s7 nqx nbx D7 => ?_⟩
        have S7x := S6.trans s7
        have nqx1 : H7 qx = none := S6.free nqx
        have nbx1 : H7 bx = none := S6.free nbx
        clear s7 nqx nbx S6 D11
        generalize V.non = ufx at D7
        generalize false = fax at D7
      case' B =>
        obtain ⟨H7x, qx, bx, d7, ufx, fax, cs7, D7, S7x, nqx1, nbx1, e1, e2⟩ : ∃ (H7x : Hp) (qx bx : Addr) (d7 : Int) (ufx : V) (fax : Bool) (cs7 : List Addr), DiskAt C H7x qx bx d7 ufx fax cs7 bs11 ∧ Same H7 H7x ∧ H7 qx = none ∧ H7 bx = none ∧ H11 = H7x ∧ q = qx := ⟨H11, q, bq, d11, uf11, fa11, cs11, D11, S6, nq, nbq, rfl, rfl⟩
        rw [e1, e2]
        clear e1 e2 S6 D11
      all_goals
        clear nq nbq
        obtain ⟨dxr, hr7⟩ := id D7.ob
        refine ⟨_, rfl, qx, dxr, _, rfl, hr7, nRise, qx, bx, d7, ufx, fax, cs7, bs11, rfl, D7, fun H7y D7y o7y => ?_⟩
        have S7y : Same H7 H7y := fun b u e => o7y _ _ (S7x _ _ e) (ne_of_none e nqx1)
        clear o7y hr7 D7 S7x
        obtain ⟨dx7, h7⟩ := id D7y.ob
        refine ⟨_, rfl, qx, dx7, _, rfl, h7, nImage, qx, bx, d7, .non, false, cs7, bs11, rfl, D7y, by omega, fun H8 li fs s8 nli hl8 R8 nf nd => ⟨28, rfl, li, _, rfl, SqL.of hl8, fun sb hsb => ?_⟩⟩
        have lf := paired_len R8
        rw [cut28g (by omega)]
        have t8 := same_new (X := .lst ((fs.drop 28).map V.ref)) hsb
        have hb9 : (upd H8 sb (.lst ((fs.drop 28).map V.ref))) sb = some (.lst ((fs.drop 28).map V.ref)) := upd_same
        have Rb := Rows.same t8 (paired_drop 28 R8)
        have D9 := (D7y.same s8).same t8
        have S9 := (S7y.trans s8).trans t8
        have sbx : sb ≠ bx := fun z => by
          have := s8 _ _ D7y.hb
          rw [← z, hsb] at this
          cases this
        obtain ⟨dx9, h9⟩ := id D9.ob
        generalize upd H8 sb (.lst ((fs.drop 28).map V.ref)) = H9 at *
        clear t8 hsb s8 hl8 R8 nf nd nli h7 D7y S7y
        refine ⟨_, rfl, tNil_in ?_⟩
        dsimp only [List.append_nil, List.cons_append, List.nil_append]
        refine mend_any D9 (by omega) (by omega) fs6 fun H10 d10 cs10 bs10 t D10 l10 out o10 => ?_
        have S10 : Same H7 H10 := fun b u e => o10 _ _ (S9 _ _ e) fun z => z.elim (ne_of_none e nqx1) (ne_of_none e nbx1)
        have hb10 : H10 sb = some (.lst ((fs.drop 28).map V.ref)) := o10 _ _ hb9 fun z => z.elim (fun z => ins_lst h9 hb9 z.symm) sbx
        have Rb10 : Rows H10 (fs.drop 28) (bs11.drop 28) := Paired.mapP Rb fun b ms q => ⟨o10 _ _ q.1 fun z => z.elim (fun z => ins_lst h9 q.1 z.symm) (row_ne q D9.hb), q.2⟩
        clear o10 Rb hb9 h9 D9 S9 sbx nqx1 nbx1
        obtain ⟨dx10, h10⟩ := id D10.ob
        refine ⟨_, rfl, qx, dx10, _, rfl, h10, nImage, qx, bx, d10, .non, false, cs10, bs10, rfl, D10, by omega, fun H11 li2 fs2 s11 _ hl11 R11 _ _ => ⟨28, rfl, li2, _, rfl, SqL.of hl11, fun sf hsf => ?_⟩⟩
        have lf2 := paired_len R11
        rw [cut28g (by omega)]
        have t11 := same_new (X := .lst ((fs2.drop 28).map V.ref)) hsf
        have hf12 : (upd H11 sf (.lst ((fs2.drop 28).map V.ref))) sf = some (.lst ((fs2.drop 28).map V.ref)) := upd_same
        have Rf := Rows.same t11 (paired_drop 28 R11)
        have S11 := s11.trans t11
        have S12 := S10.trans S11
        have hb12 := S11 _ _ hb10
        have Rb12 := Rb10.same S11
        generalize upd H11 sf (.lst ((fs2.drop 28).map V.ref)) = H12 at *
        clear t11 s11 hl11 R11 hsf hb10 Rb10 S10 D10 h10 S11
        have T12 := S7'.trans S12
        have ld12 := T12 _ _ hld
        have Rd12 := Rd.same T12
        have lr12 := T12 _ _ hlo5
        have R12 := Ro5.same T12
        have a12 := T12 _ _ c5.hd
        have SS : Same H6 H12 := S7.trans S12
        have q1 : (bs10.drop 28).length = (dueOf L (dueOf La rs)).length := by rw [List.length_drop, dueOf_len, dueOf_len]; omega
        have q2 : (bs10.drop 28).length ≤ 300 := by rw [List.length_drop]; omega
        have q3 : (bs11.drop 28).length = (dueOf L (dueOf La rs)).length := by rw [List.length_drop, dueOf_len, dueOf_len]; omega
        have q4 : (bs11.drop 28).length ≤ 300 := by rw [List.length_drop]; omega
        rcases out with ⟨rfl, e1, e2⟩ | ⟨rfl, rfl, e2⟩
        · refine ⟨_, rfl, 0, 0, rfl, true, rfl, iteF (iteF ?_)⟩
          refine ⟨_, rfl, 0, 0, rfl, true, rfl, iteT ?_⟩
          refine ⟨_, rfl, _, rfl, sf, ld, _, ds, _, dueOf L (dueOf La rs), rfl, hf12, ld12, Rf, Rd12, q1, q2, fun H13 s13 => ?_⟩
          refine ⟨_, rfl, ?_⟩
          refine ite2 (fun hd => ?_) (fun hd => ?_)
          · have ed : bs10.drop 28 = dueOf L (dueOf La rs) := of_decide_eq_true hd
            refine ⟨_, rfl, _, rfl, sb, ld, _, ds, _, dueOf L (dueOf La rs), rfl, s13 _ _ hb12, s13 _ _ ld12, Rb12.same s13, Rd12.same s13, q3, q4, fun H14 s14 => ?_⟩
            rw [decide_eq_true (e1 ▸ ed)]
            refine ⟨true, rfl, iteF ?_⟩
            have s' := s13.trans s14
            refine ⟨_, rfl, _, rfl, sf, ld, _, ds, _, dueOf L (dueOf La rs), rfl, s' _ _ hf12, s' _ _ ld12, Rf.same s', Rd12.same s', q1, q2, fun H15 s15 => ?_⟩
            rw [decide_eq_true ed]
            exact ⟨true, rfl, iteF (iteF ⟨_, _, _, _, _, _, rfl, (SS.trans s').trans s15⟩)⟩
          · have ed : ¬ bs10.drop 28 = dueOf L (dueOf La rs) := fun z => hd (decide_eq_true z)
            obtain ⟨rfl, er⟩ := e2.resolve_right ed
            refine iteF ?_
            refine ⟨_, rfl, _, rfl, sf, ld, _, ds, _, dueOf L (dueOf La rs), rfl, s13 _ _ hf12, s13 _ _ ld12, Rf.same s13, Rd12.same s13, q1, q2, fun H14 s14 => ?_⟩
            rw [decide_eq_false ed]
            refine ⟨false, rfl, iteT ?_⟩
            have s' := s13.trans s14
            refine ⟨_, rfl, true, rfl, iteF ?_⟩
            refine ⟨_, rfl, rfl, _, rfl, iteF ?_⟩
            refine ⟨_, rfl, _, rfl, sf, lo, _, os, _, dueOf La rs, rfl, s' _ _ hf12, s' _ _ lr12, Rf.same s', R12.same s', by rw [er], q2, fun H15 s15 => ?_⟩
            rw [decide_eq_true er]
            exact ⟨true, rfl, iteF ⟨_, _, _, _, _, _, rfl, (SS.trans s').trans s15⟩⟩
        · have hL1 := c5.l1
          have n0 : ¬ ((L.length : Nat) : Int) = 0 := by omega
          refine ⟨_, rfl, _, 0, rfl, ?_⟩
          rw [decide_eq_false n0]
          refine ⟨false, rfl, iteT ?_⟩
          refine ⟨_, rfl, true, rfl, iteT ?_⟩
          refine ⟨_, rfl, _, rfl, a, _, rfl, a12, _, _, rfl, ?_⟩
          rw [decide_eq_true (by show ((L.length : Nat) : Int) = ((L.map _).length : Nat); rw [List.length_map])]
          refine ⟨true, rfl, iteF ?_⟩
          refine ⟨_, rfl, _, 0, rfl, ?_⟩
          rw [decide_eq_false n0]
          refine ⟨false, rfl, iteF (iteF ?_)⟩
          refine ⟨_, rfl, _, rfl, sf, ld, _, ds, _, dueOf L (dueOf La rs), rfl, hf12, ld12, Rf, Rd12, q1, q2, fun H15 s15 => ?_⟩
          rw [decide_eq_true e2]
          exact ⟨true, rfl, iteF (iteF ⟨_, _, _, _, _, _, rfl, SS.trans s15⟩)⟩
    · rintro σ H7 ⟨v8, v9, v10, v11, v12, v13, rfl, S7⟩
      exact k _ (S5.trans (s6.trans S7))
end
end Dk

namespace Dk
open PySem L2
abbrev sLaw : Stmt := top 31
def spLaw (K : PySem.W.Frag) : Sp := fun vs H Q _ => ∃ (a : Addr) (ns : List Int), vs = [.ref a] ∧ SqL K H a (ns.map V.int) ∧ ns.length ≤ 63 ∧ ∀ H', Q (.bl true) H'
theorem seq_keep {K : PySem.W.Frag} {H H' : Hp} {a : Addr} {xs : List V} (h : SqL K H a xs) (s : ∀ o, H a = some o → H' a = some o) : SqL K H' a xs := by
  rcases h with (h | ⟨o, h⟩) | h
  · exact .inl (.inl (s _ h))
  · exact .inl (.inr ⟨o, s _ h⟩)
  · exact .inr h
theorem pr_app {α β : Type} {F : α → β → Prop} : ∀ {xs xs' : List α} {ys ys' : List β}, Paired F xs ys → Paired F xs' ys' → Paired F (xs ++ xs') (ys ++ ys')
  | _, _, _, _, .nil, h => h
  | _, _, _, _, .cons q t, h => .cons q (pr_app t h)
section
variable {P : Program} {w : World} {K : PySem.W.Frag} {mg : Str → Option Value} {base : Heap}
theorem scLaw : FnScope ["_law_script", "_law_rows_here", "_law_great", "_law_k", "_law_ahead"] ["_law_script"] (defScope sLaw) := ⟨rfl, rfl, rfl, by decide +kernel, rfl, by decide +kernel, by decide +kernel⟩
set_option maxHeartbeats 8000000 in
theorem ok_law {f C fRo fCh fWd fA fAf : Addr} {fd dRo dCh dWd dA dAf : FuncData} (F : Fun K "law" "law" sLaw f fd) (T : MTxt mg) (Ti : mg "int" = none)
    (GRo : FnOk P w K mg base CX0 3 fRo dRo ["_law_script", "_law_most"] (spRows K)) (DRo : Def K mg "_law_rows" fRo dRo ["_law_script", "_law_most"])
    (GCh : FnOk P w K mg base CX0 2 fCh dCh ["_law_number", "_law_rows_here"] spChanges) (DCh : Def K mg "_law_changes" fCh dCh ["_law_number", "_law_rows_here"])
    (GWd : FnOk P w K mg base CX0 2 fWd dWd ["_law_script", "_law_k"] (spWide K)) (DWd : Def K mg "_law_wide" fWd dWd ["_law_script", "_law_k"])
    (GA : FnOk P w K mg base CX0 1 fA dA ["_law_script", "_law_k"] (spCellAt K)) (DA : Def K mg "_law_cell_at" fA dA ["_law_script", "_law_k"])
    (GAf : FnOk P w K mg base CX0 7 fAf dAf ["_law_rows_here", "_law_ahead", "_law_changes_here"] (spAllFalls C)) (DAf : Def K mg "_law_all_falls" fAf dAf ["_law_rows_here", "_law_ahead", "_law_changes_here"]) :
    FnOk P w K mg base CX0 8 f fd ["_law_script"] (spLaw K) := by
  refine F.ok scLaw (fun vs H Q E h => ?_) (fun cdv A outer s H vs Q E hr h => ?_)
  · obtain ⟨a, ns, rfl, _⟩ := h
    rfl
  · obtain ⟨sc, ns, rfl, hsc, hns, k⟩ := h
    have hs : sizeLine = 16777216 := sizeLine_eq
    have g__law_rows : (defScope sLaw).names.lookup ("_law_rows" : Str) = some NameKind.globalImplicit := by decide +kernel
    have g__law_cell_at : (defScope sLaw).names.lookup ("_law_cell_at" : Str) = some NameKind.globalImplicit := by decide +kernel
    have g_range : (defScope sLaw).names.lookup ("range" : Str) = some NameKind.globalImplicit := by decide +kernel
    have g_int : (defScope sLaw).names.lookup ("int" : Str) = some NameKind.globalImplicit := by decide +kernel
    have g__law_changes : (defScope sLaw).names.lookup ("_law_changes" : Str) = some NameKind.globalImplicit := by decide +kernel
    have g__law_wide : (defScope sLaw).names.lookup ("_law_wide" : Str) = some NameKind.globalImplicit := by decide +kernel
    have g__law_all_falls : (defScope sLaw).names.lookup ("_law_all_falls" : Str) = some NameKind.globalImplicit := by decide +kernel
    refine ⟨_, (pss_cons (ps_set (i := 1) scLaw.nd rfl (Or.inl rfl) (pe_call GRo (hr.mono (by decide)) g__law_rows DRo.mg DRo.kp DRo.b .nil pass0 (pa_cons (pv 0) (pa_cons pe_int pa_nil))))
      (pss_cons (ps_set (i := 2) scLaw.nd rfl (Or.inl rfl) (pe_cmpR op_eq (pe_op op_mod (pe_op op_fdiv (pe_call GA (hr.mono (by decide)) g__law_cell_at DA.mg DA.kp DA.b .nil pass0 (pa_cons (pv 0) (pa_cons pe_int pa_nil))) pe_int) pe_int) pe_int (nomark _)))
      (pss_cons (ps_if (pt_val (pv 2)) (pss_one (ps_set (i := 1) scLaw.nd rfl (Or.inl rfl) (pe_op op_cat (pe_comp (cl := []) (caps := []) ⟨rfl, by decide +kernel, by decide +kernel, rfl, by kernel_rfl, by intro p hp; simp at hp, by kernel_rfl, by intro p hp; simp at hp, by decide +kernel⟩ rfl (pi_range1 g_range T.range (pa_cons pe_int pa_nil)) (fun _ _ _ _ => pts_nil) (fun _ _ _ _ => (pe_op op_rep (pe_lst (pa_cons pe_int pa_nil)) pe_int))) (pv 1)))) pss_nil)
      (pss_cons (ps_for PassesOwn.never rfl (pi_range2 g_range T.range (pa_cons pe_int (pa_cons (pe_ix ix_list (pe_lst (pa_cons pe_int (pa_cons pe_int pa_nil))) (pe_callTy call_int1 g_int Ti bt_int (pa_cons (pv 2) pa_nil)) (fun _ _ => rfl)) pa_nil))) (pg_name (i := 3) scLaw.nd rfl (Or.inl rfl)) (pss_cons (ps_set (i := 4) scLaw.nd rfl (Or.inl rfl) pe_dnewK)
      (pss_cons (ps_if (pt_cmpR op_eq (pe_op op_mod (pe_op op_fdiv (pe_call GA (hr.mono (by decide)) g__law_cell_at DA.mg DA.kp DA.b .nil pass0 (pa_cons (pv 0) (pa_cons pe_int pa_nil))) pe_int) pe_int) pe_int (nomark _)) (pss_one (ps_set (i := 4) scLaw.nd rfl (Or.inl rfl) (pe_call GCh (hr.mono (by decide)) g__law_changes DCh.mg DCh.kp DCh.b .nil pass0 (pa_cons (pe_call GWd (hr.mono (by decide)) g__law_wide DWd.mg DWd.kp DWd.b .nil pass0 (pa_cons (pv 0) (pa_cons (pe_op op_add (pv 3) pe_int) pa_nil))) (pa_cons (pv 1) pa_nil))))) pss_nil)
      (pss_one (ps_if (pt_not (pt_val (pe_call GAf (hr.mono (by decide)) g__law_all_falls DAf.mg DAf.kp DAf.b .nil pass0 (pa_cons (pv 1) (pa_cons (pv 4) (pa_cons (pe_call GCh (hr.mono (by decide)) g__law_changes DCh.mg DCh.kp DCh.b .nil pass0 (pa_cons (pe_call GWd (hr.mono (by decide)) g__law_wide DWd.mg DWd.kp DWd.b .nil pass0 (pa_cons (pv 0) (pa_cons (pv 3) pa_nil))) (pa_cons (pv 1) pa_nil))) pa_nil)))))) (pss_one (ps_ret pe_bl)) pss_nil)))))
      (pss_one (ps_ret pe_bl)))))), ?_⟩
    refine ⟨_, rfl, sc, ns, 25, rfl, hsc, by decide, by decide, fun H1 lr as rs s1 nl hl1 R1 n1 n2 => ?_⟩
    have hsc1 := seq_keep hsc (s1 _)
    refine ⟨_, rfl, sc, ns, 0, rfl, hsc1, _, _, rfl, rfl, ⟨by decide, by decide⟩, _, _, rfl, rfl, (by show (0 : Int) < 8; decide), rfl, ?_⟩
    dsimp only
    generalize decide (V.int (ns.getD 0 0 / 6 % 8) = V.int 5) = gr
    refine ⟨_, rfl, gr, rfl, ?_⟩
    have la := paired_len R1
    refine ite2 (fun hg => ?A) (fun hg => ?B)
    case' A =>
      refine ⟨186, rfl, by decide, by decide, ?_⟩
      refine comp_range0 (lo := 0) (n := (186 : Int).toNat) (fun i ys H2 => ∃ zs : List Addr, ys = zs.map V.ref ∧ zs.length = i ∧ Rows H2 zs (List.replicate i zs16) ∧ Same H1 H2) ⟨[], rfl, rfl, .nil, Same.refl _⟩ ?_ ?_
      · rintro i ys H2 hi ⟨zs, rfl, hz, Rz, s2⟩
        refine ⟨by decide, fun z1 hz1 => ⟨z1, 16, _, rfl, rfl, upd_same, by omega, by omega, by rw [List.length_singleton]; omega, fun z2 hz2 => ?_⟩⟩
        rw [rep1 (V.int 0)]
        have sz := (same_new (X := .lst [V.int 0]) hz1).trans (same_new (X := .lst (List.replicate ((16 : Int)).toNat (V.int 0))) hz2)
        have ez : (upd (upd H2 z1 (.lst [V.int 0])) z2 (.lst (List.replicate ((16 : Int)).toNat (V.int 0)))) z2 = some (.lst (zs16.map V.int)) := by rw [upd_same]; unfold zs16; rw [List.map_replicate]; rfl
        have hi' : i < 186 := hi
        refine ⟨by rw [List.length_map]; omega, zs ++ [z2], by rw [List.map_append]; rfl, by rw [List.length_append, hz]; rfl, ?_, s2.trans sz⟩
        rw [List.replicate_succ']
        exact paired_snoc ⟨ez, by decide +kernel⟩ (Rz.same sz)
      rintro ys H2 ⟨zs, rfl, hz, Rz, s2⟩ l hl'
      have t2 := same_new (X := .lst (zs.map V.ref)) hl'
      refine ⟨_, rfl, l, lr, _, _, rfl, rfl, upd_same, (s2.trans t2) _ _ hl1, by rw [List.length_map, List.length_map]; have : zs.length = 186 := hz; omega, fun l2 hl2 => ?_⟩
      rw [← List.map_append]
      have t3 := same_new (X := .lst ((zs ++ as).map V.ref)) hl2
      have S3 := (s2.trans t2).trans t3
      have hl3 : (upd (upd H2 l (.lst (zs.map V.ref))) l2 (.lst ((zs ++ as).map V.ref))) l2 = some (.lst ((zs ++ as).map V.ref)) := upd_same
      have R3 : Rows (upd (upd H2 l (.lst (zs.map V.ref))) l2 (.lst ((zs ++ as).map V.ref))) (zs ++ as) (List.replicate 186 zs16 ++ rs) := pr_app (Rz.same (t2.trans t3)) (R1.same S3)
      have m1 : 2 ≤ (List.replicate 186 zs16 ++ rs).length := by rw [List.length_append]; omega
      have m2 : (List.replicate 186 zs16 ++ rs).length ≤ 250 := by rw [List.length_append, List.length_replicate]; omega
      generalize upd (upd H2 l (.lst (zs.map V.ref))) l2 (.lst ((zs ++ as).map V.ref)) = H3 at *
      generalize List.replicate 186 zs16 ++ rs = rx at *
      generalize zs ++ as = ax at *
      clear t2 t3 Rz hz hl' hl2
    case' B =>
      obtain ⟨H3, l2, ax, rx, S3, hl3, R3, m1, m2, e1, e2⟩ : ∃ (H3 : Hp) (l2 : Addr) (ax : List Addr) (rx : List (List Int)), Same H1 H3 ∧ H3 l2 = some (.lst (ax.map V.ref)) ∧ Rows H3 ax rx ∧ 2 ≤ rx.length ∧ rx.length ≤ 250 ∧ H1 = H3 ∧ lr = l2 := ⟨H1, lr, as, rs, Same.refl _, hl1, R1, n1, by omega, rfl, rfl⟩
      rw [e1, e2]
      clear e1 e2
    all_goals
      have lx := paired_len R3
      have hat : atI [V.int 3, V.int 2] (if gr = true then 1 else 0) = some (.int (if gr = true then 2 else 3)) := by cases gr <;> rfl
      have hub : (2 : Int) ≤ (if gr = true then 2 else 3) ∧ (if gr = true then 2 else 3) ≤ (3 : Int) := by cases gr <;> decide
      refine ⟨by decide, fun l0 hl0 => ⟨_, rfl, .inr ⟨gr, rfl, l0, _, _, .int (if gr = true then 2 else 3), rfl, rfl, SqL.of upd_same, hat, 1, _, rfl, ⟨by decide, by decide, by omega, by omega⟩, ?_⟩⟩⟩
      have t4 := same_new (X := .lst [V.int 3, V.int 2]) hl0
      have hl4 := t4 _ _ hl3
      have R4 := R3.same t4
      have hsc4 := seq_keep hsc1 ((S3.trans t4) _)
      generalize upd H3 l0 (.lst [V.int 3, V.int 2]) = H4 at *
      generalize (if gr = true then (2 : Int) else 3) = ub at hub ⊢
      refine for_range (lo := 1) (n := (ub - 1).toNat) (fun i σ H7 => ∃ (v3 v4 : Option V), σ = [some (V.ref sc), some (.ref l2), some (.bl gr), v3, v4] ∧ Same H4 H7) ⟨_, _, rfl, Same.refl _⟩ ?_ ?_
      · rintro i σ H7 hi ⟨v3, v4, rfl, s7⟩
        have hi3 : i < 3 := by omega
        rw [show (1 + (i : Int)) = ((1 + i : Nat) : Int) by push_cast; rfl]
        refine fun e he => ?_
        have te := same_new (X := .dK []) he
        have ee : (upd H7 e (.dK [])) e = some (.dK []) := upd_same
        have S8 := s7.trans te
        generalize upd H7 e (.dK []) = H8 at *
        refine ⟨_, rfl, sc, ns, 0, rfl, seq_keep hsc4 (S8 _), _, _, rfl, rfl, ⟨by decide, by decide⟩, _, _, rfl, rfl, (by show (0 : Int) < 3; decide), rfl, _, rfl, ?_⟩
        refine ite2 (fun _ => ?_) (fun _ => ?_)
        · refine ⟨_, rfl, _, rfl, _, _, rfl, rfl, sc, ns, 1 + i + 2, rfl, seq_keep hsc4 (S8 _), by omega, fun u u0 => ?_⟩
          refine ⟨_, rfl, u, l2, ax, rfl, S8 _ _ hl4, by omega, by omega, fun H9 ah La s9 nah cA fA => ?_⟩
          rw [lx] at cA
          have S9 := S8.trans s9
          refine ⟨_, rfl, _, rfl, _, rfl, _, rfl, sc, ns, 1 + i, rfl, seq_keep hsc4 (S9 _), by omega, fun v v0 => ?_⟩
          refine ⟨_, rfl, v, l2, ax, rfl, S9 _ _ hl4, by omega, by omega, fun H10 a L s10 na c10 f10 => ?_⟩
          rw [lx] at c10
          have S10 := S9.trans s10
          exact ⟨l2, ah, a, ax, rx, La, L, rfl, S10 _ _ hl4, R4.same S10, m1, m2, .inr (cA.same s10), c10, fun H11 s11 => ⟨true, rfl, iteF ⟨_, _, rfl, S10.trans s11⟩⟩⟩
        · refine ⟨_, rfl, _, rfl, _, rfl, _, rfl, sc, ns, 1 + i, rfl, seq_keep hsc4 (S8 _), by omega, fun v v0 => ?_⟩
          refine ⟨_, rfl, v, l2, ax, rfl, S8 _ _ hl4, by omega, by omega, fun H10 a L s10 na c10 f10 => ?_⟩
          rw [lx] at c10
          have S10 := S8.trans s10
          exact ⟨l2, e, a, ax, rx, [], L, rfl, S10 _ _ hl4, R4.same S10, m1, m2, .inl ⟨rfl, s10 _ _ ee⟩, c10, fun H11 s11 => ⟨true, rfl, iteF ⟨_, _, rfl, S10.trans s11⟩⟩⟩
      · rintro σ H7 ⟨v3, v4, rfl, s7⟩
        exact k H7
end
end Dk

namespace Dk
open PySem L2
theorem all_mk {l : PySem.W.OpenLaw} {w : World} {K : PySem.W.Frag} {h : Heap} {mg : Str → Option Value} {fa : Addr} (X : K.In h) (G : h.Ns mainGlobals mg) (hfa : mg "law" = some (.ref fa))
    
    {C : Addr}
    {f1 : Addr} {od1 an1 : Option Addr} {sl1 : Array (Option Value)} {oc1 kV1 dc1 pm1 cd1 ct1 : Value}
    {f2 : Addr} {od2 an2 : Option Addr} {sl2 : Array (Option Value)} {oc2 kV2 dc2 pm2 cd2 ct2 : Value}
    {f3 : Addr} {od3 an3 : Option Addr} {sl3 : Array (Option Value)} {oc3 kV3 dc3 pm3 cd3 ct3 : Value}
    {f4 : Addr} {od4 an4 : Option Addr} {sl4 : Array (Option Value)} {oc4 kV4 dc4 pm4 cd4 ct4 : Value}
    {f5 : Addr} {od5 an5 : Option Addr} {sl5 : Array (Option Value)} {oc5 kV5 dc5 pm5 cd5 ct5 : Value}
    {f6 : Addr} {od6 an6 : Option Addr} {sl6 : Array (Option Value)} {oc6 kV6 dc6 pm6 cd6 ct6 : Value}
    {f7 : Addr} {od7 an7 : Option Addr} {sl7 : Array (Option Value)} {oc7 kV7 dc7 pm7 cd7 ct7 : Value}
    {f8 : Addr} {od8 an8 : Option Addr} {sl8 : Array (Option Value)} {oc8 kV8 dc8 pm8 cd8 ct8 : Value}
    {f9 : Addr} {od9 an9 : Option Addr} {sl9 : Array (Option Value)} {oc9 kV9 dc9 pm9 cd9 ct9 : Value}
    {f10 : Addr} {od10 an10 : Option Addr} {sl10 : Array (Option Value)} {oc10 kV10 dc10 pm10 cd10 ct10 : Value}
    {f11 : Addr} {od11 an11 : Option Addr} {sl11 : Array (Option Value)} {oc11 kV11 dc11 pm11 cd11 ct11 : Value}
    {f12 : Addr} {od12 an12 : Option Addr} {sl12 : Array (Option Value)} {oc12 kV12 dc12 pm12 cd12 ct12 : Value}
    {f13 : Addr} {od13 an13 : Option Addr} {sl13 : Array (Option Value)} {oc13 kV13 dc13 pm13 cd13 ct13 : Value}
    {f14 : Addr} {od14 an14 : Option Addr} {sl14 : Array (Option Value)} {oc14 kV14 dc14 pm14 cd14 ct14 : Value}
    {f15 : Addr} {od15 an15 : Option Addr} {sl15 : Array (Option Value)} {oc15 kV15 dc15 pm15 cd15 ct15 : Value}
    {f16 : Addr} {od16 an16 : Option Addr} {sl16 : Array (Option Value)} {oc16 kV16 dc16 pm16 cd16 ct16 : Value}
    {f17 : Addr} {od17 an17 : Option Addr} {sl17 : Array (Option Value)} {oc17 kV17 dc17 pm17 cd17 ct17 : Value}
    {f18 : Addr} {od18 an18 : Option Addr} {sl18 : Array (Option Value)} {oc18 kV18 dc18 pm18 cd18 ct18 : Value}
    {f19 : Addr} {od19 an19 : Option Addr} {sl19 : Array (Option Value)} {oc19 kV19 dc19 pm19 cd19 ct19 : Value}
    {f20 : Addr} {od20 an20 : Option Addr} {sl20 : Array (Option Value)} {oc20 kV20 dc20 pm20 cd20 ct20 : Value}
    {f21 : Addr} {od21 an21 : Option Addr} {sl21 : Array (Option Value)} {oc21 kV21 dc21 pm21 cd21 ct21 : Value}
    {f22 : Addr} {od22 an22 : Option Addr} {sl22 : Array (Option Value)} {oc22 kV22 dc22 pm22 cd22 ct22 : Value}
    {f23 : Addr} {od23 an23 : Option Addr} {sl23 : Array (Option Value)} {oc23 kV23 dc23 pm23 cd23 ct23 : Value}
    {f24 : Addr} {od24 an24 : Option Addr} {sl24 : Array (Option Value)} {oc24 kV24 dc24 pm24 cd24 ct24 : Value}
    {f25 : Addr} {od25 an25 : Option Addr} {sl25 : Array (Option Value)} {oc25 kV25 dc25 pm25 cd25 ct25 : Value}
    {f26 : Addr} {od26 an26 : Option Addr} {sl26 : Array (Option Value)} {oc26 kV26 dc26 pm26 cd26 ct26 : Value}
    {f27 : Addr} {od27 an27 : Option Addr} {sl27 : Array (Option Value)} {oc27 kV27 dc27 pm27 cd27 ct27 : Value}
    {f28 : Addr} {od28 an28 : Option Addr} {sl28 : Array (Option Value)} {oc28 kV28 dc28 pm28 cd28 ct28 : Value}
    {f29 : Addr} {od29 an29 : Option Addr} {sl29 : Array (Option Value)} {oc29 kV29 dc29 pm29 cd29 ct29 : Value}
    {f30 : Addr} {od30 an30 : Option Addr} {sl30 : Array (Option Value)} {oc30 kV30 dc30 pm30 cd30 ct30 : Value}
    {f31 : Addr} {od31 an31 : Option Addr} {sl31 : Array (Option Value)} {oc31 kV31 dc31 pm31 cd31 ct31 : Value}
    {t16 : Tok}
    {t2 : Tok}
    {xFallen xNoBlock : Addr}
    
    (aC : PySem.W.nsIn K mainGlobals "Disk" = some (some (.ref C)))
    (a1 : PySem.W.findIn K (.ref C) "__init__" = some (some (.ref f1)))
    (i1 : PySem.W.isFn K (.ref f1) = true)
    (l1 : K.lookup f1 = some ⟨oc1, od1, .func (PySem.W.fnOf "__init__" "Disk.__init__" (defArgs sInit) (defBody sInit) (defScope sInit) .none kV1 dc1 pm1 an1 cd1 ct1), sl1⟩)
    (c1 : PySem.W.codeIn K cd1 "Disk.__init__" = true)
    (k1 : PySem.W.keepIn K (.ref f1) = true)
    (a2 : PySem.W.findIn K (.ref C) "read" = some (some (.ref f2)))
    (i2 : PySem.W.isFn K (.ref f2) = true)
    (l2 : K.lookup f2 = some ⟨oc2, od2, .func (PySem.W.fnOf "read" "Disk.read" (defArgs sRead) (defBody sRead) (defScope sRead) .none kV2 dc2 pm2 an2 cd2 ct2), sl2⟩)
    (c2 : PySem.W.codeIn K cd2 "Disk.read" = true)
    (k2 : PySem.W.keepIn K (.ref f2) = true)
    (a3 : PySem.W.findIn K (.ref C) "write" = some (some (.ref f3)))
    (i3 : PySem.W.isFn K (.ref f3) = true)
    (l3 : K.lookup f3 = some ⟨oc3, od3, .func (PySem.W.fnOf "write" "Disk.write" (defArgs sWrite) (defBody sWrite) (defScope sWrite) .none kV3 dc3 pm3 an3 cd3 ct3), sl3⟩)
    (c3 : PySem.W.codeIn K cd3 "Disk.write" = true)
    (k3 : PySem.W.keepIn K (.ref f3) = true)
    (a4 : PySem.W.findIn K (.ref C) "fall" = some (some (.ref f4)))
    (i4 : PySem.W.isFn K (.ref f4) = true)
    (l4 : K.lookup f4 = some ⟨oc4, od4, .func (PySem.W.fnOf "fall" "Disk.fall" (defArgs sFall) (defBody sFall) (defScope sFall) .none kV4 dc4 pm4 an4 cd4 ct4), sl4⟩)
    (c4 : PySem.W.codeIn K cd4 "Disk.fall" = true)
    (k4 : PySem.W.keepIn K (.ref f4) = true)
    (a5 : PySem.W.findIn K (.ref C) "rise" = some (some (.ref f5)))
    (i5 : PySem.W.isFn K (.ref f5) = true)
    (l5 : K.lookup f5 = some ⟨oc5, od5, .func (PySem.W.fnOf "rise" "Disk.rise" (defArgs sRise) (defBody sRise) (defScope sRise) .none kV5 dc5 pm5 an5 cd5 ct5), sl5⟩)
    (c5 : PySem.W.codeIn K cd5 "Disk.rise" = true)
    (k5 : PySem.W.keepIn K (.ref f5) = true)
    (a6 : PySem.W.findIn K (.ref C) "image" = some (some (.ref f6)))
    (i6 : PySem.W.isFn K (.ref f6) = true)
    (l6 : K.lookup f6 = some ⟨oc6, od6, .func (PySem.W.fnOf "image" "Disk.image" (defArgs sImage) (defBody sImage) (defScope sImage) .none kV6 dc6 pm6 an6 cd6 ct6), sl6⟩)
    (c6 : PySem.W.codeIn K cd6 "Disk.image" = true)
    (k6 : PySem.W.keepIn K (.ref f6) = true)
    (a7 : PySem.W.findIn K (.ref C) "writes" = some (some (.ref f7)))
    (i7 : PySem.W.isFn K (.ref f7) = true)
    (l7 : K.lookup f7 = some ⟨oc7, od7, .func (PySem.W.fnOf "writes" "Disk.writes" (defArgs sWrites) (defBody sWrites) (defScope sWrites) .none kV7 dc7 pm7 an7 cd7 ct7), sl7⟩)
    (c7 : PySem.W.codeIn K cd7 "Disk.writes" = true)
    (k7 : PySem.W.keepIn K (.ref f7) = true)
    (a8 : PySem.W.findIn K (.ref C) "refuse_no_block" = some (some (.ref f8)))
    (i8 : PySem.W.isFn K (.ref f8) = true)
    (l8 : K.lookup f8 = some ⟨oc8, od8, .func (PySem.W.fnOf "refuse_no_block" "Disk.refuse_no_block" (defArgs sNoBlock) (defBody sNoBlock) (defScope sNoBlock) .none kV8 dc8 pm8 an8 cd8 ct8), sl8⟩)
    (c8 : PySem.W.codeIn K cd8 "Disk.refuse_no_block" = true)
    (k8 : PySem.W.keepIn K (.ref f8) = true)
    (a9 : PySem.W.findIn K (.ref C) "refuse_fallen" = some (some (.ref f9)))
    (i9 : PySem.W.isFn K (.ref f9) = true)
    (l9 : K.lookup f9 = some ⟨oc9, od9, .func (PySem.W.fnOf "refuse_fallen" "Disk.refuse_fallen" (defArgs sFallen) (defBody sFallen) (defScope sFallen) .none kV9 dc9 pm9 an9 cd9 ct9), sl9⟩)
    (c9 : PySem.W.codeIn K cd9 "Disk.refuse_fallen" = true)
    (k9 : PySem.W.keepIn K (.ref f9) = true)
    (pgC : PySem.W.plainGet K C Str.empty = true)
    (hdC : PySem.W.hasDictIn K C = true)
    (poC : PySem.W.plainOver K C = true)
    (saC : PySem.W.findIn K (.ref C) "__setattr__" = some (some (.builtin "object.__setattr__")))
    (mkC : PySem.W.makesIn K C = true)
    (kcC : PySem.W.keepIn K (.ref C) = true)
    (nC0 : PySem.W.findIn K (.ref C) "blocks" = some none)
    (nC1 : PySem.W.findIn K (.ref C) "done" = some none)
    (nC2 : PySem.W.findIn K (.ref C) "until_fall" = some none)
    (nC3 : PySem.W.findIn K (.ref C) "fallen" = some none)
    (a10 : PySem.W.nsIn K mainGlobals "commit" = some (some (.ref f10)))
    (l10 : K.lookup f10 = some ⟨oc10, od10, .func (PySem.W.fnOf "commit" "commit" (defArgs sCommit) (defBody sCommit) (defScope sCommit) .none kV10 dc10 pm10 an10 cd10 ct10), sl10⟩)
    (c10 : PySem.W.codeIn K cd10 "commit" = true)
    (k10 : PySem.W.keepIn K (.ref f10) = true)
    (a11 : PySem.W.nsIn K mainGlobals "recover" = some (some (.ref f11)))
    (l11 : K.lookup f11 = some ⟨oc11, od11, .func (PySem.W.fnOf "recover" "recover" (defArgs sRecover) (defBody sRecover) (defScope sRecover) .none kV11 dc11 pm11 an11 cd11 ct11), sl11⟩)
    (c11 : PySem.W.codeIn K cd11 "recover" = true)
    (k11 : PySem.W.keepIn K (.ref f11) = true)
    (a12 : PySem.W.nsIn K mainGlobals "forget" = some (some (.ref f12)))
    (l12 : K.lookup f12 = some ⟨oc12, od12, .func (PySem.W.fnOf "forget" "forget" (defArgs sForget) (defBody sForget) (defScope sForget) .none kV12 dc12 pm12 an12 cd12 ct12), sl12⟩)
    (c12 : PySem.W.codeIn K cd12 "forget" = true)
    (k12 : PySem.W.keepIn K (.ref f12) = true)
    (a13 : PySem.W.nsIn K mainGlobals "_law_cell_at" = some (some (.ref f13)))
    (l13 : K.lookup f13 = some ⟨oc13, od13, .func (PySem.W.fnOf "_law_cell_at" "_law_cell_at" (defArgs sCellAt) (defBody sCellAt) (defScope sCellAt) .none kV13 dc13 pm13 an13 cd13 ct13), sl13⟩)
    (c13 : PySem.W.codeIn K cd13 "_law_cell_at" = true)
    (k13 : PySem.W.keepIn K (.ref f13) = true)
    (a14 : PySem.W.nsIn K mainGlobals "_law_mixed" = some (some (.ref f14)))
    (l14 : K.lookup f14 = some ⟨oc14, od14, .func (PySem.W.fnOf "_law_mixed" "_law_mixed" (defArgs sMixed) (defBody sMixed) (defScope sMixed) .none kV14 dc14 pm14 an14 cd14 ct14), sl14⟩)
    (c14 : PySem.W.codeIn K cd14 "_law_mixed" = true)
    (k14 : PySem.W.keepIn K (.ref f14) = true)
    (a15 : PySem.W.nsIn K mainGlobals "_law_wide" = some (some (.ref f15)))
    (l15 : K.lookup f15 = some ⟨oc15, od15, .func (PySem.W.fnOf "_law_wide" "_law_wide" (defArgs sWide) (defBody sWide) (defScope sWide) .none kV15 dc15 pm15 an15 cd15 ct15), sl15⟩)
    (c15 : PySem.W.codeIn K cd15 "_law_wide" = true)
    (k15 : PySem.W.keepIn K (.ref f15) = true)
    (a16 : PySem.W.nsIn K mainGlobals "_law_numbers" = some (some (.ref f16)))
    (l16 : K.lookup f16 = some ⟨oc16, od16, .func (PySem.W.fnOf "_law_numbers" "_law_numbers" (defArgs sNumbers) (defBody sNumbers) (defScope sNumbers) .none kV16 dc16 pm16 an16 cd16 ct16), sl16⟩)
    (c16 : PySem.W.codeIn K cd16 "_law_numbers" = true)
    (k16 : PySem.W.keepIn K (.ref f16) = true)
    (a17 : PySem.W.nsIn K mainGlobals "_law_row_is" = some (some (.ref f17)))
    (l17 : K.lookup f17 = some ⟨oc17, od17, .func (PySem.W.fnOf "_law_row_is" "_law_row_is" (defArgs sRowIs) (defBody sRowIs) (defScope sRowIs) .none kV17 dc17 pm17 an17 cd17 ct17), sl17⟩)
    (c17 : PySem.W.codeIn K cd17 "_law_row_is" = true)
    (k17 : PySem.W.keepIn K (.ref f17) = true)
    (a18 : PySem.W.nsIn K mainGlobals "_law_rows_are" = some (some (.ref f18)))
    (l18 : K.lookup f18 = some ⟨oc18, od18, .func (PySem.W.fnOf "_law_rows_are" "_law_rows_are" (defArgs sRowsAre) (defBody sRowsAre) (defScope sRowsAre) .none kV18 dc18 pm18 an18 cd18 ct18), sl18⟩)
    (c18 : PySem.W.codeIn K cd18 "_law_rows_are" = true)
    (k18 : PySem.W.keepIn K (.ref f18) = true)
    (a19 : PySem.W.nsIn K mainGlobals "_law_count_is" = some (some (.ref f19)))
    (l19 : K.lookup f19 = some ⟨oc19, od19, .func (PySem.W.fnOf "_law_count_is" "_law_count_is" (defArgs sCountIs) (defBody sCountIs) (defScope sCountIs) .none kV19 dc19 pm19 an19 cd19 ct19), sl19⟩)
    (c19 : PySem.W.codeIn K cd19 "_law_count_is" = true)
    (k19 : PySem.W.keepIn K (.ref f19) = true)
    (a20 : PySem.W.nsIn K mainGlobals "_law_rows" = some (some (.ref f20)))
    (l20 : K.lookup f20 = some ⟨oc20, od20, .func (PySem.W.fnOf "_law_rows" "_law_rows" (defArgs sRows) (defBody sRows) (defScope sRows) .none kV20 dc20 pm20 an20 cd20 ct20), sl20⟩)
    (c20 : PySem.W.codeIn K cd20 "_law_rows" = true)
    (k20 : PySem.W.keepIn K (.ref f20) = true)
    (a21 : PySem.W.nsIn K mainGlobals "_law_disk" = some (some (.ref f21)))
    (l21 : K.lookup f21 = some ⟨oc21, od21, .func (PySem.W.fnOf "_law_disk" "_law_disk" (defArgs sDisk) (defBody sDisk) (defScope sDisk) .none kV21 dc21 pm21 an21 cd21 ct21), sl21⟩)
    (c21 : PySem.W.codeIn K cd21 "_law_disk" = true)
    (k21 : PySem.W.keepIn K (.ref f21) = true)
    (a22 : PySem.W.nsIn K mainGlobals "_law_changes" = some (some (.ref f22)))
    (l22 : K.lookup f22 = some ⟨oc22, od22, .func (PySem.W.fnOf "_law_changes" "_law_changes" (defArgs sChanges) (defBody sChanges) (defScope sChanges) .none kV22 dc22 pm22 an22 cd22 ct22), sl22⟩)
    (c22 : PySem.W.codeIn K cd22 "_law_changes" = true)
    (k22 : PySem.W.keepIn K (.ref f22) = true)
    (a23 : PySem.W.nsIn K mainGlobals "_law_changed" = some (some (.ref f23)))
    (l23 : K.lookup f23 = some ⟨oc23, od23, .func (PySem.W.fnOf "_law_changed" "_law_changed" (defArgs sChanged) (defBody sChanged) (defScope sChanged) .none kV23 dc23 pm23 an23 cd23 ct23), sl23⟩)
    (c23 : PySem.W.codeIn K cd23 "_law_changed" = true)
    (k23 : PySem.W.keepIn K (.ref f23) = true)
    (a24 : PySem.W.nsIn K mainGlobals "_law_handed" = some (some (.ref f24)))
    (l24 : K.lookup f24 = some ⟨oc24, od24, .func (PySem.W.fnOf "_law_handed" "_law_handed" (defArgs sHanded) (defBody sHanded) (defScope sHanded) .none kV24 dc24 pm24 an24 cd24 ct24), sl24⟩)
    (c24 : PySem.W.codeIn K cd24 "_law_handed" = true)
    (k24 : PySem.W.keepIn K (.ref f24) = true)
    (a25 : PySem.W.nsIn K mainGlobals "_law_fell" = some (some (.ref f25)))
    (l25 : K.lookup f25 = some ⟨oc25, od25, .func (PySem.W.fnOf "_law_fell" "_law_fell" (defArgs sFell) (defBody sFell) (defScope sFell) .none kV25 dc25 pm25 an25 cd25 ct25), sl25⟩)
    (c25 : PySem.W.codeIn K cd25 "_law_fell" = true)
    (k25 : PySem.W.keepIn K (.ref f25) = true)
    (a26 : PySem.W.nsIn K mainGlobals "_law_mended" = some (some (.ref f26)))
    (l26 : K.lookup f26 = some ⟨oc26, od26, .func (PySem.W.fnOf "_law_mended" "_law_mended" (defArgs sMended) (defBody sMended) (defScope sMended) .none kV26 dc26 pm26 an26 cd26 ct26), sl26⟩)
    (c26 : PySem.W.codeIn K cd26 "_law_mended" = true)
    (k26 : PySem.W.keepIn K (.ref f26) = true)
    (a27 : PySem.W.nsIn K mainGlobals "_law_carried" = some (some (.ref f27)))
    (l27 : K.lookup f27 = some ⟨oc27, od27, .func (PySem.W.fnOf "_law_carried" "_law_carried" (defArgs sCarried) (defBody sCarried) (defScope sCarried) .none kV27 dc27 pm27 an27 cd27 ct27), sl27⟩)
    (c27 : PySem.W.codeIn K cd27 "_law_carried" = true)
    (k27 : PySem.W.keepIn K (.ref f27) = true)
    (a28 : PySem.W.nsIn K mainGlobals "_law_made" = some (some (.ref f28)))
    (l28 : K.lookup f28 = some ⟨oc28, od28, .func (PySem.W.fnOf "_law_made" "_law_made" (defArgs sMade) (defBody sMade) (defScope sMade) .none kV28 dc28 pm28 an28 cd28 ct28), sl28⟩)
    (c28 : PySem.W.codeIn K cd28 "_law_made" = true)
    (k28 : PySem.W.keepIn K (.ref f28) = true)
    (a29 : PySem.W.nsIn K mainGlobals "_law_falls" = some (some (.ref f29)))
    (l29 : K.lookup f29 = some ⟨oc29, od29, .func (PySem.W.fnOf "_law_falls" "_law_falls" (defArgs sFalls) (defBody sFalls) (defScope sFalls) .none kV29 dc29 pm29 an29 cd29 ct29), sl29⟩)
    (c29 : PySem.W.codeIn K cd29 "_law_falls" = true)
    (k29 : PySem.W.keepIn K (.ref f29) = true)
    (a30 : PySem.W.nsIn K mainGlobals "_law_all_falls" = some (some (.ref f30)))
    (l30 : K.lookup f30 = some ⟨oc30, od30, .func (PySem.W.fnOf "_law_all_falls" "_law_all_falls" (defArgs sAllFalls) (defBody sAllFalls) (defScope sAllFalls) .none kV30 dc30 pm30 an30 cd30 ct30), sl30⟩)
    (c30 : PySem.W.codeIn K cd30 "_law_all_falls" = true)
    (k30 : PySem.W.keepIn K (.ref f30) = true)
    (a31 : PySem.W.nsIn K mainGlobals "law" = some (some (.ref f31)))
    (l31 : K.lookup f31 = some ⟨oc31, od31, .func (PySem.W.fnOf "law" "law" (defArgs sLaw) (defBody sLaw) (defScope sLaw) .none kV31 dc31 pm31 an31 cd31 ct31), sl31⟩)
    (c31 : PySem.W.codeIn K cd31 "law" = true)
    (k31 : PySem.W.keepIn K (.ref f31) = true)
    (q0 : PySem.W.nsIn K mainGlobals "BLOCK_NUMBERS" = some (some (.int 16 t16)))
    (q1 : PySem.W.nsIn K mainGlobals "FIRST_LIST" = some (some (.int 2 t2)))
    (z_isinstance : PySem.W.nsIn K mainGlobals "isinstance" = some none)
    (z_int : PySem.W.nsIn K mainGlobals "int" = some none)
    (z_bool : PySem.W.nsIn K mainGlobals "bool" = some none)
    (z_list : PySem.W.nsIn K mainGlobals "list" = some none)
    (z_len : PySem.W.nsIn K mainGlobals "len" = some none)
    (z_range : PySem.W.nsIn K mainGlobals "range" = some none)
    (z_all : PySem.W.nsIn K mainGlobals "all" = some none)
    (z_zip : PySem.W.nsIn K mainGlobals "zip" = some none)
    (z_abs : PySem.W.nsIn K mainGlobals "abs" = some none)
    (z_min : PySem.W.nsIn K mainGlobals "min" = some none)
    (z_max : PySem.W.nsIn K mainGlobals "max" = some none)
    (z_dict : PySem.W.nsIn K mainGlobals "dict" = some none)
    (z_enumerate : PySem.W.nsIn K mainGlobals "enumerate" = some none)
    (z_sorted : PySem.W.nsIn K mainGlobals "sorted" = some none)
    (yFallen : PySem.W.nsIn K mainGlobals "Fallen" = some (some (.ref xFallen)))
    (yNoBlock : PySem.W.nsIn K mainGlobals "NoBlock" = some (some (.ref xNoBlock)))
    (vEx : PySem.W.excIn K xNoBlock veMro "ValueError.__new__" = true)
    (vEf : PySem.W.excIn K xFallen veMro "ValueError.__new__" = true)
    (vFF : PySem.W.exmOne K (.ref xFallen) (.ref xFallen) = some true) :
    ∃ fd : FuncData, (∀ (s : Shared) (v : Value), BindsTo s fd ⟨[v], []⟩ [("_law_script", v)]) ∧ ∀ base : Heap, K.In base → base.Ns mainGlobals mg → FnOk l.prog w K mg base CX0 8 fa fd ["_law_script"] (spLaw K) := by
  have e := hfa.symm.trans (PySem.W.mg_of X G a31)
  cases e
  have F1 := fun_mk (st := sInit) l1 c1 k1
  have F2 := fun_mk (st := sRead) l2 c2 k2
  have F3 := fun_mk (st := sWrite) l3 c3 k3
  have F4 := fun_mk (st := sFall) l4 c4 k4
  have F5 := fun_mk (st := sRise) l5 c5 k5
  have F6 := fun_mk (st := sImage) l6 c6 k6
  have F7 := fun_mk (st := sWrites) l7 c7 k7
  have F8 := fun_mk (st := sNoBlock) l8 c8 k8
  have F9 := fun_mk (st := sFallen) l9 c9 k9
  have F10 := fun_mk (st := sCommit) l10 c10 k10
  have F11 := fun_mk (st := sRecover) l11 c11 k11
  have F12 := fun_mk (st := sForget) l12 c12 k12
  have F13 := fun_mk (st := sCellAt) l13 c13 k13
  have F14 := fun_mk (st := sMixed) l14 c14 k14
  have F15 := fun_mk (st := sWide) l15 c15 k15
  have F16 := fun_mk (st := sNumbers) l16 c16 k16
  have F17 := fun_mk (st := sRowIs) l17 c17 k17
  have F18 := fun_mk (st := sRowsAre) l18 c18 k18
  have F19 := fun_mk (st := sCountIs) l19 c19 k19
  have F20 := fun_mk (st := sRows) l20 c20 k20
  have F21 := fun_mk (st := sDisk) l21 c21 k21
  have F22 := fun_mk (st := sChanges) l22 c22 k22
  have F23 := fun_mk (st := sChanged) l23 c23 k23
  have F24 := fun_mk (st := sHanded) l24 c24 k24
  have F25 := fun_mk (st := sFell) l25 c25 k25
  have F26 := fun_mk (st := sMended) l26 c26 k26
  have F27 := fun_mk (st := sCarried) l27 c27 k27
  have F28 := fun_mk (st := sMade) l28 c28 k28
  have F29 := fun_mk (st := sFalls) l29 c29 k29
  have F30 := fun_mk (st := sAllFalls) l30 c30 k30
  have F31 := fun_mk (st := sLaw) l31 c31 k31
  have b1 := F1.binds (ps := ["self", "many"]) fun _ _ _ _ _ _ us hl => match us, hl with | [_, _], _ => rfl
  have b2 := F2.binds (ps := ["self", "n"]) fun _ _ _ _ _ _ us hl => match us, hl with | [_, _], _ => rfl
  have b3 := F3.binds (ps := ["self", "n", "numbers"]) fun _ _ _ _ _ _ us hl => match us, hl with | [_, _, _], _ => rfl
  have b4 := F4.binds (ps := ["self", "after"]) fun _ _ _ _ _ _ us hl => match us, hl with | [_, _], _ => rfl
  have b5 := F5.binds (ps := ["self"]) fun _ _ _ _ _ _ us hl => match us, hl with | [_], _ => rfl
  have b6 := F6.binds (ps := ["self"]) fun _ _ _ _ _ _ us hl => match us, hl with | [_], _ => rfl
  have b7 := F7.binds (ps := ["self"]) fun _ _ _ _ _ _ us hl => match us, hl with | [_], _ => rfl
  have b8 := F8.binds (ps := ["self", "n"]) fun _ _ _ _ _ _ us hl => match us, hl with | [_, _], _ => rfl
  have b9 := F9.binds (ps := ["self"]) fun _ _ _ _ _ _ us hl => match us, hl with | [_], _ => rfl
  have b10 := F10.binds (ps := ["disk", "changes"]) fun _ _ _ _ _ _ us hl => match us, hl with | [_, _], _ => rfl
  have b11 := F11.binds (ps := ["disk"]) fun _ _ _ _ _ _ us hl => match us, hl with | [_], _ => rfl
  have b12 := F12.binds (ps := ["disk"]) fun _ _ _ _ _ _ us hl => match us, hl with | [_], _ => rfl
  have b13 := F13.binds (ps := ["_law_script", "_law_k"]) fun _ _ _ _ _ _ us hl => match us, hl with | [_, _], _ => rfl
  have b14 := F14.binds (ps := ["_law_cell", "_law_k"]) fun _ _ _ _ _ _ us hl => match us, hl with | [_, _], _ => rfl
  have b15 := F15.binds (ps := ["_law_script", "_law_k"]) fun _ _ _ _ _ _ us hl => match us, hl with | [_, _], _ => rfl
  have b16 := F16.binds (ps := ["_law_number"]) fun _ _ _ _ _ _ us hl => match us, hl with | [_], _ => rfl
  have b17 := F17.binds (ps := ["_law_found", "_law_due"]) fun _ _ _ _ _ _ us hl => match us, hl with | [_, _], _ => rfl
  have b18 := F18.binds (ps := ["_law_found", "_law_due"]) fun _ _ _ _ _ _ us hl => match us, hl with | [_, _], _ => rfl
  have b19 := F19.binds (ps := ["_law_found", "_law_due"]) fun _ _ _ _ _ _ us hl => match us, hl with | [_, _], _ => rfl
  have b20 := F20.binds (ps := ["_law_script", "_law_most"]) fun _ _ _ _ _ _ us hl => match us, hl with | [_, _], _ => rfl
  have b21 := F21.binds (ps := ["_law_rows_here"]) fun _ _ _ _ _ _ us hl => match us, hl with | [_], _ => rfl
  have b22 := F22.binds (ps := ["_law_number", "_law_rows_here"]) fun _ _ _ _ _ _ us hl => match us, hl with | [_, _], _ => rfl
  have b23 := F23.binds (ps := ["_law_rows_here", "_law_changes_here"]) fun _ _ _ _ _ _ us hl => match us, hl with | [_, _], _ => rfl
  have b24 := F24.binds (ps := ["_law_changes_here"]) fun _ _ _ _ _ _ us hl => match us, hl with | [_], _ => rfl
  have b25 := F25.binds (ps := ["_law_disk_here", "_law_changes_here"]) fun _ _ _ _ _ _ us hl => match us, hl with | [_, _], _ => rfl
  have b26 := F26.binds (ps := ["_law_disk_here"]) fun _ _ _ _ _ _ us hl => match us, hl with | [_], _ => rfl
  have b27 := F27.binds (ps := ["_law_disk_here"]) fun _ _ _ _ _ _ us hl => match us, hl with | [_], _ => rfl
  have b28 := F28.binds (ps := ["_law_rows_here", "_law_ahead"]) fun _ _ _ _ _ _ us hl => match us, hl with | [_, _], _ => rfl
  have b29 := F29.binds (ps := ["_law_rows_here", "_law_many"]) fun _ _ _ _ _ _ us hl => match us, hl with | [_, _], _ => rfl
  have b30 := F30.binds (ps := ["_law_rows_here", "_law_ahead", "_law_changes_here"]) fun _ _ _ _ _ _ us hl => match us, hl with | [_, _, _], _ => rfl
  have T : Txt K mg C := ⟨⟨pgC, hdC, poC, saC⟩, nC0, nC1, nC2, nC3, PySem.W.mg_none_of X G z_len, PySem.W.mg_none_of X G z_list, PySem.W.mg_none_of X G z_range, ⟨_, PySem.W.mg_of X G q0, ⟨_, rfl⟩⟩⟩
  have LT : LTxt mg := ⟨PySem.W.mg_none_of X G z_isinstance, PySem.W.mg_none_of X G z_int, PySem.W.mg_none_of X G z_bool, PySem.W.mg_none_of X G z_list, PySem.W.mg_none_of X G z_len, PySem.W.mg_none_of X G z_range, PySem.W.mg_none_of X G z_all, PySem.W.mg_none_of X G z_zip, PySem.W.mg_none_of X G z_abs, PySem.W.mg_none_of X G z_min⟩
  have JT : JTxt mg := ⟨⟨_, PySem.W.mg_of X G q0, ⟨_, rfl⟩⟩, ⟨_, PySem.W.mg_of X G q1, ⟨_, rfl⟩⟩, PySem.W.mg_none_of X G z_sorted, PySem.W.mg_none_of X G z_enumerate, PySem.W.mg_none_of X G z_len, PySem.W.mg_none_of X G z_range⟩
  have MT : MTxt mg := ⟨PySem.W.mg_none_of X G z_list, PySem.W.mg_none_of X G z_len, PySem.W.mg_none_of X G z_range, PySem.W.mg_none_of X G z_min, PySem.W.mg_none_of X G z_max, PySem.W.mg_none_of X G z_dict, PySem.W.mg_none_of X G z_enumerate⟩
  have XT : XTxt K mg "NoBlock" xNoBlock := ⟨PySem.W.mg_of X G yNoBlock, vEx⟩
  have XF : XTxt K mg "Fallen" xFallen := ⟨PySem.W.mg_of X G yFallen, vEf⟩
  refine ⟨PySem.W.fnOf "law" "law" (defArgs sLaw) (defBody sLaw) (defScope sLaw) .none kV31 dc31 pm31 an31 cd31 ct31, fun s v => .of_eq rfl, fun base _ _ => ?_⟩
  have GN := ok_noBlock (P := l.prog) (w := w) (base := base) F8 T XT
  have GF := ok_fallen (P := l.prog) (w := w) (base := base) F9 T XF
  have GR := ok_read F2 T GN b8 ⟨a8, i8, k8⟩ GF b9 ⟨a9, i9, k9⟩
  have GW := ok_write F3 T GN b8 ⟨a8, i8, k8⟩ GF b9 ⟨a9, i9, k9⟩
  have GIm := ok_image (P := l.prog) (w := w) (base := base) F6 T
  have GFo := ok_forget F12 JT T GW b3 ⟨a3, i3, k3⟩
  have GV := ok_recover F11 JT T GR b2 ⟨a2, i2, k2⟩ GW b3 ⟨a3, i3, k3⟩ GFo ⟨PySem.W.mg_of X G a12, k12, b12⟩
  have GCo := ok_commit F10 JT T GR b2 ⟨a2, i2, k2⟩ GW b3 ⟨a3, i3, k3⟩ GV ⟨PySem.W.mg_of X G a11, k11, b11⟩
  have GA := ok_cellAt (P := l.prog) (w := w) (base := base) F13 LT
  have GM := ok_mixed (P := l.prog) (w := w) (base := base) (mg := mg) F14
  have GWd := ok_wide F15 LT GA ⟨PySem.W.mg_of X G a13, k13, b13⟩ GM ⟨PySem.W.mg_of X G a14, k14, b14⟩
  have GNu := ok_numbers (P := l.prog) (w := w) (base := base) F16 LT
  have GRi := ok_rowIsG (P := l.prog) (w := w) (base := base) F17 LT
  have GRa := ok_rowsAreG F18 LT GRi ⟨PySem.W.mg_of X G a17, k17, b17⟩
  have GCi := ok_countIsG (P := l.prog) (w := w) (base := base) F19 LT
  have GRo := ok_rows F20 LT GWd ⟨PySem.W.mg_of X G a15, k15, b15⟩
  have GI := ok_init (P := l.prog) (w := w) (base := base) F1 T
  have GDi := ok_disk F21 MT T (PySem.W.mg_of X G aC) ⟨mkC, a1, i1, kcC⟩ GI b1 GW b3 ⟨a3, i3, k3⟩
  have GCh := ok_changes F22 MT GNu ⟨PySem.W.mg_of X G a16, k16, b16⟩
  have GCd := ok_changed (P := l.prog) (w := w) (base := base) F23 MT
  have GHa := ok_handed (P := l.prog) (w := w) (base := base) F24 MT
  have GFl := ok_fall (P := l.prog) (w := w) (base := base) F4 T
  have GRs := ok_rise (P := l.prog) (w := w) (base := base) F5 T
  have GFe := ok_fell F25 (PySem.W.mg_of X G yFallen) vFF GV ⟨PySem.W.mg_of X G a11, k11, b11⟩ GCo ⟨PySem.W.mg_of X G a10, k10, b10⟩
  have GMe := ok_mended F26 T GV ⟨PySem.W.mg_of X G a11, k11, b11⟩ GCi ⟨PySem.W.mg_of X G a19, k19, b19⟩ GRa ⟨PySem.W.mg_of X G a18, k18, b18⟩ GIm b6 ⟨a6, i6, k6⟩
  have GS := ok_writes (P := l.prog) (w := w) (base := base) F7 T
  have GCa := ok_carried F27 MT T (PySem.W.mg_of X G aC) ⟨mkC, a1, i1, kcC⟩ GI b1 GW b3 ⟨a3, i3, k3⟩ GIm b6 ⟨a6, i6, k6⟩
  have GMa := ok_made F28 MT GDi ⟨PySem.W.mg_of X G a21, k21, b21⟩ GCo ⟨PySem.W.mg_of X G a10, k10, b10⟩ GHa ⟨PySem.W.mg_of X G a24, k24, b24⟩
  have GFs := ok_falls (P := l.prog) (w := w) (base := base) F29 MT
  have GAf := ok_allFalls F30 MT T GMa ⟨PySem.W.mg_of X G a28, k28, b28⟩ GFs ⟨PySem.W.mg_of X G a29, k29, b29⟩ GFe ⟨PySem.W.mg_of X G a25, k25, b25⟩ GHa ⟨PySem.W.mg_of X G a24, k24, b24⟩ GCo ⟨PySem.W.mg_of X G a10, k10, b10⟩ GCd ⟨PySem.W.mg_of X G a23, k23, b23⟩ GS b7 ⟨a7, i7, k7⟩ GFl b4 ⟨a4, i4, k4⟩ GRs b5 ⟨a5, i5, k5⟩ GCa ⟨PySem.W.mg_of X G a27, k27, b27⟩ GIm b6 ⟨a6, i6, k6⟩ GMe ⟨PySem.W.mg_of X G a26, k26, b26⟩ GCi ⟨PySem.W.mg_of X G a19, k19, b19⟩ GRa ⟨PySem.W.mg_of X G a18, k18, b18⟩
  exact ok_law F31 MT (PySem.W.mg_none_of X G z_int) GRo ⟨PySem.W.mg_of X G a20, k20, b20⟩ GCh ⟨PySem.W.mg_of X G a22, k22, b22⟩ GWd ⟨PySem.W.mg_of X G a15, k15, b15⟩ GA ⟨PySem.W.mg_of X G a13, k13, b13⟩ GAf ⟨PySem.W.mg_of X G a30, k30, b30⟩
theorem walk {l : PySem.W.OpenLaw} {q : Program} {loose : List Str} {XP : (Str → Option Value) → Heap → Prop} {YP : World → Heap → Prop} {d : DefRec} {K : Params → PySem.W.Frag} (hn : l.most = some 63) (hdf : d.params.defaults = [])
    (hY : ∀ (w : World) (h : Heap), YP w h → (K w.params).In h)
    (F : ∀ (w : World) (mg : Str → Option Value) (fa : Addr) (h : Heap), (K w.params).In h → h.Ns mainGlobals mg → mg d.name = some (.ref fa) →
      ∃ fd : FuncData, (∀ (s : Shared) (u : Value), BindsTo s fd ⟨[u], []⟩ [("_law_script", u)]) ∧ ∀ base : Heap, (K w.params).In base → base.Ns mainGlobals mg → FnOk l.prog w (K w.params) mg base CX0 8 fa fd ["_law_script"] (spLaw (K w.params))) :
    PySem.W.WalkO q loose XP YP l.row.toRowW d [] (fun f vs => PySem.call f vs) :=
  L2.walk_of (n := 63) (k := 8) (x := "_law_script") (CX := fun _ => CX0) (sp := fun w => spLaw (K w.params)) hn (by decide) hdf ⟨rfl, by decide, by decide⟩ hY F (fun _ _ a ns hl _ hS => ⟨a, ns, rfl, hS, hl, fun _ => rfl⟩) fun _ _ _ _ _ z => z
end Dk
open PySem PySem.W PyProof.Rows
set_option maxRecDepth 100000 in
set_option maxHeartbeats 0 in
theorem PySem.Challenge.cw_ownroom_k28_each_fall_of_a_commit_holds : PySem.Challenge.rw_ownroom_k28_each_fall_of_a_commit.Holds := by
  w_on; o_law; k_head; (case hw => w_witness2)
  k_fill
  refine Dk.walk (l := PySem.Challenge.rw_ownroom_k28_each_fall_of_a_commit) rfl rfl (fun w h Y => PySem.W.kIn_of Y) ?F
  case F =>
    intro w mg fa h KX G hmg
    refine' Dk.all_mk KX G hmg ?aC ?a1 ?i1 ?l1 ?c1 ?k1 ?a2 ?i2 ?l2 ?c2 ?k2 ?a3 ?i3 ?l3 ?c3 ?k3 ?a4 ?i4 ?l4 ?c4 ?k4 ?a5 ?i5 ?l5 ?c5 ?k5 ?a6 ?i6 ?l6 ?c6 ?k6 ?a7 ?i7 ?l7 ?c7 ?k7 ?a8 ?i8 ?l8 ?c8 ?k8 ?a9 ?i9 ?l9 ?c9 ?k9 ?pgC ?hdC ?poC ?saC ?mkC ?kcC ?nC0 ?nC1 ?nC2 ?nC3 ?a10 ?l10 ?c10 ?k10 ?a11 ?l11 ?c11 ?k11 ?a12 ?l12 ?c12 ?k12 ?a13 ?l13 ?c13 ?k13 ?a14 ?l14 ?c14 ?k14 ?a15 ?l15 ?c15 ?k15 ?a16 ?l16 ?c16 ?k16 ?a17 ?l17 ?c17 ?k17 ?a18 ?l18 ?c18 ?k18 ?a19 ?l19 ?c19 ?k19 ?a20 ?l20 ?c20 ?k20 ?a21 ?l21 ?c21 ?k21 ?a22 ?l22 ?c22 ?k22 ?a23 ?l23 ?c23 ?k23 ?a24 ?l24 ?c24 ?k24 ?a25 ?l25 ?c25 ?k25 ?a26 ?l26 ?c26 ?k26 ?a27 ?l27 ?c27 ?k27 ?a28 ?l28 ?c28 ?k28 ?a29 ?l29 ?c29 ?k29 ?a30 ?l30 ?c30 ?k30 ?a31 ?l31 ?c31 ?k31 ?q0 ?q1 ?z_isinstance ?z_int ?z_bool ?z_list ?z_len ?z_range ?z_all ?z_zip ?z_abs ?z_min ?z_max ?z_dict ?z_enumerate ?z_sorted ?yFallen ?yNoBlock ?vEx ?vEf ?vFF
    (case aC => k_is)
    (case a1 => k_is)
    (case i1 => k_is)
    (case l1 => k_is)
    (case c1 => k_is)
    (case k1 => k_is)
    (case a2 => k_is)
    (case i2 => k_is)
    (case l2 => k_is)
    (case c2 => k_is)
    (case k2 => k_is)
    (case a3 => k_is)
    (case i3 => k_is)
    (case l3 => k_is)
    (case c3 => k_is)
    (case k3 => k_is)
    (case a4 => k_is)
    (case i4 => k_is)
    (case l4 => k_is)
    (case c4 => k_is)
    (case k4 => k_is)
    (case a5 => k_is)
    (case i5 => k_is)
    (case l5 => k_is)
    (case c5 => k_is)
    (case k5 => k_is)
    (case a6 => k_is)
    (case i6 => k_is)
    (case l6 => k_is)
    (case c6 => k_is)
    (case k6 => k_is)
    (case a7 => k_is)
    (case i7 => k_is)
    (case l7 => k_is)
    (case c7 => k_is)
    (case k7 => k_is)
    (case a8 => k_is)
    (case i8 => k_is)
    (case l8 => k_is)
    (case c8 => k_is)
    (case k8 => k_is)
    (case a9 => k_is)
    (case i9 => k_is)
    (case l9 => k_is)
    (case c9 => k_is)
    (case k9 => k_is)
    (case pgC => k_is)
    (case hdC => k_is)
    (case poC => k_is)
    (case saC => k_is)
    (case mkC => k_is)
    (case kcC => k_is)
    (case nC0 => k_is)
    (case nC1 => k_is)
    (case nC2 => k_is)
    (case nC3 => k_is)
    (case a10 => k_is)
    (case l10 => k_is)
    (case c10 => k_is)
    (case k10 => k_is)
    (case a11 => k_is)
    (case l11 => k_is)
    (case c11 => k_is)
    (case k11 => k_is)
    (case a12 => k_is)
    (case l12 => k_is)
    (case c12 => k_is)
    (case k12 => k_is)
    (case a13 => k_is)
    (case l13 => k_is)
    (case c13 => k_is)
    (case k13 => k_is)
    (case a14 => k_is)
    (case l14 => k_is)
    (case c14 => k_is)
    (case k14 => k_is)
    (case a15 => k_is)
    (case l15 => k_is)
    (case c15 => k_is)
    (case k15 => k_is)
    (case a16 => k_is)
    (case l16 => k_is)
    (case c16 => k_is)
    (case k16 => k_is)
    (case a17 => k_is)
    (case l17 => k_is)
    (case c17 => k_is)
    (case k17 => k_is)
    (case a18 => k_is)
    (case l18 => k_is)
    (case c18 => k_is)
    (case k18 => k_is)
    (case a19 => k_is)
    (case l19 => k_is)
    (case c19 => k_is)
    (case k19 => k_is)
    (case a20 => k_is)
    (case l20 => k_is)
    (case c20 => k_is)
    (case k20 => k_is)
    (case a21 => k_is)
    (case l21 => k_is)
    (case c21 => k_is)
    (case k21 => k_is)
    (case a22 => k_is)
    (case l22 => k_is)
    (case c22 => k_is)
    (case k22 => k_is)
    (case a23 => k_is)
    (case l23 => k_is)
    (case c23 => k_is)
    (case k23 => k_is)
    (case a24 => k_is)
    (case l24 => k_is)
    (case c24 => k_is)
    (case k24 => k_is)
    (case a25 => k_is)
    (case l25 => k_is)
    (case c25 => k_is)
    (case k25 => k_is)
    (case a26 => k_is)
    (case l26 => k_is)
    (case c26 => k_is)
    (case k26 => k_is)
    (case a27 => k_is)
    (case l27 => k_is)
    (case c27 => k_is)
    (case k27 => k_is)
    (case a28 => k_is)
    (case l28 => k_is)
    (case c28 => k_is)
    (case k28 => k_is)
    (case a29 => k_is)
    (case l29 => k_is)
    (case c29 => k_is)
    (case k29 => k_is)
    (case a30 => k_is)
    (case l30 => k_is)
    (case c30 => k_is)
    (case k30 => k_is)
    (case a31 => k_is)
    (case l31 => k_is)
    (case c31 => k_is)
    (case k31 => k_is)
    (case q0 => k_is)
    (case q1 => k_is)
    (case z_isinstance => k_is)
    (case z_int => k_is)
    (case z_bool => k_is)
    (case z_list => k_is)
    (case z_len => k_is)
    (case z_range => k_is)
    (case z_all => k_is)
    (case z_zip => k_is)
    (case z_abs => k_is)
    (case z_min => k_is)
    (case z_max => k_is)
    (case z_dict => k_is)
    (case z_enumerate => k_is)
    (case z_sorted => k_is)
    (case yFallen => k_is)
    (case yNoBlock => k_is)
    (case vEx => k_exc)
    (case vEf => k_exc)
    (case vFF => kts_exm)
