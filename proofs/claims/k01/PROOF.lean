import PyProof.Rows.All
import Wide.All
import OpenK.AllK
import Wide.FinOn
import Lean
import PyProof.EqAt
import PyProof.EqKinds
import PyProof.TupleCall
import PySem.Challenge.RW_ownroom_k01_stores_deed_by_deed
set_option Elab.async false
set_option linter.all false
set_option maxRecDepth 100000
namespace L2
open PySem PySem.Spec PyProof.Rows

/-- a key: an int or a str -/
abbrev Key := Sum Int Str
def keyIs : Key → Value → Bool
  | .inl k, v => Value.isInt k v
  | .inr x, v => Value.isStrOf x v
def keyH (w : World) : Key → Int
  | .inl k => hashInt k
  | .inr x => hashStr w x
theorem keyIs_shape : ∀ {k : Key} {v : Value}, keyIs k v = true → (∃ i t, k = Sum.inl i ∧ v = Value.int i t) ∨ (∃ x t, k = Sum.inr x ∧ v = Value.str x t)
  | .inl i, v, h => by
    obtain ⟨t, e⟩ := Value.isInt_shape (k := i) (v := v) h
    exact .inl ⟨i, t, rfl, e⟩
  | .inr x, v, h => by
    obtain ⟨t, e⟩ := Value.isStrOf_shape (x := x) (v := v) h
    exact .inr ⟨x, t, rfl, e⟩
theorem key_ll (a b : Int) : decide ((Sum.inl a : Key) = Sum.inl b) = (a == b) := by
  by_cases e : a = b
  · subst e; simp
  · have h : ¬ (Sum.inl a : Key) = Sum.inl b := fun q => e (Sum.inl.inj q)
    rw [decide_eq_false h]
    exact (beq_eq_false_iff_ne.mpr e).symm
theorem key_rr (a b : Str) : decide ((Sum.inr a : Key) = Sum.inr b) = decide (a = b) := by
  by_cases e : a = b
  · subst e; simp
  · have h : ¬ (Sum.inr a : Key) = Sum.inr b := fun q => e (Sum.inr.inj q)
    rw [decide_eq_false h, decide_eq_false e]
theorem key_lr (a : Int) (b : Str) : decide ((Sum.inl a : Key) = Sum.inr b) = false := decide_eq_false (fun q => nomatch q)
theorem key_rl (a : Str) (b : Int) : decide ((Sum.inr a : Key) = Sum.inl b) = false := decide_eq_false (fun q => nomatch q)

def mixKind (prog : Program) (w : World) : PySem.KeyKind prog w Key where
  is := keyIs
  hash := keyH w
  inj := fun v a b ha hb => by
    rcases keyIs_shape ha with ⟨i, t, rfl, rfl⟩ | ⟨x, t, rfl, rfl⟩
    · rcases keyIs_shape hb with ⟨j, u, rfl, e⟩ | ⟨y, u, rfl, e⟩
      · injection e with e1 _; rw [e1]
      · exact nomatch e
    · rcases keyIs_shape hb with ⟨j, u, rfl, e⟩ | ⟨y, u, rfl, e⟩
      · exact nomatch e
      · injection e with e1 _; rw [e1]
  byValue := fun k v h => by
    rcases keyIs_shape h with ⟨i, t, rfl, rfl⟩ | ⟨x, t, rfl, rfl⟩ <;> rfl
  pyHash := fun hv h => by
    rcases keyIs_shape hv with ⟨i, t, rfl, rfl⟩ | ⟨x, t, rfl, rfl⟩
    · exact wpAny_pyHash_int h
    · exact wpAny_pyHash_str h
  eqBool := fun hu hv h => by
    rcases keyIs_shape hu with ⟨i, t, rfl, rfl⟩ | ⟨x, t, rfl, rfl⟩
    · rcases keyIs_shape hv with ⟨j, u, rfl, rfl⟩ | ⟨y, u, rfl, rfl⟩
      · rw [key_ll] at h; exact wpAny_eqBool_int h
      · rw [key_lr] at h; exact SeqAt.EqAt.int_str i t y u _ _ _ _ h
    · rcases keyIs_shape hv with ⟨j, u, rfl, rfl⟩ | ⟨y, u, rfl, rfl⟩
      · rw [key_rl] at h; exact SeqAt.EqAt.str_int x t j u _ _ _ _ h
      · rw [key_rr] at h; exact wpAny_eqBool_str h
  «strs» := fun k x t v h => by
    rcases keyIs_shape h with ⟨i, u, rfl, e⟩ | ⟨y, u, rfl, e⟩
    · exact nomatch e
    · injection e with e1 _
      subst e1
      cases v <;> rfl

end L2

namespace L2
open PySem PySem.Spec PyProof.Rows

/-- a value, without the heap -/
inductive V where
  | non | bl (b : Bool) | int (i : Int) | str (x : Str) | byt (b : Array UInt8) | flt (b : UInt64) | ref (a : Addr) | ty (n : String)
  deriving DecidableEq

def RelV : V → Value → Prop
  | .non, u => u = Value.none
  | .bl b, u => u = Value.bool b
  | .int i, u => ∃ t, u = Value.int i t
  | .str x, u => ∃ t, u = Value.str x t
  | .byt b, u => ∃ t, u = Value.bytes b t
  | .flt b, u => ∃ t, u = Value.float b t
  | .ref a, u => u = Value.ref a
  | .ty n, u => u = Value.type n

abbrev Vals : List V → List Value → Prop := Paired RelV
theorem Vals.length {xs : List V} {us : List Value} (r : Vals xs us) : xs.length = us.length := Paired.length r
theorem Vals.get : ∀ {xs : List V} {us : List Value} {i : Nat} {x : V}, Vals xs us → xs[i]? = some x → ∃ u, us[i]? = some u ∧ RelV x u
  | _, _, _, _, .nil, e => by simp at e
  | _, _, 0, _, .cons r _, e => by simp at e; subst e; exact ⟨_, rfl, r⟩
  | _, _, i + 1, x, .cons _ t, e => by
    obtain ⟨u, h1, h2⟩ := Vals.get (i := i) (x := x) t (by simpa using e)
    exact ⟨u, by simpa using h1, h2⟩
theorem Vals.set {x : V} {u : Value} (r : RelV x u) : ∀ {xs : List V} {us : List Value} (i : Nat), Vals xs us → Vals (xs.set i x) (us.set i u)
  | _, _, _, .nil => .nil
  | _, _, 0, .cons _ t => .cons r t
  | _, _, i + 1, .cons q t => .cons q (Vals.set r i t)
theorem Vals.append : ∀ {xs ys : List V} {us ws : List Value}, Vals xs us → Vals ys ws → Vals (xs ++ ys) (us ++ ws)
  | _, _, _, _, .nil, s => s
  | _, _, _, _, .cons r t, s => .cons r (Vals.append t s)
theorem Vals.take : ∀ {xs : List V} {us : List Value} (n : Nat), Vals xs us → Vals (xs.take n) (us.take n)
  | _, _, 0, _ => .nil
  | _, _, _ + 1, .nil => .nil
  | _, _, n + 1, .cons r t => .cons r (Vals.take n t)
theorem Vals.drop : ∀ {xs : List V} {us : List Value} (n : Nat), Vals xs us → Vals (xs.drop n) (us.drop n)
  | _, _, 0, r => r
  | _, _, _ + 1, .nil => .nil
  | _, _, n + 1, .cons _ t => Vals.drop n t
def RelO : Option V → Option Value → Prop
  | some v, some u => RelV v u
  | none, none => True
  | _, _ => False
def KV {κ : Type} : List (κ × V) → List (κ × Value) → Prop := Paired fun (p : κ × V) (q : κ × Value) => p.1 = q.1 ∧ RelV p.2 q.2

/-- a key of a dict (00_mix): an int or a text -/
def kV : Key → V
  | .inl i => .int i
  | .inr x => .str x

/-- what stands at a tracked address -/
inductive HO where
  /-- a list -/
  | lst (xs : List V)
  /-- a tuple (never changes) -/
  | tup (xs : List V)
  /-- a dict whose keys are ints and texts; one whose keys are tuples of ints and texts (the empty one is both) -/
  | dK (kvs : List (Key × V)) | dT (kvs : List (List Key × V))
  /-- a set of ints: its members, its size -/
  | set (S : Int → Bool) (n : Nat)
  /-- an instance of the class at C, its dict at dx, its attributes -/
  | ins (C dx : Addr) (fs : List (Str × V))
  /-- the dict of the instance at x -/
  | own (x : Addr)
  /-- the dict of an exception -/
  | xd (fs : List (Str × V))
  /-- a bound method, f of x -/
  | met (f x : Addr)
  /-- a range object lo, lo + 1, .. below hi -/
  | rng (lo hi : Int)
  /-- a thing that is known to the object (the script; a dict while a loop walks it): read, never written while it is so -/
  | frz (o : Obj) (u : HO)
  /-- a code object's table -/
  | tbl (ps : Array Value)
  /-- any other thing, by what is true of its one object (a def of one's own: SetO a S n := HO.ext fun h => ..) -/
  | ext (φ : Heap → Prop)

abbrev Hp := Addr → Option HO
def upd (H : Hp) (a : Addr) (o : HO) : Hp := fun b => if b = a then some o else H b
theorem upd_same {H : Hp} {a : Addr} {o : HO} : upd H a o a = some o := by unfold upd; rw [if_pos rfl]
theorem upd_ne {H : Hp} {a b : Addr} {o : HO} (h : b ≠ a) : upd H a o b = H b := by unfold upd; rw [if_neg h]
/-- two objects of different content stand apart -/
theorem ne_of {H : Hp} {a b : Addr} {o u : HO} (h : H a = some o) (h' : H b = some u) (d : o ≠ u) : a ≠ b := by
  intro e; subst e; rw [h] at h'; exact d (Option.some.inj h')
theorem ne_of_none {H : Hp} {a b : Addr} {o : HO} (h : H a = some o) (h' : H b = none) : a ≠ b := by
  intro e; subst e; rw [h] at h'; cases h'

section
variable (P : Program) (w : World)
def ObjOk (H : Hp) (h : Heap) (a : Addr) : HO → Prop
  | .lst xs => xs.length ≤ sizeLine ∧ ∃ (its : List Value) (n : Nat), Vals xs its ∧ h.get? a = some { cls := .type "list", data := .seq its.toArray n }
  | .tup xs => xs.length ≤ sizeLine ∧ ∃ its : List Value, Vals xs its ∧ IsTup h a its.toArray
  | .dK kvs => kvs.length ≤ sizeLine ∧ (a == sysModules) = false ∧ ∃ vs, KV kvs vs ∧ h.DictOf (mixKind P w) a vs
  | .dT kvs => kvs.length ≤ sizeLine ∧ (a == sysModules) = false ∧ ∃ xs : List (List Key × Addr × Value),
      Paired (fun (p : List Key × V) (q : List Key × Addr × Value) => p.1 = q.1 ∧ H q.2.1 = some (.tup (p.1.map kV)) ∧ RelV p.2 q.2.2) kvs xs ∧
      ∃ o es ep, h.get? a = some o ∧ o.ExactDict ∧ o.data = .dict es ep ∧ es.toList = xs.map (entryOfKey (tupleKind (mixKind P w))) ∧ (xs.map (·.1)).Nodup
  | .set S n => h.SetOf (intKind P w) a S n
  | .ins C dx fs => H dx = some (.own a) ∧ fs.length ≤ 1000 ∧ dx ≠ a ∧ h.get? a = some (PySem.W.instObj C dx) ∧
      ∃ mA, h.Ns1 dx mA ∧ (∀ f, RelO (fs.lookup f) (mA f)) ∧ PySem.Within mA (fs.map (·.1))
  | .own _ => ∃ o, h.get? a = some o
  | .xd fs => ∃ mA, h.Ns1 a mA ∧ ∀ f, RelO (fs.lookup f) (mA f)
  | .rng lo hi => ∃ t u v, h.get? a = some { cls := .type "range", data := .fields #[.int lo t, .int hi u, .int 1 v] }
  | .frz o u => h.get? a = some o ∧ ObjOk H h a u
  | .tbl ps => h.get? a = some { cls := .none, data := .fields ps }
  | .met f x => h.get? a = some (PySem.W.methodObj (.ref f) (.ref x))
  | .ext φ => φ h ∧ (∃ o, h.get? a = some o) ∧ ∀ h1 h2 : Heap, φ h1 → (∀ o, h1.get? a = some o → h2.get? a = some o) → φ h2
/-- the abstract heap is held -/
def HOk (H : Hp) (h : Heap) : Prop := ∀ a o, H a = some o → ObjOk P w H h a o
end

section
variable {P : Program} {w : World} {H H' : Hp} {h h' : Heap} {a : Addr} {o : HO}
theorem ObjOk.lt (x : ObjOk P w H h a o) : a < h.objs.size := by
  cases o with
  | lst xs => obtain ⟨_, _, _, _, e⟩ := x; exact Heap.lt_size e
  | tup xs => obtain ⟨_, _, _, p⟩ := x; exact p.lt
  | dK kvs => obtain ⟨_, _, _, _, o, _, _, e, _⟩ := x; exact Heap.lt_size e
  | dT kvs => obtain ⟨_, _, _, _, o, _, _, e, _⟩ := x; exact Heap.lt_size e
  | set S n => obtain ⟨o, _, _, _, e, _⟩ := x; exact Heap.lt_size e
  | ins C dx fs => obtain ⟨_, _, _, e, _⟩ := x; exact Heap.lt_size e
  | own y => obtain ⟨_, e⟩ := x; exact Heap.lt_size e
  | xd fs => obtain ⟨_, ⟨_, _, _, e, _⟩, _⟩ := x; exact Heap.lt_size e
  | rng lo hi => obtain ⟨_, _, _, e⟩ := x; exact Heap.lt_size e
  | frz ob u => obtain ⟨e, _⟩ := x; exact Heap.lt_size e
  | tbl ps => exact Heap.lt_size (show h.get? a = some _ from x)
  | met f y => exact Heap.lt_size (show h.get? a = some _ from x)
  | ext φ => obtain ⟨_, ⟨_, e⟩, _⟩ := x; exact Heap.lt_size e
theorem Paired.mapP {α β : Type} {F G : α → β → Prop} : ∀ {l₁ : List α} {l₂ : List β}, Paired F l₁ l₂ → (∀ a b, F a b → G a b) → Paired G l₁ l₂
  | _, _, .nil, _ => .nil
  | _, _, .cons r t, f => .cons (f _ _ r) (Paired.mapP t f)
/-- what an object's description leans on: its own object, its own dict, the tuples -/
theorem ObjOk.stay (x : ObjOk P w H h a o) (k : ∀ b u, (b = a ∨ H b = some (.own a)) → h.get? b = some u → h'.get? b = some u)
    (ho : ∀ b, H b = some (.own a) → H' b = some (.own a)) (ht : ∀ b xs, H b = some (.tup xs) → H' b = some (.tup xs)) : ObjOk P w H' h' a o := by
  induction o with
  | lst xs => obtain ⟨z, its, n, r, e⟩ := x; exact ⟨z, its, n, r, k _ _ (.inl rfl) e⟩
  | tup xs => obtain ⟨z, its, r, ob, e, c⟩ := x; exact ⟨z, its, r, ob, k _ _ (.inl rfl) e, c⟩
  | dK kvs => obtain ⟨z, y, vs, r, ob, es, ep, e, c⟩ := x; exact ⟨z, y, vs, r, ob, es, ep, k _ _ (.inl rfl) e, c⟩
  | dT kvs =>
    obtain ⟨z, y, xs, r, ob, es, ep, e, c⟩ := x
    exact ⟨z, y, xs, Paired.mapP r fun p q z => ⟨z.1, ht _ _ z.2.1, z.2.2⟩, ob, es, ep, k _ _ (.inl rfl) e, c⟩
  | set S n => obtain ⟨ob, es, ep, t, e, c⟩ := x; exact ⟨ob, es, ep, t, k _ _ (.inl rfl) e, c⟩
  | ins C dx fs =>
    obtain ⟨d, z, ne, e, mA, ⟨od, es, ep, e2, c⟩, r⟩ := x
    exact ⟨ho _ d, z, ne, k _ _ (.inl rfl) e, mA, ⟨od, es, ep, k _ _ (.inr d) e2, c⟩, r⟩
  | own y => obtain ⟨ob, e⟩ := x; exact ⟨ob, k _ _ (.inl rfl) e⟩
  | xd fs => obtain ⟨mA, ⟨od, es, ep, e, c⟩, r⟩ := x; exact ⟨mA, ⟨od, es, ep, k _ _ (.inl rfl) e, c⟩, r⟩
  | rng lo hi => obtain ⟨t, u, v, e⟩ := x; exact ⟨t, u, v, k _ _ (.inl rfl) e⟩
  | frz ob u ih => obtain ⟨e, q⟩ := x; exact ⟨k _ _ (.inl rfl) e, ih q⟩
  | tbl ps =>
    have e : h.get? a = some { cls := .none, data := .fields ps } := x
    show h'.get? a = some { cls := .none, data := .fields ps }
    exact k a _ (.inl rfl) e
  | met f y =>
    have e : h.get? a = some (PySem.W.methodObj (.ref f) (.ref y)) := x
    show h'.get? a = some (PySem.W.methodObj (.ref f) (.ref y))
    exact k a _ (.inl rfl) e
  | ext φ => obtain ⟨p, ⟨o, e⟩, st⟩ := x; exact ⟨st _ _ p fun o q => k _ _ (.inl rfl) q, ⟨o, k _ _ (.inl rfl) e⟩, st⟩
theorem HOk.lt (x : HOk P w H h) (e : H a = some o) : a < h.objs.size := (x a o e).lt
theorem HOk.fresh (x : HOk P w H h) (e : h.objs.size ≤ a) : H a = none := by
  cases q : H a with
  | none => rfl
  | some u => exact absurd (Nat.lt_of_lt_of_le (x.lt q) e) (Nat.lt_irrefl _)
/-- every object of the heap is kept -/
theorem HOk.kept (x : HOk P w H h) (k : ∀ b u, h.get? b = some u → h'.get? b = some u) : HOk P w H h' := fun a o e =>
  (x a o e).stay (fun b u _ q => k b u q) (fun _ q => q) fun _ _ q => q
/-- a new object is laid and tracked -/
theorem HOk.laid (x : HOk P w H h) (k : ∀ b u, h.get? b = some u → h'.get? b = some u) (hp : h.objs.size ≤ a) (new : ObjOk P w (upd H a o) h' a o) : HOk P w (upd H a o) h' := fun b u e => by
  have hn := x.fresh hp
  by_cases hb : b = a
  · subst hb; rw [upd_same] at e; cases e; exact new
  · rw [upd_ne hb] at e
    exact (x b u e).stay (fun c v _ q => k c v q) (fun c q => by rw [upd_ne (ne_of_none q hn)]; exact q) fun c xs q => by rw [upd_ne (ne_of_none q hn)]; exact q
end

/-- what may be read as u: it is u, or a known u -/
def Rd (H : Hp) (a : Addr) (u : HO) : Prop := H a = some u ∨ ∃ o, H a = some (.frz o u)
theorem Rd.ok {P : Program} {w : World} {H : Hp} {h : Heap} {a : Addr} {u : HO} (r : Rd H a u) (x : HOk P w H h) : ObjOk P w H h a u := by
  rcases r with r | ⟨o, r⟩
  · exact x a u r
  · obtain ⟨_, q⟩ := x a _ r
    exact q
/-- what may be written -/
def Mut : Option HO → Prop
  | some (.lst _) => True
  | some (.dK _) => True
  | some (.dT _) => True
  | some (.set _ _) => True
  | some (.ins _ _ _) => True
  | some (.ext _) => True
  | _ => False
section
variable {P : Program} {w : World} {H : Hp} {h h' : Heap} {x e : Addr} {o' : HO}
/-- the object at e is changed: x itself, or the dict of the instance x -/
theorem HOk.write (ok : HOk P w H h) (mu : Mut (H x)) (he : e = x ∨ H e = some (.own x)) (k : ∀ b u, b ≠ e → h.get? b = some u → h'.get? b = some u) (heo : ∃ u, h'.get? e = some u)
    (new : ObjOk P w (upd H x o') h' x o') : HOk P w (upd H x o') h' := fun b u q => by
  have nown : ∀ c y, H c = some (.own y) → c ≠ x := fun c y r z => by subst z; rw [r] at mu; exact mu
  have ntup : ∀ c xs, H c = some (.tup xs) → c ≠ x := fun c xs r z => by subst z; rw [r] at mu; exact mu
  by_cases hb : b = x
  · subst hb; rw [upd_same] at q; cases q; exact new
  · rw [upd_ne hb] at q
    by_cases hbe : b = e
    · have q' : H b = some (.own x) := by
        rcases he with z | z
        · exact absurd (hbe.trans z) hb
        · rw [hbe]; exact z
      rw [q] at q'; cases q'
      obtain ⟨v, hv⟩ := heo
      exact ⟨v, by rw [hbe]; exact hv⟩
    · refine (ok b u q).stay (fun c v hc r => k c v ?_ r) (fun c r => by rw [upd_ne (nown c b r)]; exact r) fun c xs r => by rw [upd_ne (ntup c xs r)]; exact r
      rcases hc with rfl | hc
      · exact hbe
      · rintro rfl
        rcases he with z | z
        · exact nown c b hc z
        · rw [hc] at z; cases z; exact hb rfl
end

structure Un (fs ex : List Addr) (H H' : Hp) (h h' : Heap) : Prop where
  keep : ∀ b o, h.get? b = some o → H b = none → b ∉ fs → b ∉ ex → h'.get? b = some o
  slot : ∀ b o, h.get? b = some o → H b = none → b ∈ fs → b ∉ ex → ∃ sl, h'.get? b = some { o with slots := sl }
  free : ∀ b o, h.get? b = some o → H b = none → b ∉ ex → H' b = none
  there : ∀ b o, h.get? b = some o → b ∉ ex → ∃ o', h'.get? b = some o'
  tups : ∀ b xs, H b = some (.tup xs) → H' b = some (.tup xs)
  frzs : ∀ b o u, H b = some (.frz o u) → H' b = some (.frz o u)
  tbls : ∀ b ps, H b = some (.tbl ps) → ∃ more, H' b = some (.tbl (ps ++ more))
section
variable {fs fs' ex ex' : List Addr} {H H1 H2 : Hp} {h h1 h2 h' : Heap} {a x e : Addr} {o : HO}
theorem Un.any (u : Un fs ex H H1 h h1) {b : Addr} {ob : Obj} (q : h.get? b = some ob) (n : H b = none) (hx : b ∉ ex) : ∃ sl, h1.get? b = some { ob with slots := sl } := by
  by_cases hb : b ∈ fs
  · exact u.slot b ob q n hb hx
  · exact ⟨ob.slots, u.keep b ob q n hb hx⟩
theorem Un.kept (k : ∀ b u, h.get? b = some u → h'.get? b = some u) : Un fs ex H H h h' :=
  ⟨fun b ob q _ _ _ => k b ob q, fun b ob q _ _ _ => ⟨ob.slots, k b ob q⟩, fun _ _ _ n _ => n, fun b ob q _ => ⟨ob, k b ob q⟩, fun _ _ q => q, fun _ _ _ q => q, fun _ ps q => ⟨#[], by rw [q]; simp⟩⟩
theorem Un.refl : Un fs ex H H h h := Un.kept fun _ _ q => q
theorem Un.laid (k : ∀ b u, h.get? b = some u → h'.get? b = some u) (hp : h.objs.size ≤ a) (hn : H a = none) : Un fs ex H (upd H a o) h h' where
  keep := fun b u q _ _ _ => k b u q
  slot := fun b u q _ _ _ => ⟨u.slots, k b u q⟩
  free := fun b u q n _ => by rw [upd_ne (Nat.ne_of_lt (Nat.lt_of_lt_of_le (Heap.lt_size q) hp))]; exact n
  there := fun b u q _ => ⟨u, k b u q⟩
  tups := fun b xs q => by rw [upd_ne (ne_of_none q hn)]; exact q
  frzs := fun b u xs q => by rw [upd_ne (ne_of_none q hn)]; exact q
  tbls := fun b ps q => ⟨#[], by rw [upd_ne (ne_of_none q hn), q]; simp⟩
theorem Un.write (mu : Mut (H x)) (he : e = x ∨ H e = some (.own x)) (k : ∀ b u, b ≠ e → h.get? b = some u → h'.get? b = some u) (heo : ∃ u, h'.get? e = some u) : Un fs ex H (upd H x o) h h' := by
  have hx : ∀ b, H b = none → b ≠ x := fun b n z => by subst z; rw [n] at mu; exact mu
  have hb : ∀ b, H b = none → b ≠ e := fun b n z => by
    subst z
    rcases he with r | r
    · exact hx b n r
    · rw [n] at r; cases r
  have hm : ∀ b u, H b = some u → ¬ Mut (some u) → b ≠ x := fun b u q nm z => by subst z; rw [q] at mu; exact nm mu
  refine ⟨fun b u q n _ _ => k b u (hb b n) q, fun b u q n _ _ => ⟨u.slots, k b u (hb b n) q⟩, fun b u q n _ => by rw [upd_ne (hx b n)]; exact n, fun b u q _ => ?_,
    fun b xs q => by rw [upd_ne (hm b _ q fun z => z)]; exact q, fun b u xs q => by rw [upd_ne (hm b _ q fun z => z)]; exact q, fun b ps q => ⟨#[], by rw [upd_ne (hm b _ q fun z => z), q]; simp⟩⟩
  by_cases hbe : b = e
  · subst hbe; exact heo
  · exact ⟨u, k b u hbe q⟩
end

def trk (h : Heap) (H : Hp) : List Addr := (List.range h.objs.size).filter fun a => (H a).isSome
def hidT (h : Heap) (H : Hp) : Heap := PySem.W.hideAll h (trk h H)
theorem hidT_size (h : Heap) (H : Hp) : (hidT h H).objs.size = h.objs.size := PySem.W.hideAll_size _ _
theorem hidT_get {h : Heap} {H : Hp} {b : Addr} {o : Obj} (e : h.get? b = some o) (n : H b = none) : (hidT h H).get? b = some o :=
  PySem.W.hideAll_get _ e fun hm => by
    have q : (H b).isSome = true := (List.mem_filter.mp hm).2
    rw [n] at q; simp at q
theorem of_hidT {h : Heap} {H : Hp} {b : Addr} {o : Obj} (e : (hidT h H).get? b = some o) : h.get? b = some o ∧ H b = none := by
  have e' : h.get? b = some o := PySem.W.of_hideAll (trk h H) e
  refine ⟨e', ?_⟩
  cases q : H b with
  | none => rfl
  | some x =>
    have hm : b ∈ trk h H := List.mem_filter.mpr ⟨List.mem_range.mpr (Heap.lt_size e'), by simp [q]⟩
    have z : (hidT h H).get? b = none := PySem.W.hideAll_none (trk h H) hm
    rw [z] at e; cases e

end L2

namespace L2
open PySem PySem.Spec PyProof.Rows

/-- the module's facts, over the base: the heap at the law's entry without what is tracked there -/
structure Mod (K : PySem.W.Frag) (mg : Str → Option Value) (base : Heap) : Prop where
  kin : K.In base
  glob : base.Ns mainGlobals mg
  blt : ∃ mb, base.Ns builtinsNs mb ∧ ∀ x : Str, x ≠ "__name__" → mb x = bootBuiltins x
  nolimit : base.NoLimit

/-- the context: a def's body (or a comprehension's block) running. base: fixed through the whole law; s₀, H₀: the entry; outer: the frames whose slots others may change (a def's callers); stack: all frames that run;
   ex: iterators that were made ahead of the entry and are walked here (a comprehension's); fn: the names whose cells were made at the entry (a def: all; a comprehension's block: its own); calm: not within an except suite; pn: pins that every state bears; xe: what is wanted of an exception that leaves the code -/
structure Cx where
  prog : Program
  w : World
  K : PySem.W.Frag
  mg : Str → Option Value
  base : Heap
  A : Around
  N : List Str
  s₀ : Shared
  H₀ : Hp
  env : Env
  outer : List Env
  stack : List Env
  ex : List Addr
  fn : Str → Bool
  calm : Bool
  pn : List (Addr × Obj)
  xe : Value → Shared → Prop
/-- the callers' frames -/
def frs (l : List Env) : List Addr := l.filterMap (·.frame)
abbrev Cx.fs (X : Cx) : List Addr := frs X.outer

def Vis (sc : Scope) (x : Str) : Prop := sc.names.lookup x = some .local ∨ sc.names.lookup x = some .cell ∨ sc.names.lookup x = some .free
def Loc (sc : Scope) (x : Str) : Prop := sc.names.lookup x = some .local ∨ sc.names.lookup x = some .cell
def Look (env : Env) (h : Heap) (m : Str → Option Value) (x : Str) (u : Value) : Prop :=
  (env.kindOf x = some .local ∧ m x = some u) ∨ ((env.kindOf x = some .cell ∨ env.kindOf x = some .free) ∧ ∃ c, env.cells.lookup x = some c ∧ h.IsCell c (some u))

structure Cx.Ok (X : Cx) : Prop where
  mod : Mod X.K X.mg X.base
  kind : X.env.scope.kind = .function
  glob : X.env.globals = mainGlobals
  blt : X.env.builtins = builtinsNs
  above : X.s₀.heap.objs.size ≤ X.env.locals
  inj : ∀ x y c, X.env.cells.lookup x = some c → X.env.cells.lookup y = some c → x = y
  has : ∀ x, (X.env.kindOf x = some .cell ∨ X.env.kindOf x = some .free) → ∃ c, X.env.cells.lookup x = some c
  cab : ∀ x c, X.fn x = true → X.env.cells.lookup x = some c → X.s₀.heap.objs.size ≤ c
  hd : X.calm = true → X.A.handled = none
  frames : X.A.frames = some X.stack
  stk : X.stack = X.outer ∨ (X.stack = X.env :: X.outer ∧ X.env.frame = some X.env.locals)
  exf : ∀ b ∈ X.ex, b ≠ X.env.locals ∧ ∀ x c, X.env.cells.lookup x = some c → c ≠ b
  bs : ∀ b o, X.base.get? b = some o → X.s₀.heap.get? b = some o ∧ X.H₀ b = none
  bsz : X.base.objs.size ≤ X.s₀.heap.objs.size
  noex : ∀ b o, X.base.get? b = some o → b ∉ X.ex
  exfs : ∀ b ∈ X.ex, b ∉ X.fs
  funs : X.s₀.heap.FunFrames X.base X.outer
  frf : ∀ b ∈ X.fs, X.H₀ b = none

structure Inv (X : Cx) (pins : List (Addr × Obj)) (σ : List (Option V)) (H : Hp) (s : Shared) : Prop where
  ok : X.Ok
  os : s.os = X.s₀.os
  bare : AllBare s.gens
  base : Un X.fs X.ex X.H₀ H X.s₀.heap s.heap
  loc : ∃ m, s.heap.Ns X.env.locals m ∧ ∀ (i : Nat) (x : Str) (v : V), X.N[i]? = some x → σ[i]? = some (some v) → Vis X.env.scope x → ∃ u, RelV v u ∧ Look X.env s.heap m x u
  cell : ∀ x c, X.env.cells.lookup x = some c → ∃ v, s.heap.IsCell c v
  free : H X.env.locals = none
  freeC : ∀ x c, X.env.cells.lookup x = some c → H c = none
  pin : ∀ p ∈ X.pn ++ pins, s.heap.get? p.1 = some p.2 ∧ H p.1 = none ∧ p.1 ≠ X.env.locals ∧ p.1 ∉ X.fs ∧ ∀ v, p.2.data ≠ .cell v
  hok : HOk X.prog X.w H s.heap
  len : σ.length = X.N.length

section
variable {X : Cx} {pins : List (Addr × Obj)} {σ : List (Option V)} {H H' : Hp} {s : Shared} {h' : Heap}

theorem Cx.Ok.nofr (ok : X.Ok) {b : Addr} {o : Obj} (e : X.base.get? b = some o) : b ∉ X.fs := fun hb => by
  have := (ok.funs.mem hb).1
  rw [e] at this; cases this
theorem Inv.bs (I : Inv X pins σ H s) : ∀ b o, X.base.get? b = some o → s.heap.get? b = some o ∧ H b = none := fun b o e =>
  ⟨I.base.keep b o (I.ok.bs b o e).1 (I.ok.bs b o e).2 (I.ok.nofr e) (I.ok.noex b o e), I.base.free b o (I.ok.bs b o e).1 (I.ok.bs b o e).2 (I.ok.noex b o e)⟩
theorem Inv.bk (I : Inv X pins σ H s) : ∀ b o, X.base.get? b = some o → s.heap.get? b = some o := fun b o e => (I.bs b o e).1
theorem Inv.mod (I : Inv X pins σ H s) : Mod X.K X.mg X.base := I.ok.mod
theorem Inv.kIn (I : Inv X pins σ H s) : X.K.In s.heap := I.ok.mod.kin.keeps I.bk
theorem Inv.lt (I : Inv X pins σ H s) : X.env.locals < s.heap.objs.size := let ⟨_, hn, _⟩ := I.loc; hn.lt
theorem Inv.sz (I : Inv X pins σ H s) : X.s₀.heap.objs.size ≤ s.heap.objs.size := Nat.le_trans I.ok.above (Nat.le_of_lt I.lt)
theorem Inv.nofs (I : Inv X pins σ H s) {a : Addr} (h : s.heap.objs.size ≤ a) : a ∉ X.fs := fun hb => by
  obtain ⟨_, o, ho, _⟩ := I.ok.funs.mem hb
  exact absurd (Nat.lt_of_lt_of_le (Heap.lt_size ho) (Nat.le_trans I.sz h)) (Nat.lt_irrefl _)
theorem Inv.cne (I : Inv X pins σ H s) : ∀ x c, X.env.cells.lookup x = some c → c ≠ X.env.locals := fun x c e z => by
  obtain ⟨v, o, ho, hd⟩ := I.cell x c e
  obtain ⟨m, ⟨o', es, ep, ho', hd', _⟩, _⟩ := I.loc
  rw [z, ho'] at ho; cases ho; rw [hd'] at hd; cases hd
theorem Inv.funs (I : Inv X pins σ H s) : s.heap.FunFrames X.base X.outer := by
  have all : ∀ (l : List Env), (∀ b ∈ frs l, b ∈ X.fs) → X.s₀.heap.FunFrames X.base l → s.heap.FunFrames X.base l := by
    intro l
    induction l with
    | nil => intro _ _; trivial
    | cons env r ih =>
      intro hs hl
      obtain ⟨hk, ⟨L, o, hf, hn, ho, hd⟩, hr⟩ := hl
      have hL : L ∈ X.fs := hs L (by unfold frs; rw [List.filterMap_cons, hf]; exact List.mem_cons_self)
      obtain ⟨sl, e⟩ := I.base.slot L o ho (I.ok.frf L hL) hL fun z => I.ok.exfs L z hL
      exact ⟨hk, ⟨L, _, hf, hn, e, hd⟩, ih (fun b hb => hs b (by unfold frs; rw [List.filterMap_cons, hf]; exact List.mem_cons_of_mem _ hb)) hr⟩
  exact all X.outer (fun _ hb => hb) I.ok.funs

/-- the frames that run, for a call -/
theorem Inv.stack (I : Inv X pins σ H s) : s.heap.FunFrames X.base X.stack := by
  rcases I.ok.stk with e | ⟨e, hf⟩
  · rw [e]; exact I.funs
  · rw [e]
    obtain ⟨m, hn, _⟩ := I.loc
    refine .cons (by rw [I.ok.kind]; decide) hf hn ?_ I.funs
    exact Heap.get?_none_of_le (Nat.le_trans I.ok.bsz I.ok.above)
theorem Inv.stkSub (I : Inv X pins σ H s) : ∀ b ∈ frs X.stack, b ∈ X.env.locals :: X.fs := fun b hb => by
  rcases I.ok.stk with e | ⟨e, hf⟩
  · rw [e] at hb; exact List.mem_cons_of_mem _ hb
  · rw [e] at hb
    unfold frs at hb
    rw [List.filterMap_cons, hf] at hb
    exact hb
theorem Inv.stkFree (I : Inv X pins σ H s) : ∀ b ∈ frs X.stack, H b = none := fun b hb => by
  rcases List.mem_cons.mp (I.stkSub b hb) with e | hb
  · rw [e]; exact I.free
  · obtain ⟨_, o, ho, _⟩ := I.ok.funs.mem hb
    exact I.base.free b o ho (I.ok.frf b hb) fun z => I.ok.exfs b z hb

/-- THE STEP: the untracked objects but the frame and the records at ch are kept (the callers' frames up to slots), the frame's map is kept, the new abstract heap is held -/
theorem Inv.step {g' : Array GenState} {t' : Nat} {d' : Drawn} {ch : List Addr} (I : Inv X pins σ H s)
    (hch : ∀ b ∈ ch, (b ∈ X.ex ∨ X.s₀.heap.objs.size ≤ b) ∧ b ≠ X.env.locals ∧ (∀ x c, X.env.cells.lookup x = some c → c ≠ b) ∧ ∀ p ∈ X.pn ++ pins, p.1 ≠ b)
    (keep : ∀ b o, b ≠ X.env.locals → b ∉ X.fs → b ∉ ch → s.heap.get? b = some o → H b = none → h'.get? b = some o)
    (slot : ∀ b o, b ≠ X.env.locals → b ∈ X.fs → b ∉ ch → s.heap.get? b = some o → H b = none → ∃ sl, h'.get? b = some { o with slots := sl }) (free : ∀ b o, b ∉ ch → s.heap.get? b = some o → H b = none → H' b = none)
    (there : ∀ b o, b ∉ ch → s.heap.get? b = some o → ∃ o', h'.get? b = some o')
    (tups : ∀ b xs, H b = some (.tup xs) → H' b = some (.tup xs)) (frzs : ∀ b o u, H b = some (.frz o u) → H' b = some (.frz o u)) (tbls : ∀ b ps, H b = some (.tbl ps) → ∃ more, H' b = some (.tbl (ps ++ more)))
    (ns : ∀ m, s.heap.Ns X.env.locals m → h'.Ns X.env.locals m) (hok : HOk X.prog X.w H' h') (hg : AllBare g') :
    Inv X pins σ H' { s with heap := h', gens := g', drawn := d', toks := t' } := by
  have neL : ∀ b o, X.s₀.heap.get? b = some o → b ≠ X.env.locals := fun b o e => Nat.ne_of_lt (Nat.lt_of_lt_of_le (Heap.lt_size e) I.ok.above)
  have neC : ∀ b o, X.s₀.heap.get? b = some o → b ∉ X.ex → b ∉ ch := fun b o e hx hb => by
    rcases (hch b hb).1 with z | z
    · exact hx z
    · exact absurd (Nat.lt_of_lt_of_le (Heap.lt_size e) z) (Nat.lt_irrefl _)
  have cellK : ∀ x c, X.env.cells.lookup x = some c → ∀ v, s.heap.IsCell c v → h'.IsCell c v := fun x c e v ⟨o, ho, hd⟩ => by
    have nch : c ∉ ch := fun z => (hch c z).2.2.1 x c e rfl
    by_cases hc : c ∈ X.fs
    · obtain ⟨sl, q⟩ := slot c o (I.cne x c e) hc nch ho (I.freeC x c e)
      exact ⟨_, q, hd⟩
    · exact ⟨o, keep c o (I.cne x c e) hc nch ho (I.freeC x c e), hd⟩
  refine ⟨I.ok, I.os, hg, ⟨fun b o e n hb hx => ?_, fun b o e n hb hx => ?_, fun b o e n hx => ?_, fun b o e hx => ?_, fun b xs e => tups b xs (I.base.tups b xs e), fun b o xs e => frzs b o xs (I.base.frzs b o xs e), fun b ps e => ?_⟩, ?_, fun x c e => ?_, ?_, fun x c e => ?_, fun p hp => ?_, hok, I.len⟩
  · exact keep b o (neL b o e) hb (neC b o e hx) (I.base.keep b o e n hb hx) (I.base.free b o e n hx)
  · obtain ⟨sl, e1⟩ := I.base.slot b o e n hb hx
    obtain ⟨sl', e2⟩ := slot b _ (neL b o e) hb (neC b o e hx) e1 (I.base.free b o e n hx)
    exact ⟨sl', e2⟩
  · obtain ⟨o', e1⟩ := I.base.there b o e hx
    exact free b o' (neC b o e hx) e1 (I.base.free b o e n hx)
  · obtain ⟨o', e1⟩ := I.base.there b o e hx
    exact there b o' (neC b o e hx) e1
  · obtain ⟨m1, e1⟩ := I.base.tbls b ps e
    obtain ⟨m2, e2⟩ := tbls b _ e1
    exact ⟨m1 ++ m2, by rw [e2, Array.append_assoc]⟩
  · obtain ⟨m, hn, hl⟩ := I.loc
    refine ⟨m, ns m hn, fun i x v e1 e2 e3 => ?_⟩
    obtain ⟨u, r, l⟩ := hl i x v e1 e2 e3
    refine ⟨u, r, ?_⟩
    rcases l with l | ⟨k, c, e, z⟩
    · exact .inl l
    · exact .inr ⟨k, c, e, cellK x c e _ z⟩
  · obtain ⟨v, z⟩ := I.cell x c e
    exact ⟨v, cellK x c e v z⟩
  · obtain ⟨m, ⟨o, _, _, ho, _⟩, _⟩ := I.loc
    exact free _ o (fun z => (hch _ z).2.1 rfl) ho I.free
  · obtain ⟨v, o, ho, hd⟩ := I.cell x c e
    exact free c o (fun z => (hch c z).2.2.1 x c e rfl) ho (I.freeC x c e)
  · obtain ⟨e, n, ne, nf, d⟩ := I.pin p hp
    have nch : p.1 ∉ ch := fun z => (hch p.1 z).2.2.2 p hp rfl
    exact ⟨keep p.1 p.2 ne nf nch e n, free p.1 p.2 nch e n, ne, nf, d⟩
/-- .. where the frame's own object is kept too -/
theorem Inv.un {t' : Nat} (I : Inv X pins σ H s) (u : Un X.fs [] H H' s.heap h') (hok : HOk X.prog X.w H' h') : Inv X pins σ H' { s with heap := h', toks := t' } := by
  obtain ⟨m, ⟨o, es, ep, ho, r⟩, _⟩ := id I.loc
  obtain ⟨sl, hL⟩ := u.any ho I.free (by simp)
  exact I.step (g' := s.gens) (d' := s.drawn) (ch := []) (fun _ z => nomatch z) (fun b o _ hb _ e n => u.keep b o e n hb (by simp)) (fun b o _ hb _ e n => u.slot b o e n hb (by simp)) (fun b o _ e n => u.free b o e n (by simp)) (fun b o _ e => u.there b o e (by simp)) u.tups u.frzs u.tbls (fun m' hm => by
    obtain ⟨o', es', ep', ho', r'⟩ := hm
    rw [ho] at ho'; cases ho'
    exact ⟨_, es', ep', hL, r'⟩) hok I.bare
/-- behind a call (or a comprehension's block): the slots of this frame may have changed too, the records at ch may have turned -/
theorem Inv.call {g' : Array GenState} {t' : Nat} {d' : Drawn} {ch : List Addr} (I : Inv X pins σ H s) (u : Un (frs X.stack) ch H H' s.heap h') (hok : HOk X.prog X.w H' h') (hg : AllBare g')
    (hch : ∀ b ∈ ch, (b ∈ X.ex ∨ X.s₀.heap.objs.size ≤ b) ∧ b ≠ X.env.locals ∧ (∀ x c, X.env.cells.lookup x = some c → c ≠ b) ∧ ∀ p ∈ X.pn ++ pins, p.1 ≠ b) :
    Inv X pins σ H' { s with heap := h', gens := g', drawn := d', toks := t' } := by
  obtain ⟨m, ⟨o, es, ep, ho, r⟩, _⟩ := id I.loc
  obtain ⟨sl, hL⟩ := u.any ho I.free fun z => (hch _ z).2.1 rfl
  exact I.step (ch := ch) hch (fun b o hL hb hc e n => u.keep b o e n (fun z => (List.mem_cons.mp (I.stkSub b z)).elim hL hb) hc) (fun b o _ _ hc e n => u.any e n hc) (fun b o hc e n => u.free b o e n hc) (fun b o hc e => u.there b o e hc) u.tups u.frzs u.tbls (fun m' hm => by
    obtain ⟨o', es', ep', ho', r'⟩ := hm
    rw [ho] at ho'; cases ho'
    exact ⟨_, es', ep', hL, r'⟩) hok hg
/-- an untracked record of ours (an iterator) has turned -/
theorem Inv.turned {t' : Nat} {it : Addr} (I : Inv X pins σ H s) (k : ∀ b o, b ≠ it → s.heap.get? b = some o → h'.get? b = some o) (hn : H it = none) (hL : it ≠ X.env.locals)
    (h1 : it ∈ X.ex ∨ X.s₀.heap.objs.size ≤ it) (h2 : ∀ x c, X.env.cells.lookup x = some c → c ≠ it) (h3 : ∀ p ∈ X.pn ++ pins, p.1 ≠ it) : Inv X pins σ H { s with heap := h', toks := t' } := by
  have nit : ∀ b u, H b = some u → b ≠ it := fun b u e z => by rw [z, hn] at e; cases e
  refine I.step (g' := s.gens) (d' := s.drawn) (ch := [it]) (fun b hb => ?_) (fun b o _ _ hc e _ => k b o (fun z => hc (by simp [z])) e) (fun b o _ _ hc e _ => ⟨o.slots, k b o (fun z => hc (by simp [z])) e⟩) (fun _ _ _ _ n => n)
    (fun b o hc e => ⟨o, k b o (fun z => hc (by simp [z])) e⟩) (fun _ _ e => e) (fun _ _ _ e => e) (fun b ps e => ⟨#[], by rw [e]; simp⟩) (fun m hm => ?_) (fun b u e => ?_) I.bare
  · have e : b = it := by simpa using hb
    subst e
    exact ⟨h1, hL, h2, h3⟩
  · obtain ⟨o, es, ep, ho, r⟩ := hm
    exact ⟨o, es, ep, k _ o (Ne.symm hL) ho, r⟩
  · refine (I.hok b u e).stay (fun c v hc q => k c v ?_ q) (fun _ q => q) fun _ _ q => q
    rcases hc with z | z
    · rw [z]; exact nit b u e
    · exact nit c _ z
theorem Inv.tok (I : Inv X pins σ H s) (t : Nat) : Inv X pins σ H { s with toks := t } := I.un (h' := s.heap) (t' := t) Un.refl I.hok
/-- all objects kept -/
theorem Inv.kept {t' : Nat} (I : Inv X pins σ H s) (k : ∀ b u, s.heap.get? b = some u → h'.get? b = some u) : Inv X pins σ H { s with heap := h', toks := t' } := I.un (Un.kept k) (I.hok.kept k)
/-- a new object laid and tracked -/
theorem Inv.laid {a : Addr} {o : HO} {t' : Nat} (I : Inv X pins σ H s) (k : ∀ b u, s.heap.get? b = some u → h'.get? b = some u) (hp : s.heap.objs.size ≤ a) (new : ObjOk X.prog X.w (upd H a o) h' a o) :
    Inv X pins σ (upd H a o) { s with heap := h', toks := t' } := I.un (Un.laid k hp (I.hok.fresh hp)) (I.hok.laid k hp new)
/-- an object written -/
theorem Inv.write {x e : Addr} {o : HO} {t' : Nat} (I : Inv X pins σ H s) (mu : Mut (H x)) (he : e = x ∨ H e = some (.own x)) (k : ∀ b u, b ≠ e → s.heap.get? b = some u → h'.get? b = some u) (heo : ∃ u, h'.get? e = some u)
    (new : ObjOk X.prog X.w (upd H x o) h' x o) : Inv X pins σ (upd H x o) { s with heap := h', toks := t' } := I.un (Un.write mu he k heo) (I.hok.write mu he k heo new)
theorem Inv.pins_of {pins' : List (Addr × Obj)} (I : Inv X pins σ H s) (h : ∀ p ∈ pins', s.heap.get? p.1 = some p.2 ∧ H p.1 = none ∧ p.1 ≠ X.env.locals ∧ p.1 ∉ X.fs ∧ ∀ v, p.2.data ≠ .cell v) : Inv X pins' σ H s :=
  ⟨I.ok, I.os, I.bare, I.base, I.loc, I.cell, I.free, I.freeC, fun p hp => (List.mem_append.mp hp).elim (fun z => I.pin p (List.mem_append_left _ z)) (h p), I.hok, I.len⟩

theorem nodup_ix {N : List Str} (hN : N.Nodup) {i j : Nat} {x : Str} (a : N[i]? = some x) (b : N[j]? = some x) : i = j := by
  obtain ⟨h1, e1⟩ := List.getElem?_eq_some_iff.mp a
  obtain ⟨h2, e2⟩ := List.getElem?_eq_some_iff.mp b
  exact (List.getElem_inj hN).mp (e1.trans e2.symm)

/-- a name is stored; what changed -/
theorem store_ok2 {M : Model} {A : Around} {E : Value → Shared → Prop} {i : Nat} {x : Str} {v : V} {u : Value} {Q : Unit → Shared → Prop} (I : Inv X pins σ H s) (hN : X.N.Nodup) (hi : X.N[i]? = some x) (hx : Loc X.env.scope x) (r : RelV v u)
    (h : ∀ s', Inv X pins (σ.set i (some v)) H s' → (∃ a, Heap.SameBut a s.heap s'.heap ∧ (a = X.env.locals ∨ X.env.cells.lookup x = some a)) → Q () s') (hf : X.fn x = true ∨ X.env.scope.names.lookup x = some .local := by first | exact .inl rfl | exact .inr rfl | assumption) : wpAny M A (storeName X.env x u) Q E s := by
  obtain ⟨m, hn, hl⟩ := id I.loc
  have hcls : (X.env.scope.kind == .class || (X.env.scope.kind == .module && X.env.locals != X.env.globals)) = false := by rw [I.ok.kind]; rfl
  have hiσ : i < σ.length := by rw [I.len]; exact (List.getElem?_eq_some_iff.mp hi).1
  have cne := I.cne
  have tracked : ∀ {a : Addr} {h' : Heap}, (∃ o, s.heap.get? a = some o ∧ H a = none) → Heap.SameBut a s.heap h' → HOk X.prog X.w H h' := fun {a h'} ha hs b ob e => by
    obtain ⟨_, _, hfree⟩ := ha
    refine (I.hok b ob e).stay (fun c w' hc q => (hs.2 c ?_).trans q) (fun _ q => q) fun _ _ q => q
    rintro rfl
    rcases hc with rfl | hc
    · rw [hfree] at e; cases e
    · rw [hfree] at hc; cases hc
  rcases hx with hk | hk
  · refine wpAny_storeName_local hk hn (fun h' hn' hs => ?_) hcls
    obtain ⟨oL, _, _, hoL, _⟩ := id hn
    refine h _ ⟨I.ok, I.os, I.bare, ⟨fun b o e n hb hx => ?_, fun b o e n hb hx => ?_, I.base.free, fun b o e hx => ?_, I.base.tups, I.base.frzs, I.base.tbls⟩, ⟨_, hn', fun j y v' e1 e2 e3 => ?_⟩, fun y c e => ?_, I.free, I.freeC, fun p hp => ?_, tracked ⟨oL, hoL, I.free⟩ hs, by simpa using I.len⟩ ⟨_, hs, .inl rfl⟩
    · exact (hs.2 b (Nat.ne_of_lt (Nat.lt_of_lt_of_le (Heap.lt_size e) I.ok.above))).trans (I.base.keep b o e n hb hx)
    · obtain ⟨sl, e1⟩ := I.base.slot b o e n hb hx
      exact ⟨sl, (hs.2 b (Nat.ne_of_lt (Nat.lt_of_lt_of_le (Heap.lt_size e) I.ok.above))).trans e1⟩
    · obtain ⟨o', e1⟩ := I.base.there b o e hx
      exact ⟨o', (hs.2 b (Nat.ne_of_lt (Nat.lt_of_lt_of_le (Heap.lt_size e) I.ok.above))).trans e1⟩
    · by_cases hj : j = i
      · subst hj
        rw [hi] at e1; cases e1
        rw [List.getElem?_set_self hiσ] at e2
        cases e2
        exact ⟨u, r, .inl ⟨hk, by simp⟩⟩
      · rw [List.getElem?_set_ne (Ne.symm hj)] at e2
        obtain ⟨u', r', q⟩ := hl j y v' e1 e2 e3
        refine ⟨u', r', ?_⟩
        rcases q with ⟨k, e⟩ | ⟨k, c, e, z⟩
        · refine .inl ⟨k, ?_⟩
          have : y ≠ x := fun e => hj (nodup_ix hN e1 (e ▸ hi))
          simp [this, e]
        · exact .inr ⟨k, c, e, z.sameBut hs (cne y c e)⟩
    · obtain ⟨w', z⟩ := I.cell y c e
      exact ⟨w', z.sameBut hs (cne y c e)⟩
    · obtain ⟨e, n, ne, nf, d⟩ := I.pin p hp
      exact ⟨(hs.2 p.1 ne).trans e, n, ne, nf, d⟩
  · have hfn : X.fn x = true := by
      rcases hf with z | z
      · exact z
      · rw [z] at hk; cases hk
    obtain ⟨c, hc⟩ := I.ok.has x (.inl hk)
    obtain ⟨w', z⟩ := I.cell x c hc
    refine wpAny_storeName_cell I.ok.kind hk hc z (fun h' hc' hs => ?_)
    obtain ⟨oc, hoc, hocd⟩ := id z
    refine h { s with heap := h' } ⟨I.ok, I.os, I.bare, ⟨fun b o e n hb hx => ?_, fun b o e n hb hx => ?_, I.base.free, fun b o e hx => ?_, I.base.tups, I.base.frzs, I.base.tbls⟩, ⟨m, hn.sameBut hs (Ne.symm (cne x c hc)), fun j y v' e1 e2 e3 => ?_⟩, fun y c' e => ?_, I.free, I.freeC, fun p hp => ?_, tracked ⟨oc, hoc, I.freeC x c hc⟩ hs, by simpa using I.len⟩ ⟨c, hs, .inr hc⟩
    · exact (hs.2 b (Nat.ne_of_lt (Nat.lt_of_lt_of_le (Heap.lt_size e) (I.ok.cab x c hfn hc)))).trans (I.base.keep b o e n hb hx)
    · obtain ⟨sl, e1⟩ := I.base.slot b o e n hb hx
      exact ⟨sl, (hs.2 b (Nat.ne_of_lt (Nat.lt_of_lt_of_le (Heap.lt_size e) (I.ok.cab x c hfn hc)))).trans e1⟩
    · obtain ⟨o', e1⟩ := I.base.there b o e hx
      exact ⟨o', (hs.2 b (Nat.ne_of_lt (Nat.lt_of_lt_of_le (Heap.lt_size e) (I.ok.cab x c hfn hc)))).trans e1⟩
    · by_cases hj : j = i
      · subst hj
        rw [hi] at e1; cases e1
        rw [List.getElem?_set_self hiσ] at e2
        cases e2
        exact ⟨u, r, .inr ⟨.inl hk, c, hc, hc'⟩⟩
      · rw [List.getElem?_set_ne (Ne.symm hj)] at e2
        obtain ⟨u', r', q⟩ := hl j y v' e1 e2 e3
        refine ⟨u', r', ?_⟩
        rcases q with q | ⟨k, c', e, z'⟩
        · exact .inl q
        · refine .inr ⟨k, c', e, z'.sameBut hs ?_⟩
          rintro rfl
          exact hj (nodup_ix hN e1 (I.ok.inj _ _ _ e hc ▸ hi))
    · by_cases hcc : c' = c
      · subst hcc; exact ⟨_, hc'⟩
      · obtain ⟨w2, z2⟩ := I.cell y c' e
        exact ⟨w2, z2.sameBut hs hcc⟩
    · obtain ⟨e, n, ne, nf, d⟩ := I.pin p hp
      refine ⟨(hs.2 p.1 ?_).trans e, n, ne, nf, d⟩
      intro q
      rw [q, hoc] at e
      have q' : oc = p.2 := Option.some.inj e
      exact d w' (by rw [← q']; exact hocd)
theorem store_ok {M : Model} {A : Around} {E : Value → Shared → Prop} {i : Nat} {x : Str} {v : V} {u : Value} {Q : Unit → Shared → Prop} (I : Inv X pins σ H s) (hN : X.N.Nodup) (hi : X.N[i]? = some x) (hx : Loc X.env.scope x) (r : RelV v u)
    (h : ∀ s', Inv X pins (σ.set i (some v)) H s' → Q () s') (hf : X.fn x = true ∨ X.env.scope.names.lookup x = some .local := by first | exact .inl rfl | exact .inr rfl | assumption) : wpAny M A (storeName X.env x u) Q E s :=
  store_ok2 I hN hi hx r (fun s' I' _ => h s' I') hf
/-- behind a call or a block, the state as it is -/
theorem Inv.call' {s' : Shared} {ch : List Addr} (I : Inv X pins σ H s) (ho : s'.os = s.os) (u : Un (frs X.stack) ch H H' s.heap s'.heap) (hok : HOk X.prog X.w H' s'.heap) (hg : AllBare s'.gens)
    (hch : ∀ b ∈ ch, (b ∈ X.ex ∨ X.s₀.heap.objs.size ≤ b) ∧ b ≠ X.env.locals ∧ (∀ x c, X.env.cells.lookup x = some c → c ≠ b) ∧ ∀ p ∈ X.pn ++ pins, p.1 ≠ b) : Inv X pins σ H' s' := by
  obtain ⟨h', g', d', t', o'⟩ := s'
  have e : o' = s.os := ho
  subst e
  exact I.call (g' := g') (t' := t') (d' := d') u hok hg hch
end

/-- an exception: its class, its own dict's address (where it has one), the abstract heap behind it -/
abbrev XK := Value → Option Addr → Hp → Prop
abbrev St := List (Option V)
abbrev VK := V → Hp → Prop
/-- an expression's reading; a test's; an argument list's -/
abbrev TE := St → Hp → VK → Prop
abbrev TT := St → Hp → (Bool → Hp → Prop) → Prop
abbrev TA := St → Hp → (List V → Hp → Prop) → Prop
/-- what is wanted behind a statement -/
structure Ends where
  nx : St → Hp → Prop
  rt : VK
  bk : St → Hp → Prop := fun _ _ => False
  ct : St → Hp → Prop := fun _ _ => False
abbrev TS := Ends → St → Hp → Prop

def EP (X : Cx) (pins : List (Addr × Obj)) (σ : St) (Q : VK) (u : Value) (s' : Shared) : Prop := ∃ v H', Inv X pins σ H' s' ∧ RelV v u ∧ Q v H'
def TP (X : Cx) (pins : List (Addr × Obj)) (σ : St) (Q : Bool → Hp → Prop) (b : Bool) (s' : Shared) : Prop := ∃ H', Inv X pins σ H' s' ∧ Q b H'
def AP (X : Cx) (pins : List (Addr × Obj)) (σ : St) (Q : List V → Hp → Prop) (us : List Value) (s' : Shared) : Prop := ∃ vs H', Inv X pins σ H' s' ∧ Vals vs us ∧ Q vs H'
def SP (X : Cx) (pins : List (Addr × Obj)) (D : Ends) (f : Flow) (s' : Shared) : Prop :=
  match f with
  | .next => ∃ σ' H', Inv X pins σ' H' s' ∧ D.nx σ' H'
  | .brk => ∃ σ' H', Inv X pins σ' H' s' ∧ D.bk σ' H'
  | .cont => ∃ σ' H', Inv X pins σ' H' s' ∧ D.ct σ' H'
  | .ret u => ∃ v σ' H', Inv X pins σ' H' s' ∧ RelV v u ∧ D.rt v H'

def PE (X : Cx) (e : Expr) (t : TE) : Prop :=
  ∀ (pins : List (Addr × Obj)) (s : Shared) (σ : St) (H : Hp) (Q : VK), Inv X pins σ H s → t σ H Q → wpAny (model X.prog X.w) X.A (eval e X.env) (EP X pins σ Q) X.xe s
def PT (X : Cx) (e : Expr) (t : TT) : Prop :=
  ∀ (pins : List (Addr × Obj)) (s : Shared) (σ : St) (H : Hp) (Q : Bool → Hp → Prop), Inv X pins σ H s → t σ H Q → wpAny (model X.prog X.w) X.A (isTrue e X.env (eval e X.env)) (TP X pins σ Q) X.xe s
/-- a test whatever its 'whole' is (and, or) -/
def PW (X : Cx) (e : Expr) (t : TT) : Prop :=
  ∀ (whole : Sem Value) (pins : List (Addr × Obj)) (s : Shared) (σ : St) (H : Hp) (Q : Bool → Hp → Prop), Inv X pins σ H s → t σ H Q → wpAny (model X.prog X.w) X.A (isTrue e X.env whole) (TP X pins σ Q) X.xe s
theorem PW.pt {X : Cx} {e : Expr} {t : TT} (h : PW X e t) : PT X e t := h _
/-- an argument list (no star), from the left -/
def PA (X : Cx) (es : List Expr) (t : TA) : Prop :=
  ∀ (pos : Pos) (pins : List (Addr × Obj)) (s : Shared) (σ : St) (H : Hp) (Q : List V → Hp → Prop), Inv X pins σ H s → t σ H Q → wpAny (model X.prog X.w) X.A (spliced (backTo pos (starEach es X.env))) (AP X pins σ Q) X.xe s
def PS (X : Cx) (st : Stmt) (t : TS) : Prop :=
  ∀ (pins : List (Addr × Obj)) (s : Shared) (σ : St) (H : Hp) (D : Ends), Inv X pins σ H s → t D σ H → wpAny (model X.prog X.w) X.A (exec st X.env) (SP X pins D) X.xe s
def PSs (X : Cx) (st : List Stmt) (t : TS) : Prop :=
  ∀ (pins : List (Addr × Obj)) (s : Shared) (σ : St) (H : Hp) (D : Ends), Inv X pins σ H s → t D σ H → wpAny (model X.prog X.w) X.A (execs st X.env) (SP X pins D) X.xe s
/-- weaken the end -/
theorem thn {α : Type} {t : Sem α} {Q Q' : α → Shared → Prop} {M : Model} {A : Around} {E : Value → Shared → Prop} {s : Shared} (h : wpAny M A t Q E s) (hQ : ∀ a s, Q a s → Q' a s) : wpAny M A t Q' E s := wpAny_mono h hQ fun _ _ x => x
end L2

namespace L2
open PySem PySem.Spec PyProof.Rows
section
variable {X : Cx}

def tVar (i : Nat) : TE := fun σ H Q => ∃ v, σ[i]? = some (some v) ∧ Q v H
def tC (v : V) : TE := fun _ H Q => Q v H
theorem pe_var {i : Nat} {x : Str} {pos : Pos} (hN : X.N[i]? = some x) (hv : Vis X.env.scope x) (hd : (x == ("__debug__" : Str)) = false := by decide) (hcd : (x == ("__classdict__" : Str)) = false := by decide) : PE X (.Name x pos) (tVar i) := by
  intro pins s σ H Q I h
  obtain ⟨v, e, h⟩ := h
  obtain ⟨m, hn, hl⟩ := I.loc
  obtain ⟨u, r, l⟩ := hl i x v hN e hv
  have fin : EP X pins σ Q u s := ⟨v, H, I, r, h⟩
  rcases l with ⟨hk, hm⟩ | ⟨hk, c, hc, hcell⟩
  · exact wpAny_Name (wpAny_loadName_local I.ok.kind hk hn hm fin) hd
  · rcases hk with hk | hk
    · exact wpAny_Name (wpAny_loadName_cell I.ok.kind hk hc hcell fin) hd
    · exact wpAny_Name (wpAny_loadName_free I.ok.kind hk hc hcell fin hcd) hd
theorem pe_int {i j pos} : PE X (.Constant (.int i) j pos) (tC (.int i)) := fun _ _ _ H _ I h => wpAny_Constant_int ⟨.int i, H, I.tok _, ⟨_, rfl⟩, h⟩
theorem pe_bl {b j pos} : PE X (.Constant (.bool b) j pos) (tC (.bl b)) := fun _ _ _ H _ I h => Constant_bool ⟨.bl b, H, I, rfl, h⟩
theorem pe_non {j pos} : PE X (.Constant .none j pos) (tC .non) := fun _ _ _ H _ I h => Constant_none ⟨.non, H, I, rfl, h⟩
theorem pe_str {x j pos} : PE X (.Constant (.str x) j pos) (tC (.str x)) := fun _ _ _ H _ I h => Calls.Constant_str ⟨.str x, H, I.tok _, ⟨_, rfl⟩, h⟩

/-- a global name of the def -/
def Gl (X : Cx) (x : Str) : Prop := X.env.kindOf x = some .globalImplicit
theorem ld_glob {E : Value → Shared → Prop} {pins : List (Addr × Obj)} {s : Shared} {σ : St} {H : Hp} {x : Str} {u : Value} {pos : Pos} {Q : Value → Shared → Prop} (I : Inv X pins σ H s) (hg : Gl X x) (hm : X.mg x = some u) (h : Q u s)
    (hd : (x == ("__debug__" : Str)) = false := by decide) : wpAny (model X.prog X.w) X.A (eval (.Name x pos) X.env) Q E s :=
  Calls.Name_function_global I.ok.kind hg (Calls.loadGlobal_global (by rw [I.ok.glob]; exact I.mod.glob.keeps I.bk) hm h) hd
theorem ld_blt {E : Value → Shared → Prop} {pins : List (Addr × Obj)} {s : Shared} {σ : St} {H : Hp} {x : Str} {u : Value} {pos : Pos} {Q : Value → Shared → Prop} (I : Inv X pins σ H s) (hg : Gl X x) (hm : X.mg x = none) (hv : bootBuiltins x = some u) (h : Q u s)
    (hn : x ≠ "__name__" := by decide) (hd : (x == ("__debug__" : Str)) = false := by decide) : wpAny (model X.prog X.w) X.A (eval (.Name x pos) X.env) Q E s := by
  obtain ⟨mb, h1, h2⟩ := I.mod.blt
  exact Calls.Name_function_global I.ok.kind hg (Calls.loadGlobal_builtin (by rw [I.ok.glob]; exact I.mod.glob.keeps I.bk) hm (by rw [I.ok.blt]; exact h1.keeps I.bk) ((h2 x hn).trans hv) h) hd
/-- a module's constant, a class, a function, as a value -/
theorem pe_glob {x : Str} {v : V} {u : Value} {pos : Pos} (hg : Gl X x) (hm : X.mg x = some u) (r : RelV v u) (hd : (x == ("__debug__" : Str)) = false := by decide) : PE X (.Name x pos) (tC v) :=
  fun _ _ _ H _ I h => ld_glob I hg hm ⟨v, H, I, r, h⟩ hd
theorem pe_bltn {x : Str} {v : V} {u : Value} {pos : Pos} (hg : Gl X x) (hm : X.mg x = none) (hv : bootBuiltins x = some u) (r : RelV v u) (hn : x ≠ "__name__" := by decide) (hd : (x == ("__debug__" : Str)) = false := by decide) : PE X (.Name x pos) (tC v) :=
  fun _ _ _ H _ I h => ld_blt I hg hm hv ⟨v, H, I, r, h⟩ hn hd

variable {a b : Expr} {ta tb : TE} {pos : Pos}
/-- a comparison as a value, as a test -/
def tB (t : TE) : TT := fun σ H Q => t σ H fun x H1 => ∃ c, x = .bl c ∧ Q c H1
/-- an expression whose value is a bool, as a test -/
theorem pt_val {e : Expr} {t : TE} (h : PE X e t) (he : ∀ whole, isTrue e X.env whole = (do let v ← whole; standAt e.pos; holding [v] (truthy v)) := by intro _; rfl) : PT X e (tB t) := by
  intro pins s σ H Q I hw
  refine isTrue_plain (thn (h pins s σ H _ I hw) fun v s1 ⟨x, H1, I1, r1, q1⟩ => ?_) (he _)
  obtain ⟨d, rfl, q⟩ := q1
  cases r1
  exact wpAny_truthy_bool ⟨H1, I1, q⟩

variable {tA tB' : TT} {rest : List Expr}
def tAnd (t u : TT) : TT := fun σ H Q => t σ H fun c H1 => if c = true then u σ H1 Q else Q false H1
def tOr (t u : TT) : TT := fun σ H Q => t σ H fun c H1 => if c = true then Q true H1 else u σ H1 Q
def tNot (t : TT) : TT := fun σ H Q => t σ H fun c H1 => Q (!c) H1
theorem pw_and1 (ha : PT X a tA) : PW X (.BoolOp .And [a] pos) tA := by
  intro wh pins s σ H Q I h
  refine isTrue_and (thn (ha pins s σ H Q I h) fun c s1 e => ?_)
  cases c with
  | true => exact isTrue_and_nil e
  | false => exact e
theorem pw_or1 (ha : PT X a tA) : PW X (.BoolOp .Or [a] pos) tA := by
  intro wh pins s σ H Q I h
  refine isTrue_or (thn (ha pins s σ H Q I h) fun c s1 e => ?_)
  cases c with
  | false => exact isTrue_or_nil e
  | true => exact e
theorem pw_and (ha : PT X a tA) (hb : PW X (.BoolOp .And (b :: rest) pos) tB') : PW X (.BoolOp .And (a :: b :: rest) pos) (tAnd tA tB') := by
  intro wh pins s σ H Q I h
  refine isTrue_and (thn (ha pins s σ H _ I h) fun c s1 ⟨H1, I1, q1⟩ => ?_)
  cases c with
  | true => exact hb wh pins s1 σ H1 Q I1 q1
  | false => exact ⟨H1, I1, q1⟩
theorem pw_or (ha : PT X a tA) (hb : PW X (.BoolOp .Or (b :: rest) pos) tB') : PW X (.BoolOp .Or (a :: b :: rest) pos) (tOr tA tB') := by
  intro wh pins s σ H Q I h
  refine isTrue_or (thn (ha pins s σ H _ I h) fun c s1 ⟨H1, I1, q1⟩ => ?_)
  cases c with
  | true => exact ⟨H1, I1, q1⟩
  | false => exact hb wh pins s1 σ H1 Q I1 q1
theorem pt_not (ha : PT X a tA) : PT X (.UnaryOp .Not a pos) (tNot tA) := by
  intro pins s σ H Q I h
  exact isTrue_not (ha pins s σ H (fun c H1 => Q (!c) H1) I h)
/-- .. as values (bools) -/
def tAndV (ta tb : TE) : TE := fun σ H Q => ta σ H fun x H1 => ∃ c, x = .bl c ∧ if c = true then tb σ H1 Q else Q (.bl false) H1
def tNotV (ta : TE) : TE := fun σ H Q => ta σ H fun x H1 => ∃ c, x = .bl c ∧ Q (.bl (!c)) H1
theorem pe_one {op} {t : TE} (h : PE X a t) : PE X (.BoolOp op [a] pos) t := fun pins s σ H Q I hw => BoolOp_one (h pins s σ H Q I hw)
theorem pe_and (ha : PE X a ta) (hb : PE X (.BoolOp .And (b :: rest) pos) tb) : PE X (.BoolOp .And (a :: b :: rest) pos) (tAndV ta tb) := by
  intro pins s σ H Q I h
  refine BoolOp_and (thn (ha pins s σ H _ I h) fun v s1 ⟨x, H1, I1, r1, q1⟩ => ?_)
  obtain ⟨c, rfl, q1⟩ := q1
  cases r1
  refine wpAny_truthy_bool ?_
  cases c with
  | true => exact hb pins s1 σ H1 Q I1 q1
  | false => exact ⟨.bl false, H1, I1, rfl, q1⟩
theorem pe_not (ha : PE X a ta) : PE X (.UnaryOp .Not a pos) (tNotV ta) := by
  intro pins s σ H Q I h
  refine UnaryOp_ (thn (ha pins s σ H _ I h) fun v s1 ⟨x, H1, I1, r1, q1⟩ => ?_)
  obtain ⟨c, rfl, q1⟩ := q1
  cases r1
  exact not_of (wpAny_truthy_bool ⟨.bl (!c), H1, I1, rfl, q1⟩)
/-- a if t else b -/
def tIf (t : TT) (ta tb : TE) : TE := fun σ H Q => t σ H fun c H1 => if c = true then ta σ H1 Q else tb σ H1 Q
theorem pe_ifExp {c : Expr} (hc : PT X c tA) (ha : PE X a ta) (hb : PE X b tb) : PE X (.IfExp c a b pos) (tIf tA ta tb) := by
  intro pins s σ H Q I h
  refine wpAny_IfExp (thn (hc pins s σ H _ I h) fun d s1 ⟨H1, I1, q1⟩ => ?_)
  cases d with
  | true => exact ha pins s1 σ H1 Q I1 q1
  | false => exact hb pins s1 σ H1 Q I1 q1
end
end L2

namespace L2
open PySem PySem.Spec PyProof.Rows

def SqL (K : PySem.W.Frag) (H : Hp) (a : Addr) (xs : List V) : Prop :=
  Rd H a (.lst xs) ∨
    ∃ (o : Obj) (its : Array Value) (n : Nat), K.lookup a = some o ∧ o.cls = .type "list" ∧ o.dict = none ∧ o.data = .seq its n ∧ its.size ≤ sizeLine ∧ Vals xs its.toList
def SqT (K : PySem.W.Frag) (H : Hp) (a : Addr) (xs : List V) : Prop :=
  Rd H a (.tup xs) ∨
    ∃ (o : Obj) (its : Array Value) (n : Nat), K.lookup a = some o ∧ o.cls = .type "tuple" ∧ o.data = .seq its n ∧ its.size ≤ sizeLine ∧ Vals xs its.toList
def absV : Value → Option V
  | .none => some .non
  | .bool b => some (.bl b)
  | .int i _ => some (.int i)
  | .str x _ => some (.str x)
  | .bytes b _ => some (.byt b)
  | .float b _ => some (.flt b)
  | .ref a => some (.ref a)
  | .type n => some (.ty n)
  | _ => none
theorem RelV.abs {x : V} {u : Value} (r : RelV x u) : absV u = some x := by
  cases x with
  | non => cases r; rfl
  | bl _ => cases r; rfl
  | int _ => obtain ⟨t, rfl⟩ := r; rfl
  | str _ => obtain ⟨t, rfl⟩ := r; rfl
  | byt _ => obtain ⟨t, rfl⟩ := r; rfl
  | flt _ => obtain ⟨t, rfl⟩ := r; rfl
  | ref _ => cases r; rfl
  | ty _ => cases r; rfl
theorem RelV.inj {x y : V} {u : Value} (r : RelV x u) (q : RelV y u) : x = y := Option.some.inj (r.abs.symm.trans q.abs)
theorem Vals.inj : ∀ {xs ys : List V} {us : List Value}, Vals xs us → Vals ys us → xs = ys
  | _, _, _, .nil, .nil => rfl
  | _, _, _, .cons r t, .cons r' t' => by rw [r.inj r', Vals.inj t t']
section
variable {X : Cx} {pins : List (Addr × Obj)} {σ : St} {H : Hp} {s : Shared} {a : Addr} {xs ys : List V}
theorem SqL.of {K : PySem.W.Frag} (h : H a = some (.lst xs)) : SqL K H a xs := .inl (.inl h)
theorem SqT.of {K : PySem.W.Frag} (h : H a = some (.tup xs)) : SqT K H a xs := .inl (.inl h)
theorem Inv.list (I : Inv X pins σ H s) (h : SqL X.K H a xs) : ∃ its : List Value, Vals xs its ∧ PlainL s.heap a its.toArray ∧ xs.length ≤ sizeLine := by
  rcases h with h | ⟨o, its, n, hk, hc, hd, hs, hz, r⟩
  · obtain ⟨z, its, n, r, e⟩ := h.ok I.hok
    exact ⟨its, r, ⟨_, n, e, rfl, rfl, rfl⟩, z⟩
  · refine ⟨its.toList, r, ⟨o, n, I.kIn a o hk, hc, hd, by simpa using hs⟩, ?_⟩
    have e := r.length
    simp only [Array.length_toList] at e
    omega
theorem Inv.tuple (I : Inv X pins σ H s) (h : SqT X.K H a xs) : ∃ its : List Value, Vals xs its ∧ IsTup s.heap a its.toArray ∧ xs.length ≤ sizeLine := by
  rcases h with h | ⟨o, its, n, hk, hc, hs, hz, r⟩
  · obtain ⟨z, its, r, p⟩ := h.ok I.hok
    exact ⟨its, r, p, z⟩
  · refine ⟨its.toList, r, ⟨o, I.kIn a o hk, hc, n, by simpa using hs⟩, ?_⟩
    have e := r.length
    simp only [Array.length_toList] at e
    omega
theorem Inv.list_inj (I : Inv X pins σ H s) (h : SqL X.K H a xs) (h' : SqL X.K H a ys) : xs = ys := by
  obtain ⟨its, r, ⟨o, n, e, _, _, d⟩, _⟩ := I.list h
  obtain ⟨its', r', ⟨o', n', e', _, _, d'⟩, _⟩ := I.list h'
  rw [e] at e'; cases e'
  rw [d] at d'
  injection d' with d1 _
  have : its = its' := by simpa using congrArg Array.toList d1
  subst this
  exact r.inj r'
end

abbrev Cx.wish (X : Cx) (E : Value → Shared → Prop) : Cx := { X with xe := E }
/-- no exception leaves -/
abbrev Cx.nox (X : Cx) : Cx := X.wish fun _ _ => False
theorem Cx.Ok.wish {X : Cx} (ok : X.Ok) (E : Value → Shared → Prop) : (X.wish E).Ok :=
  ⟨ok.mod, ok.kind, ok.glob, ok.blt, ok.above, ok.inj, ok.has, ok.cab, ok.hd, ok.frames, ok.stk, ok.exf, ok.bs, ok.bsz, ok.noex, ok.exfs, ok.funs, ok.frf⟩
theorem Cx.Ok.unwish {X : Cx} {E : Value → Shared → Prop} (ok : (X.wish E).Ok) : X.Ok :=
  ⟨ok.mod, ok.kind, ok.glob, ok.blt, ok.above, ok.inj, ok.has, ok.cab, ok.hd, ok.frames, ok.stk, ok.exf, ok.bs, ok.bsz, ok.noex, ok.exfs, ok.funs, ok.frf⟩
section
variable {X : Cx} {pins : List (Addr × Obj)} {σ : St} {H : Hp} {s : Shared} {E : Value → Shared → Prop}
theorem Inv.wish (I : Inv X pins σ H s) (E : Value → Shared → Prop) : Inv (X.wish E) pins σ H s := ⟨I.ok.wish E, I.os, I.bare, I.base, I.loc, I.cell, I.free, I.freeC, I.pin, I.hok, I.len⟩
theorem Inv.unwish (I : Inv (X.wish E) pins σ H s) : Inv X pins σ H s := ⟨I.ok.unwish, I.os, I.bare, I.base, I.loc, I.cell, I.free, I.freeC, I.pin, I.hok, I.len⟩
theorem SP.unwish {D : Ends} {f : Flow} {s' : Shared} (h : SP (X.wish E) pins D f s') : SP X pins D f s' := by
  cases f with
  | next => obtain ⟨σ', H', I, q⟩ := h; exact ⟨σ', H', I.unwish, q⟩
  | brk => obtain ⟨σ', H', I, q⟩ := h; exact ⟨σ', H', I.unwish, q⟩
  | cont => obtain ⟨σ', H', I, q⟩ := h; exact ⟨σ', H', I.unwish, q⟩
  | ret u => obtain ⟨v, σ', H', I, r, q⟩ := h; exact ⟨v, σ', H', I.unwish, r, q⟩
theorem PSs.nox {st : List Stmt} {t : TS} (h : PSs X.nox st t) : PSs X st t := fun pins s σ H D I hw =>
  wpAny_mono (h pins s σ H D (I.wish _) hw) (fun _ _ q => q.unwish) fun _ _ z => False.elim z
end

section
variable {X : Cx} {st : Stmt} {rest : List Stmt} {t u : TS} {e : Expr} {te : TE} {pos : Pos}
def tNext : TS := fun D σ H => D.nx σ H
def tSeq (t u : TS) : TS := fun D σ H => t { D with nx := u D } σ H
theorem pss_nil : PSs X [] tNext := fun _ _ σ H _ I h => wpAny_execs_nil ⟨σ, H, I, h⟩
theorem pss_cons (h1 : PS X st t) (h2 : PSs X rest u) : PSs X (st :: rest) (tSeq t u) := by
  intro pins s σ H D I h
  refine wpAny_execs_cons (thn (h1 pins s σ H { D with nx := u D } I h) fun f s1 q => ?_)
  cases f with
  | next =>
    obtain ⟨σ', H', I', q⟩ := q
    exact h2 pins s1 σ' H' D I' q
  | ret v => exact q
  | brk => exact q
  | cont => exact q
theorem pss_one (h1 : PS X st t) : PSs X [st] t := by
  intro pins s σ H D I h
  refine wpAny_execs_cons (thn (h1 pins s σ H D I h) fun f s1 q => ?_)
  cases f with
  | next => exact wpAny_execs_nil q
  | ret v => exact q
  | brk => exact q
  | cont => exact q
/-- in a def's body nothing is shown -/
theorem Inv.quiet {pins : List (Addr × Obj)} {σ : St} {H : Hp} {s : Shared} (I : Inv X pins σ H s) : interactive X.env = false := by simp [interactive, I.ok.kind]
/-- an expression whose value is dropped -/
def tDrop (te : TE) : TS := fun D σ H => te σ H fun _ H1 => D.nx σ H1
theorem ps_expr (he : PE X e te) (hs : swapsWith e none pos.line X.env = pure false := by rfl) : PS X (.Expr e pos) (tDrop te) := by
  intro pins s σ H D I h
  exact wpAny_Expr_any (thn (he pins s σ H _ I h) fun v s1 ⟨x, H1, I1, r1, q1⟩ => ⟨σ, H1, I1, q1⟩) I.quiet hs
def tRet (te : TE) : TS := fun D σ H => te σ H D.rt
theorem ps_ret (he : PE X e te) : PS X (.Return (some e) pos) (tRet te) := by
  intro pins s σ H D I h
  exact wpAny_Return_some (thn (he pins s σ H _ I h) fun v s1 ⟨x, H1, I1, r1, q1⟩ => ⟨x, σ, H1, I1, r1, q1⟩)
def tIfS (c : TT) (t u : TS) : TS := fun D σ H => c σ H fun b H1 => if b = true then t D σ H1 else u D σ H1
theorem ps_if {c : Expr} {a b : List Stmt} {tc : TT} (hc : PT X c tc) (ha : PSs X a t) (hb : PSs X b u) : PS X (.If c a b pos) (tIfS tc t u) := by
  intro pins s σ H D I h
  refine wpAny_If (thn (hc pins s σ H _ I h) fun d s1 ⟨H1, I1, q1⟩ => ?_)
  cases d with
  | true => exact ha pins s1 σ H1 D I1 q1
  | false => exact hb pins s1 σ H1 D I1 q1
end

abbrev TG := V → St → Hp → (St → Hp → Prop) → Prop
abbrev TGs := List V → St → Hp → (St → Hp → Prop) → Prop
def PG (X : Cx) (target : Expr) (t : TG) : Prop :=
  ∀ (pins : List (Addr × Obj)) (s : Shared) (σ : St) (H : Hp) (v : V) (u : Value) (Q : St → Hp → Prop), Inv X pins σ H s → RelV v u → t v σ H Q →
    wpAny (model X.prog X.w) X.A (assign target X.env u) (fun _ s' => ∃ σ' H', Inv X pins σ' H' s' ∧ Q σ' H') X.xe s
/-- several targets, one after another -/
def PGs (X : Cx) (ts : List Expr) (t : TGs) : Prop :=
  ∀ (pins : List (Addr × Obj)) (s : Shared) (σ : St) (H : Hp) (vs : List V) (us : List Value) (Q : St → Hp → Prop), Inv X pins σ H s → Vals vs us → t vs σ H Q →
    wpAny (model X.prog X.w) X.A (assignInOrder ((assignEach ts X.env).map (·.2)) us) (fun _ s' => ∃ σ' H', Inv X pins σ' H' s' ∧ Q σ' H') X.xe s
/-- o[i] = v, by values -/
abbrev TSet := V → V → V → Hp → (Hp → Prop) → Prop
def PSet (X : Cx) (t : TSet) : Prop :=
  ∀ (pins : List (Addr × Obj)) (s : Shared) (σ : St) (H : Hp) (o i v : V) (ov iv u : Value) (Q : Hp → Prop), Inv X pins σ H s → RelV o ov → RelV i iv → RelV v u → t o i v H Q →
    wpAny (model X.prog X.w) X.A (setItem ov iv u) (fun _ s' => ∃ H', Inv X pins σ H' s' ∧ Q H') X.xe s
/-- a op= b, by values -/
abbrev TIp := V → V → Hp → VK → Prop
def PIp (X : Cx) (op : Operator) (t : TIp) : Prop :=
  ∀ (pins : List (Addr × Obj)) (s : Shared) (σ : St) (H : Hp) (x y : V) (v u : Value) (Q : VK), Inv X pins σ H s → RelV x v → RelV y u → t x y H Q →
    wpAny (model X.prog X.w) X.A (inplaceOp op v u) (EP X pins σ Q) X.xe s
section
variable {X : Cx} {pos : Pos}
def gName (i : Nat) : TG := fun v σ H Q => Q (σ.set i (some v)) H
theorem pg_name {i : Nat} {x : Str} (hN : X.N.Nodup) (hi : X.N[i]? = some x) (hx : Loc X.env.scope x) (hf : X.fn x = true ∨ X.env.scope.names.lookup x = some .local := by first | exact .inl rfl | exact .inr rfl | assumption) : PG X (.Name x pos) (gName i) := by
  intro pins s σ H v u Q I r h
  exact wpAny_assign_Name (store_ok I hN hi hx r (fun s' I' => ⟨_, H, I', h⟩) hf)
def gNil : TGs := fun vs σ H Q => vs = [] ∧ Q σ H
def gCons (t : TG) (u : TGs) : TGs := fun vs σ H Q => ∃ v r, vs = v :: r ∧ t v σ H fun σ' H' => u r σ' H' Q
theorem pgs_nil : PGs X [] gNil := by
  intro pins s σ H vs us Q I r h
  obtain ⟨e, h⟩ := h
  subst e
  cases r
  exact assignInOrder_nil ⟨σ, H, I, h⟩
theorem pgs_cons {e : Expr} {es : List Expr} {t : TG} {u : TGs} (h1 : PG X e t) (h2 : PGs X es u)
    (hs : (assignEach (e :: es) X.env).map (·.2) = assign e X.env :: (assignEach es X.env).map (·.2) := by rfl) : PGs X (e :: es) (gCons t u) := by
  intro pins s σ H vs us Q I r h
  obtain ⟨v, vr, e1, h⟩ := h
  subst e1
  cases r with
  | cons r rr =>
    rw [hs]
    refine assignInOrder_cons (thn (h1 pins s σ H _ _ _ I r h) fun _ s1 ⟨σ1, H1, I1, q1⟩ => ?_)
    exact h2 pins s1 σ1 H1 _ _ Q I1 rr q1
/-- (a, b, ..) = a tuple of that length -/
def gTup (K : PySem.W.Frag) (n : Nat) (t : TGs) : TG := fun v σ H Q => ∃ a xs, v = .ref a ∧ SqT K H a xs ∧ xs.length = n ∧ t xs σ H Q
theorem pg_tup {es : List Expr} {k : Nat} {t : TGs} {n : Nat} (hc : X.calm = true) (h : PGs X es t)
    (hn : (assignEach es X.env).length = n := by rfl) (hst : (assignEach es X.env).findIdx? (·.1) = none := by rfl) : PG X (.Tuple es k pos) (gTup X.K n t) := by
  intro pins s σ H v u Q I r hw
  obtain ⟨a, xs, e1, hq, hl, hw⟩ := hw
  subst e1
  cases r
  obtain ⟨its, rv, ht, hz⟩ := I.tuple hq
  refine assign_Tuple_tuple (I.ok.hd hc) ht (by simp [hn, ← hl, rv.length]) hst fun h' hx => ?_
  have I1 : Inv X pins σ H { s with heap := h' } := I.kept (t' := s.toks) fun b o e => hx b o (Nat.ne_of_lt (Heap.lt_size e)) e
  exact h pins _ σ H xs _ Q I1 (by simpa using rv) hw
/-- o[i] = .. -/
def gSub (to ti : TE) (t : TSet) : TG := fun v σ H Q => to σ H fun o H1 => ti σ H1 fun i H2 => t o i v H2 fun H3 => Q σ H3
theorem pg_sub {o i : Expr} {to ti : TE} {t : TSet} (ho : PE X o to) (hi : PE X i ti) (hs : PSet X t)
    (ha : ∀ v, assign (.Subscript o i pos) X.env v = (do
      let ov ← holding [v] (eval o X.env)
      let iv ← holding [v, ov] (eval i X.env)
      standAt pos
      holding [v, ov, iv] (setItem ov iv v)
      release [v, ov, iv] []) := by intro _; rfl) : PG X (.Subscript o i pos) (gSub to ti t) := by
  intro pins s σ H v u Q I r h
  rw [ha]
  refine wpAny_bind (wpAny_holding (thn (ho pins s σ H _ I h) fun ov s1 ⟨x, H1, I1, r1, q1⟩ => ?_))
  refine wpAny_bind (wpAny_holding (thn (hi pins s1 σ H1 _ I1 q1) fun iv s2 ⟨y, H2, I2, r2, q2⟩ => ?_))
  refine wpAny_bind (wpAny_standAt (wpAny_bind (wpAny_holding (thn (hs pins s2 σ H2 x y v ov iv u _ I2 r1 r2 r q2) fun _ s3 ⟨H3, I3, q3⟩ => ?_))))
  exact wpAny_release ⟨σ, H3, I3, q3⟩
/-- target = value -/
def tAsg (te : TE) (g : TG) : TS := fun D σ H => te σ H fun x H1 => g x σ H1 D.nx
theorem ps_asg {tg e : Expr} {te : TE} {g : TG} (he : PE X e te) (hg : PG X tg g) (hs : swapsWithSole [tg] e pos.line X.env = pure false := by rfl) (hw : swappedStores [tg] e X.env = pure none := by rfl)
    (h1 : (assignEach [tg] X.env).map (·.2) = [assign tg X.env] := by rfl) : PS X (.Assign [tg] e pos) (tAsg te g) := by
  intro pins s σ H D I h
  refine wpAny_Assign_stores (thn (he pins s σ H _ I h) fun v s1 ⟨x, H1, I1, r1, q1⟩ => ?_) hs hw
  rw [h1]
  exact thn (hg pins s1 σ H1 x v _ I1 r1 q1) fun _ s2 q => q
/-- name = value -/
theorem ps_set {i : Nat} {x : Str} {e : Expr} {te : TE} {pos' : Pos} (hN : X.N.Nodup) (hi : X.N[i]? = some x) (hx : Loc X.env.scope x) (he : PE X e te) (hs : swapsWith e (some (.Name x pos')) pos.line X.env = pure false := by rfl) (hf : X.fn x = true ∨ X.env.scope.names.lookup x = some .local := by first | exact .inl rfl | exact .inr rfl | assumption) :
    PS X (.Assign [.Name x pos'] e pos) (tAsg te (gName i)) := by
  intro pins s σ H D I h
  refine wpAny_Assign_Name (thn (he pins s σ H _ I h) fun v s1 ⟨y, H1, I1, r1, q1⟩ => ?_) hs
  exact store_ok I1 hN hi hx r1 (fun s2 I2 => ⟨_, H1, I2, q1⟩) hf
/-- name op= e -/
def tAug (i : Nat) (te : TE) (ti : TIp) : TS := fun D σ H => ∃ x, σ[i]? = some (some x) ∧ te σ H fun y H1 => ti x y H1 fun z H2 => D.nx (σ.set i (some z)) H2
theorem ps_aug {i : Nat} {x : Str} {e : Expr} {te : TE} {op : Operator} {ti : TIp} {pos' : Pos} (hN : X.N.Nodup) (hi : X.N[i]? = some x) (hx : Loc X.env.scope x) (he : PE X e te) (ho : PIp X op ti) (hf : X.fn x = true ∨ X.env.scope.names.lookup x = some .local := by first | exact .inl rfl | exact .inr rfl | assumption) :
    PS X (.AugAssign (.Name x pos') op e pos) (tAug i te ti) := by
  intro pins s σ H D I h
  obtain ⟨v, e1, h⟩ := h
  obtain ⟨m, hn, hl⟩ := I.loc
  have vis : Vis X.env.scope x := by rcases hx with k | k; exact .inl k; exact .inr (.inl k)
  obtain ⟨u, r, l⟩ := hl i x v hi e1 vis
  refine wpAny_AugAssign_Name ?_
  have go : wpAny (model X.prog X.w) X.A (eval e X.env) (fun w s₂ => wpAny (model X.prog X.w) X.A (inplaceOp op u w) (fun r s₃ => wpAny (model X.prog X.w) X.A (storeName X.env x r) (fun _ => SP X pins D .next) X.xe s₃) X.xe s₂) X.xe s := by
    refine thn (he pins s σ H _ I h) fun w s1 ⟨y, H1, I1, r1, q1⟩ => ?_
    refine thn (ho pins s1 σ H1 v y u w _ I1 r r1 q1) fun z s2 ⟨zv, H2, I2, r2, q2⟩ => ?_
    exact store_ok I2 hN hi hx r2 (fun s3 I3 => ⟨_, H2, I3, q2⟩) hf
  rcases l with ⟨hk, hm⟩ | ⟨hk, c, hc, hcell⟩
  · exact wpAny_loadName_local I.ok.kind hk hn hm go
  · rcases hk with hk | hk
    · exact wpAny_loadName_cell I.ok.kind hk hc hcell go
    · rcases hx with k | k
      · have : X.env.scope.names.lookup x = some .free := hk
        rw [k] at this; cases this
      · have : X.env.scope.names.lookup x = some .free := hk
        rw [k] at this; cases this
/-- o[i] op= e -/
def tAugS (to ti te : TE) (tget : V → V → Hp → VK → Prop) (tip : TIp) (tset : TSet) : TS := fun D σ H => to σ H fun o H1 => ti σ H1 fun i H2 => tget o i H2 fun x H3 => te σ H3 fun y H4 => tip x y H4 fun z H5 => tset o i z H5 fun H6 => D.nx σ H6
/-- o[i], by values -/
def PGet (X : Cx) (t : V → V → Hp → VK → Prop) : Prop :=
  ∀ (pins : List (Addr × Obj)) (s : Shared) (σ : St) (H : Hp) (o i : V) (ov iv : Value) (Q : VK), Inv X pins σ H s → RelV o ov → RelV i iv → t o i H Q →
    wpAny (model X.prog X.w) X.A (getItem ov iv) (EP X pins σ Q) X.xe s
theorem ps_augS {o i e : Expr} {to ti te : TE} {tget : V → V → Hp → VK → Prop} {tip : TIp} {tset : TSet} {op : Operator} {tpos : Pos} (ho : PE X o to) (hi : PE X i ti) (hg : PGet X tget) (he : PE X e te) (hp : PIp X op tip) (hs : PSet X tset)
    (ha : ∀ ov iv new, augStore i ov iv new = (do holding [new, ov, iv] (setItem ov iv new); release [new, ov, iv] []; pure .next) := by intros; rfl) : PS X (.AugAssign (.Subscript o i tpos) op e pos) (tAugS to ti te tget tip tset) := by
  intro pins s σ H D I h
  refine wpAny_AugAssign_SubscriptAny (thn (ho pins s σ H _ I h) fun ov s1 ⟨x1, H1, I1, r1, q1⟩ => ?_) ha
  refine thn (hi pins s1 σ H1 _ I1 q1) fun iv s2 ⟨x2, H2, I2, r2, q2⟩ => ?_
  refine thn (hg pins s2 σ H2 x1 x2 ov iv _ I2 r1 r2 q2) fun old s3 ⟨x3, H3, I3, r3, q3⟩ => ?_
  refine thn (he pins s3 σ H3 _ I3 q3) fun v s4 ⟨x4, H4, I4, r4, q4⟩ => ?_
  refine thn (hp pins s4 σ H4 x3 x4 old v _ I4 r3 r4 q4) fun new s5 ⟨x5, H5, I5, r5, q5⟩ => ?_
  exact thn (hs pins s5 σ H5 x1 x2 x5 ov iv new _ I5 r1 r2 r5 q5) fun _ s6 ⟨H6, I6, q6⟩ => ⟨σ, H6, I6, q6⟩
/-- ints -/
def ipI (f : Int → Int → Int) : TIp := fun x y H Q => ∃ i j, x = .int i ∧ y = .int j ∧ Q (.int (f i j)) H
theorem ip_add : PIp X .Add (ipI fun i j => i + j) := by
  intro pins s σ H x y v u Q I r1 r2 h
  obtain ⟨i, j, e1, e2, q⟩ := h
  subst e1; subst e2
  obtain ⟨t, rfl⟩ := r1
  obtain ⟨t', rfl⟩ := r2
  exact iadd_int ⟨.int _, H, I.tok _, ⟨_, rfl⟩, q⟩
theorem ip_sub : PIp X .Sub (ipI fun i j => i - j) := by
  intro pins s σ H x y v u Q I r1 r2 h
  obtain ⟨i, j, e1, e2, q⟩ := h
  subst e1; subst e2
  obtain ⟨t, rfl⟩ := r1
  obtain ⟨t', rfl⟩ := r2
  exact isub_int ⟨.int _, H, I.tok _, ⟨_, rfl⟩, q⟩
end

section
variable {X : Cx} {pos : Pos}
/-- the invariant W with its measure -/
def tWhile (c : TT) (tb : TS) : TS := fun D σ H => ∃ W : Nat → St → Hp → Prop, (∃ m, W m σ H) ∧ ∀ m σ H, W m σ H →
  c σ H fun b H1 => if b = true then ∃ N : St → Hp → Prop, (∀ σ' H', N σ' H' → ∃ m', m' < m ∧ W m' σ' H') ∧ tb { D with nx := N, ct := N, bk := D.nx } σ H1 else D.nx σ H1
theorem ps_while {c : Expr} {body : List Stmt} {tc : TT} {tb : TS} (hp : PassesOwn (model X.prog X.w) X.A X.env X.xe) (hc : PT X c tc) (hb : PSs X body tb) : PS X (.While c body [] pos) (tWhile tc tb) := by
  intro pins s σ H D I h
  obtain ⟨W, ⟨m0, w0⟩, turn⟩ := h
  refine wpAny_While (codeAny_whileLoop (fun n s' => ∃ σ' H', Inv X pins σ' H' s' ∧ W n σ' H') ?_ m0 ⟨σ, H, I, w0⟩)
  rintro n s1 ⟨σ1, H1, I1, w1⟩
  refine wpAny_passesOwn hp (thn (hc pins s1 σ1 H1 _ I1 (turn n σ1 H1 w1)) fun b s2 ⟨H2, I2, q2⟩ => ?_)
  cases b with
  | true =>
    obtain ⟨N, hN, q2⟩ := q2
    rw [if_pos rfl]
    refine wpAny_passesOwn hp (thn (hb pins s2 σ1 H2 _ I2 q2) fun f s3 q3 => ?_)
    cases f with
    | next =>
      obtain ⟨σ3, H3, I3, n3⟩ := q3
      obtain ⟨m', hm, w3⟩ := hN σ3 H3 n3
      exact ⟨m', hm, σ3, H3, I3, w3⟩
    | cont =>
      obtain ⟨σ3, H3, I3, n3⟩ := q3
      obtain ⟨m', hm, w3⟩ := hN σ3 H3 n3
      exact ⟨m', hm, σ3, H3, I3, w3⟩
    | brk => exact q3
    | ret v => exact q3
  | false =>
    rw [if_neg Bool.false_ne_true]
    exact wpAny_execs_nil ⟨σ1, H2, I2, q2⟩
end

/-- at turn i: it yields x (the heap may grow), or it stops -/
structure It where
  go : Nat → Hp → Prop
  yld : Nat → Hp → V → Hp → Prop
  stop : Nat → Hp → Prop
/-- the iterator's own objects may turn: they are not the frame's, not pinned, younger than the entry (or a comprehension's own) -/
def FpOk (X : Cx) (pins : List (Addr × Obj)) (H : Hp) (b : Addr) : Prop :=
  H b = none ∧ b ≠ X.env.locals ∧ b ∉ X.fs ∧ (b ∈ X.ex ∨ X.s₀.heap.objs.size ≤ b) ∧ (∀ x c, X.env.cells.lookup x = some c → c ≠ b) ∧ ∀ p ∈ X.pn ++ pins, p.1 ≠ b
theorem Inv.fpOk {X : Cx} {pins : List (Addr × Obj)} {σ : St} {H H' : Hp} {s : Shared} {b : Addr} (I : Inv X pins σ H s) (hb : s.heap.objs.size ≤ b) (hn : H' b = none) : FpOk X pins H' b := by
  refine ⟨hn, Nat.ne_of_gt (Nat.lt_of_lt_of_le I.lt hb), I.nofs hb, .inr (Nat.le_trans I.sz hb), fun x c e z => ?_, fun p hp z => ?_⟩
  · obtain ⟨v, q⟩ := I.cell x c e
    exact absurd (Nat.lt_of_lt_of_le q.lt (by rw [z]; exact hb)) (Nat.lt_irrefl _)
  · exact absurd (Nat.lt_of_lt_of_le (Heap.lt_size (I.pin p hp).1) (by rw [z]; exact hb)) (Nat.lt_irrefl _)
structure Turn (P : Program) (w : World) (K : PySem.W.Frag) (tg : Expr) (J : It) (fp : List Addr) (it : Addr) (tn : Nat → Heap → Prop) : Prop where
  mem : it ∈ fp
  obj : ∀ i h, tn i h → ∀ b ∈ fp, ∃ o, h.get? b = some o ∧ ∀ v, o.data ≠ .cell v
  keep : ∀ i h h', tn i h → (∀ b ∈ fp, ∀ o, h.get? b = some o → h'.get? b = some o) → tn i h'
  item : ∀ (X : Cx), X.prog = P → X.w = w → X.K = K → X.calm = true → ∀ (i : Nat) (pins : List (Addr × Obj)) (s : Shared) (σ : St) (H : Hp) (E : Value → Shared → Prop), Inv X pins σ H s → (∀ b ∈ fp, FpOk X pins H b) → tn i s.heap → J.go i H →
    wpAny (model P w) X.A (pyNext (.ref it)) (fun r s1 => ∃ u, r = some u ∧
      wpAny (model P w) X.A (letOwnedTupleGo tg (.ref it) u) (fun _ s2 => ∃ x H', Inv X pins σ H' s2 ∧ RelV x u ∧ J.yld i H x H' ∧ tn (i + 1) s2.heap ∧ ∀ b ∈ fp, H' b = none) E s1) E s
  done : ∀ (X : Cx), X.prog = P → X.w = w → X.K = K → X.calm = true → ∀ (i : Nat) (pins : List (Addr × Obj)) (s : Shared) (σ : St) (H : Hp) (E : Value → Shared → Prop), Inv X pins σ H s → (∀ b ∈ fp, FpOk X pins H b) → tn i s.heap → J.stop i H →
    wpAny (model P w) X.A (pyNext (.ref it)) (fun r s1 => r = none ∧ Inv X pins σ H s1) E s
  self : ∀ (A : Around) (i : Nat) (s : Shared) (Q : Value → Shared → Prop) (E : Value → Shared → Prop), tn i s.heap → Q (.ref it) s → wpAny (model P w) A (pyIter (.ref it)) Q E s
abbrev TI := St → Hp → (It → Hp → Prop) → Prop
/-- an iterator has come -/
def PIE (X : Cx) (pins : List (Addr × Obj)) (σ : St) (tg : Expr) (R : It → Hp → Prop) (itv : Value) (s2 : Shared) : Prop :=
  ∃ (it : Addr) (fp : List Addr) (tn : Nat → Heap → Prop) (J : It) (H' : Hp), itv = .ref it ∧ Inv X pins σ H' s2 ∧ Turn X.prog X.w X.K tg J fp it tn ∧ tn 0 s2.heap ∧ (∀ b ∈ fp, FpOk X pins H' b) ∧ R J H'
def PI (X : Cx) (tg iter : Expr) (wi : TI) : Prop :=
  ∀ (pins : List (Addr × Obj)) (s : Shared) (σ : St) (H : Hp) (R : It → Hp → Prop), Inv X pins σ H s → wi σ H R →
    wpAny (model X.prog X.w) X.A (eval iter X.env) (fun v s1 => wpAny (model X.prog X.w) X.A (pyIter v) (PIE X pins σ tg R) X.xe s1) X.xe s

/-- the step ahead of the store is nothing for an iterator that keeps no tuple -/
theorem go_of {M : Model} {A : Around} {E : Value → Shared → Prop} {s : Shared} {tg : Expr} {it : Addr} {u : Value} {o : Obj} {n : String} {vs : Array Value} {Q : Unit → Shared → Prop} (ho : s.heap.get? it = some o) (hc : o.cls = .type n) (hd : o.data = .fields vs)
    (hn : ["enumerate", "zip", "dict_itemiterator", "dict_reverseitemiterator", "odict_iterator", "itertools.zip_longest", "itertools.pairwise"].contains n = false) (hQ : Q () s) : wpAny M A (letOwnedTupleGo tg (.ref it) u) Q E s := by
  unfold letOwnedTupleGo
  cases tg <;> first
    | exact wpAny_pure hQ
    | (cases u <;> first
        | exact wpAny_pure hQ
        | (refine wpAny_bind (wpAny_load ho ?_)
           rw [hc, hd]
           show wpAny M A (if (["enumerate", "zip", "dict_itemiterator", "dict_reverseitemiterator", "odict_iterator", "itertools.zip_longest", "itertools.pairwise"].contains n && vs[0]? == some (rawInt _)) = true then _ else _) Q E s
           rw [if_neg (by intro h; rw [hn, Bool.false_and] at h; cases h)]
           exact wpAny_pure hQ))

/-- the list at a, as it stands at each turn (a loop may append to it) -/
def Itl (K : PySem.W.Frag) (a : Addr) : It :=
  ⟨fun i H => ∃ xs x, SqL K H a xs ∧ xs[i]? = some x, fun i H x H' => H' = H ∧ ∀ xs, SqL K H a xs → xs[i]? = some x, fun i H => ∃ xs, SqL K H a xs ∧ xs.length ≤ i⟩
/-- lo, lo + 1, .. (n of them) -/
def Itr (lo : Int) (n : Nat) : It := ⟨fun i _ => i < n, fun i H x H' => H' = H ∧ x = .int (lo + i), fun i _ => n ≤ i⟩
theorem turn_list {P : Program} {w : World} {K : PySem.W.Frag} {tg : Expr} (a it : Addr) : Turn P w K tg (Itl K a) [it] it (fun i h => h.IsListIter it a i) where
  mem := by simp
  obj := fun i h st b hb => by
    have e : b = it := by simpa using hb
    subst e
    obtain ⟨o, e, c, d⟩ := st
    exact ⟨o, e, fun v z => by rw [d] at z; cases z⟩
  keep := fun i h h' st k => st.at fun o e => k it (by simp) o e
  item := by
    intro X hP hw hK hc i pins s σ H E I hf st hg
    subst hP hw hK
    obtain ⟨xs, x, hq, hx⟩ := hg
    obtain ⟨its, rv, p, hz⟩ := I.list hq
    obtain ⟨u, hu, ru⟩ := rv.get hx
    obtain ⟨f0, f1, f2, f3, f4, f5⟩ := hf it (by simp)
    refine wpAny_pyNext_list_item st p.isList (x := u) (by simpa using hu) fun h' st' sb => ?_
    have I1 : Inv X pins σ H { s with heap := h' } := I.turned (t' := s.toks) (fun b o hb e => (sb.2 b hb).trans e) f0 f1 f3 f4 f5
    obtain ⟨o, e, c, d⟩ := id st'
    exact ⟨u, rfl, go_of (s := { s with heap := h' }) e c d (by decide) ⟨x, H, I1, ru, ⟨rfl, fun ys hy => by rw [I.list_inj hy hq]; exact hx⟩, st', fun b hb => (hf b hb).1⟩⟩
  done := by
    intro X hP hw hK hc i pins s σ H E I hf st hg
    subst hP hw hK
    obtain ⟨xs, hq, hx⟩ := hg
    obtain ⟨its, rv, p, hz⟩ := I.list hq
    obtain ⟨f0, f1, f2, f3, f4, f5⟩ := hf it (by simp)
    have hl := rv.length
    exact wpAny_pyNext_list_end (I.ok.hd hc) st p.isList (by simp; omega) fun h' eb => ⟨rfl, I.turned (t' := s.toks) (fun b o hb e => eb b o hb e) f0 f1 f3 f4 f5⟩
  self := fun _ _ _ _ _ st h => wpAny_pyIter_listiter st h
theorem turn_range {P : Program} {w : World} {K : PySem.W.Frag} {tg : Expr} (it : Addr) (lo : Int) (n : Nat) : Turn P w K tg (Itr lo n) [it] it (fun i h => IsRangeIter h it (lo + (i : Nat) * 1) ((n : Int) - (i : Nat)) 1) where
  mem := by simp
  obj := fun i h st b hb => by
    have e : b = it := by simpa using hb
    subst e
    exact ⟨_, st, fun v z => by
      have z' : Data.fields _ = Data.cell v := z
      cases z'⟩
  keep := fun i h h' st k => k it (by simp) _ st
  item := by
    intro X hP hw hK hc i pins s σ H E I hf st hg
    subst hP hw hK
    obtain ⟨f0, f1, f2, f3, f4, f5⟩ := hf it (by simp)
    have W := Walks.range (prog := X.prog) (w := X.w) (I.ok.hd hc) it lo 1 n
    refine W.item i s _ _ hg st fun v h' tk hv st' kk => ?_
    obtain ⟨t, rfl⟩ := hv
    have I1 : Inv X pins σ H { s with heap := h', toks := tk } := I.turned (fun b o hb e => kk b o (by simpa using hb) e) f0 f1 f3 f4 f5
    refine ⟨_, rfl, go_of (s := { s with heap := h', toks := tk }) (n := "range_iterator") st' rfl rfl (by decide) ⟨.int (lo + i), H, I1, ⟨t, ?_⟩, ⟨rfl, rfl⟩, st', fun b hb => (hf b hb).1⟩⟩
    rw [Int.mul_one]
  done := by
    intro X hP hw hK hc i pins s σ H E I hf st hg
    subst hP hw hK
    obtain ⟨f0, f1, f2, f3, f4, f5⟩ := hf it (by simp)
    exact wpAny_pyNext_range_end (I.ok.hd hc) st (by have : n ≤ i := hg; omega) fun h' eb => ⟨rfl, I.turned (t' := s.toks) (fun b o hb e => eb b o hb e) f0 f1 f3 f4 f5⟩
  self := fun _ _ _ _ _ st h => wpAny_pyIter_rangeiter st h
end L2

namespace L2
open PySem PySem.Spec PyProof.Rows
section
variable {X : Cx} {tg : Expr}
def iList (K : PySem.W.Frag) (tl : TE) : TI := fun σ H R => tl σ H fun x H1 => ∃ a, x = .ref a ∧ (∃ xs, SqL K H1 a xs) ∧ R (Itl K a) H1
theorem pi_list {l : Expr} {tl : TE} (hl : PE X l tl) : PI X tg l (iList X.K tl) := by
  intro pins s σ H R I h
  refine thn (hl pins s σ H _ I h) fun v s1 ⟨x, H1, I1, r1, q1⟩ => ?_
  obtain ⟨a, e, ⟨xs, hq⟩, q⟩ := q1
  subst e
  cases r1
  obtain ⟨its, rv, p, hz⟩ := I1.list hq
  refine wpAny_pyIter_list p.isList ?_
  refine ⟨s1.heap.objs.size, [s1.heap.objs.size], _, _, H1, rfl, I1.kept (t' := s1.toks) fun b o e => Heap.get?_push_of_some _ e, turn_list a _, ⟨_, Heap.get?_push_size _ rfl, rfl, rfl⟩, fun b hb => ?_, q⟩
  have e : b = s1.heap.objs.size := by simpa using hb
  subst e
  exact I1.fpOk (Nat.le_refl _) (I1.hok.fresh (Nat.le_refl _))
/-- a range object just made, walked -/
theorem range_it {pins : List (Addr × Obj)} {σ : St} {H : Hp} {s : Shared} {R : It → Hp → Prop} {E : Value → Shared → Prop} {lo hi : Int} {t u v : Tok} {tk : Nat} (I : Inv X pins σ H s) (h1 : -(2 ^ 62) ≤ lo) (h2 : lo < 2 ^ 62) (h3 : -(2 ^ 62) ≤ hi) (h4 : hi < 2 ^ 62)
    (q : R (Itr lo (hi - lo).toNat) H) : wpAny (model X.prog X.w) X.A (pyIter (.ref s.heap.objs.size)) (PIE X pins σ tg R) E { s with heap := s.heap.push { cls := .type "range", data := .fields #[.int lo t, .int hi u, .int 1 v] }, toks := tk } := by
  refine wpAny_pyIter_range (IsRange.new ..) (small_one h1 h2 h3 h4) ?_
  have I1 : Inv X pins σ H { s with heap := s.heap.push { cls := .type "range", data := .fields #[.int lo t, .int hi u, .int 1 v] }, toks := tk } := I.kept fun b o e => Heap.get?_push_of_some _ e
  refine ⟨(s.heap.push { cls := .type "range", data := .fields #[.int lo t, .int hi u, .int 1 v] }).objs.size, [(s.heap.push { cls := .type "range", data := .fields #[.int lo t, .int hi u, .int 1 v] }).objs.size], _, _, H, rfl,
    I1.kept (t' := tk) fun b o e => Heap.get?_push_of_some _ e, turn_range _ lo (hi - lo).toNat, ?_, fun b hb => ?_, q⟩
  · have e1 : lo + ((0 : Nat) : Int) * 1 = lo := by simp
    have e2 : (((hi - lo).toNat : Nat) : Int) - ((0 : Nat) : Int) = Builtin.Range.rangeSize lo hi 1 := by rw [rangeSize_one]; split <;> omega
    show IsRangeIter _ _ (lo + ((0 : Nat) : Int) * 1) ((((hi - lo).toNat : Nat) : Int) - ((0 : Nat) : Int)) 1
    rw [e1, e2]
    exact Heap.get?_push_size _ rfl
  · have e : b = (s.heap.push { cls := .type "range", data := .fields #[.int lo t, .int hi u, .int 1 v] }).objs.size := by simpa using hb
    subst e
    exact I1.fpOk (Nat.le_refl _) (I1.hok.fresh (Nat.le_refl _))
def iRng1 (ta : TA) : TI := fun σ H R => ta σ H fun vs H1 => ∃ j : Int, vs = [.int j] ∧ -(2 ^ 62) ≤ j ∧ j < 2 ^ 62 ∧ R (Itr 0 j.toNat) H1
def iRng2 (ta : TA) : TI := fun σ H R => ta σ H fun vs H1 => ∃ i j : Int, vs = [.int i, .int j] ∧ (-(2 ^ 62) ≤ i ∧ i < 2 ^ 62 ∧ -(2 ^ 62) ≤ j ∧ j < 2 ^ 62) ∧ R (Itr i (j - i).toNat) H1
theorem pi_range1 {a : Expr} {ta : TA} {p pos : Pos} (hg : Gl X "range") (hm : X.mg "range" = none) (ha : PA X [a] ta) (hs : starEach [a] X.env = [(false, eval a X.env)] := by rfl) : PI X tg (.Call (.Name "range" p) [a] [] pos) (iRng1 ta) := by
  intro pins s σ H R I h
  refine Call_ (ld_blt I hg hm boot_range (PyProof.Rows.callWith_type1 (thn (ha pos pins s σ H _ I h) fun us s1 ⟨vs, H1, I1, r1, q1⟩ => ?_) hs rfl))
  obtain ⟨j, e, q1, q2, q⟩ := q1
  subst e
  cases r1 with
  | cons r rr =>
    cases rr
    obtain ⟨t, rfl⟩ := r
    exact call_range_1 (range_it I1 (by omega) (by omega) q1 q2 (by simpa using q))
theorem pi_range2 {a b : Expr} {ta : TA} {p pos : Pos} (hg : Gl X "range") (hm : X.mg "range" = none) (ha : PA X [a, b] ta) (hs : starEach [a, b] X.env = [(false, eval a X.env), (false, eval b X.env)] := by rfl) (hs2 : starEach [b] X.env = [(false, eval b X.env)] := by rfl) :
    PI X tg (.Call (.Name "range" p) [a, b] [] pos) (iRng2 ta) := by
  intro pins s σ H R I h
  refine Call_ (ld_blt I hg hm boot_range (PyProof.Rows.callWith_type1 (thn (ha pos pins s σ H _ I h) fun us s1 ⟨vs, H1, I1, r1, q1⟩ => ?_) (by rw [hs, hs2]) (by rw [hs2]; rfl)))
  obtain ⟨i, j, e, ⟨q1, q2, q3, q4⟩, q⟩ := q1
  subst e
  cases r1 with
  | cons r rr =>
    cases rr with
    | cons r' rr =>
      cases rr
      obtain ⟨t, rfl⟩ := r
      obtain ⟨t', rfl⟩ := r'
      exact call_range_2 (range_it I1 q1 q2 q3 q4 q)

/-- W: the invariant by the turn and a measure; N: what the body is to reach -/
def tFor (wi : TI) (g : TG) (tb : TS) : TS := fun D σ H => wi σ H fun J H1 => ∃ W : Nat → Nat → St → Hp → Prop, (∃ m, W 0 m σ H1) ∧ ∀ i m σ H, W i m σ H →
  (J.stop i H ∧ D.nx σ H) ∨ (J.go i H ∧ ∃ N : St → Hp → Prop, (∀ σ' H', N σ' H' → ∃ m', m' < m ∧ W (i + 1) m' σ' H') ∧ ∀ x H', J.yld i H x H' → g x σ H' fun σ2 H2 => tb { D with nx := N, ct := N, bk := D.nx } σ2 H2)
/-- the records at fp as they stand -/
def pinsAt (fp : List Addr) (h : Heap) : List (Addr × Obj) := fp.filterMap fun b => (h.get? b).map fun o => (b, o)
theorem mem_pinsAt {fp : List Addr} {h : Heap} {b : Addr} {o : Obj} (hb : b ∈ fp) (e : h.get? b = some o) : (b, o) ∈ pinsAt fp h := List.mem_filterMap.mpr ⟨b, hb, by rw [e]; rfl⟩
theorem of_pinsAt {fp : List Addr} {h : Heap} {p : Addr × Obj} (hp : p ∈ pinsAt fp h) : p.1 ∈ fp ∧ h.get? p.1 = some p.2 := by
  obtain ⟨b, hb, e⟩ := List.mem_filterMap.mp hp
  cases q : h.get? b with
  | none => rw [q] at e; cases e
  | some o =>
    rw [q] at e
    have e' : (b, o) = p := Option.some.inj e
    subst e'
    exact ⟨hb, q⟩
theorem Inv.pinned {pins : List (Addr × Obj)} {σ : St} {H : Hp} {s : Shared} {fp : List Addr} (I : Inv X pins σ H s) (hf : ∀ b ∈ fp, FpOk X pins H b) (ho : ∀ b ∈ fp, ∃ o, s.heap.get? b = some o ∧ ∀ v, o.data ≠ .cell v) : Inv X (pins ++ pinsAt fp s.heap) σ H s :=
  I.pins_of fun p hp => (List.mem_append.mp hp).elim (fun z => I.pin p (List.mem_append_right _ z)) fun z => by
    obtain ⟨hb, e⟩ := of_pinsAt z
    obtain ⟨f0, f1, f2, _⟩ := hf p.1 hb
    obtain ⟨o, e', d⟩ := ho p.1 hb
    rw [e] at e'; cases e'
    exact ⟨e, f0, f1, f2, d⟩
theorem Inv.unpinned {pins pl : List (Addr × Obj)} {σ : St} {H : Hp} {s : Shared} (I : Inv X (pins ++ pl) σ H s) : Inv X pins σ H s := I.pins_of fun p hp => I.pin p (List.mem_append_right _ (List.mem_append_left _ hp))
theorem ps_for {iter : Expr} {body : List Stmt} {wi : TI} {g : TG} {tb : TS} {pos : Pos} (hp : PassesOwn (model X.prog X.w) X.A X.env X.xe) (hc : X.calm = true) (hi : PI X tg iter wi) (hg : PG X tg g) (hb : PSs X body tb)
    (hs : ∀ x, foldedSetIterable iter X.env x = pure x := by intro _; rfl) : PS X (.For tg iter body [] pos) (tFor wi g tb) := by
  intro pins s σ H D I h
  refine wpAny_For (thn (hi pins s σ H _ I h) fun v s1 h1 => thn h1 fun itv s2 h2 => ?_) hs
  obtain ⟨it, fp, tn, J, H2, e, I2, T, st2, f2, W, ⟨m0, w0⟩, turn⟩ := h2
  subst e
  -- what stays true of the iterator's objects through the loop
  have stat : ∀ {H' : Hp}, (∀ b ∈ fp, H' b = none) → ∀ b ∈ fp, FpOk X pins H' b := fun hn b hb => ⟨hn b hb, (f2 b hb).2⟩
  refine codeAny_forLoop_any (fun n s' => ∃ i σ' H', Inv X pins σ' H' s' ∧ tn i s'.heap ∧ (∀ b ∈ fp, H' b = none) ∧ W i n σ' H') ?_ m0 ⟨0, σ, H2, I2, st2, fun b hb => (f2 b hb).1, w0⟩
  rintro n s3 ⟨i, σ3, H3, I3, st3, fr3, w3⟩
  rcases turn i n σ3 H3 w3 with ⟨stop, qn⟩ | ⟨go, N, hN, step⟩
  · refine wpAny_passesOwn hp (thn (T.done X rfl rfl rfl hc i pins s3 σ3 H3 X.xe I3 (stat fr3) st3 stop) fun r s4 ⟨hr, I4⟩ => ?_)
    subst hr
    exact wpAny_execs_nil ⟨σ3, H3, I4, qn⟩
  · refine wpAny_passesOwn hp (thn (T.item X rfl rfl rfl hc i pins s3 σ3 H3 X.xe I3 (stat fr3) st3 go) fun r s4 ⟨u, hr, h4⟩ => ?_)
    subst hr
    refine wpAny_passesOwn hp (thn h4 fun _ s5 ⟨x, H5, I5, r5, y5, st5, fr5⟩ => ?_)
    have I5' := I5.pinned (stat fr5) (T.obj _ _ st5)
    refine wpAny_passesOwn hp (thn (hg _ s5 σ3 H5 x u _ I5' r5 (step x H5 y5)) fun _ s6 ⟨σ6, H6, I6, q6⟩ => ?_)
    refine wpAny_passesOwn hp (thn (hb _ s6 σ6 H6 _ I6 q6) fun f s7 q7 => ?_)
    have again : ∀ {σ7 : St} {H7 : Hp}, Inv X (pins ++ pinsAt fp s5.heap) σ7 H7 s7 → N σ7 H7 → ∃ m, m < n ∧ ∃ i σ' H', Inv X pins σ' H' s7 ∧ tn i s7.heap ∧ (∀ b ∈ fp, H' b = none) ∧ W i m σ' H' := fun {σ7 H7} I7 n7 => by
      obtain ⟨m', hm, w7⟩ := hN σ7 H7 n7
      refine ⟨m', hm, i + 1, σ7, H7, I7.unpinned, T.keep _ _ _ st5 fun b hb o e => (I7.pin (b, o) (List.mem_append_right _ (List.mem_append_right _ (mem_pinsAt hb e)))).1, fun b hb => ?_, w7⟩
      obtain ⟨o, e, d⟩ := T.obj _ _ st5 b hb
      exact (I7.pin (b, o) (List.mem_append_right _ (List.mem_append_right _ (mem_pinsAt hb e)))).2.1
    cases f with
    | next => obtain ⟨σ7, H7, I7, n7⟩ := q7; exact again I7 n7
    | cont => obtain ⟨σ7, H7, I7, n7⟩ := q7; exact again I7 n7
    | brk => obtain ⟨σ7, H7, I7, q7⟩ := q7; exact ⟨σ7, H7, I7.unpinned, q7⟩
    | ret v => obtain ⟨x7, σ7, H7, I7, r7, q7⟩ := q7; exact ⟨x7, σ7, H7, I7.unpinned, r7, q7⟩
end

/-- over a list that the body leaves as it is -/
theorem for_list {K : PySem.W.Frag} {a : Addr} {xs : List V} {g : TG} {tb : TS} {D : Ends} {σ : St} {H : Hp} (Pv : Nat → St → Hp → Prop) (h0 : Pv 0 σ H) (hl : ∀ i σ H, i ≤ xs.length → Pv i σ H → SqL K H a xs)
    (hs : ∀ i x σ H, xs[i]? = some x → Pv i σ H → g x σ H fun σ2 H2 => tb { D with nx := Pv (i + 1), ct := Pv (i + 1), bk := D.nx } σ2 H2) (hd : ∀ σ H, Pv xs.length σ H → D.nx σ H) :
    ∃ W : Nat → Nat → St → Hp → Prop, (∃ m, W 0 m σ H) ∧ ∀ i m σ H, W i m σ H →
      ((Itl K a).stop i H ∧ D.nx σ H) ∨ ((Itl K a).go i H ∧ ∃ N : St → Hp → Prop, (∀ σ' H', N σ' H' → ∃ m', m' < m ∧ W (i + 1) m' σ' H') ∧ ∀ x H', (Itl K a).yld i H x H' → g x σ H' fun σ2 H2 => tb { D with nx := N, ct := N, bk := D.nx } σ2 H2) := by
  refine ⟨fun i m σ H => m = xs.length - i ∧ i ≤ xs.length ∧ Pv i σ H, ⟨xs.length, by simp, Nat.zero_le _, h0⟩, ?_⟩
  rintro i m σ H ⟨rfl, hi, p⟩
  have q := hl i σ H hi p
  by_cases hlt : i < xs.length
  · refine .inr ⟨⟨xs, xs[i], q, by simp [hlt]⟩, Pv (i + 1), fun σ' H' p' => ⟨xs.length - (i + 1), by omega, rfl, hlt, p'⟩, fun x H' y => ?_⟩
    obtain ⟨e, y⟩ := y
    subst e
    exact hs i x σ _ (y xs q) p
  · have e : i = xs.length := by omega
    subst e
    exact .inl ⟨⟨xs, q, Nat.le_refl _⟩, hd σ H p⟩
theorem for_range {lo : Int} {n : Nat} {g : TG} {tb : TS} {D : Ends} {σ : St} {H : Hp} (Pv : Nat → St → Hp → Prop) (h0 : Pv 0 σ H)
    (hs : ∀ i σ H, i < n → Pv i σ H → g (.int (lo + i)) σ H fun σ2 H2 => tb { D with nx := Pv (i + 1), ct := Pv (i + 1), bk := D.nx } σ2 H2) (hd : ∀ σ H, Pv n σ H → D.nx σ H) :
    ∃ W : Nat → Nat → St → Hp → Prop, (∃ m, W 0 m σ H) ∧ ∀ i m σ H, W i m σ H →
      ((Itr lo n).stop i H ∧ D.nx σ H) ∨ ((Itr lo n).go i H ∧ ∃ N : St → Hp → Prop, (∀ σ' H', N σ' H' → ∃ m', m' < m ∧ W (i + 1) m' σ' H') ∧ ∀ x H', (Itr lo n).yld i H x H' → g x σ H' fun σ2 H2 => tb { D with nx := N, ct := N, bk := D.nx } σ2 H2) := by
  refine ⟨fun i m σ H => m = n - i ∧ i ≤ n ∧ Pv i σ H, ⟨n, by simp, Nat.zero_le _, h0⟩, ?_⟩
  rintro i m σ H ⟨rfl, hi, p⟩
  by_cases hlt : i < n
  · refine .inr ⟨hlt, Pv (i + 1), fun σ' H' p' => ⟨n - (i + 1), by omega, rfl, hlt, p'⟩, fun x H' y => ?_⟩
    obtain ⟨e, y⟩ := y
    subst e y
    exact hs i σ _ hlt p
  · have e : i = n := by omega
    subst e
    exact .inl ⟨Nat.le_refl _, hd σ H p⟩
end L2

namespace L2
open PySem PySem.Spec PyProof.Rows

abbrev R2 := V → V → Hp → VK → Prop
/-- a two-place operation on values: f is binaryOp op, inplaceOp op or compareOp op -/
def OpR (X : Cx) (f : Value → Value → Sem Value) (r : R2) : Prop :=
  ∀ (pins : List (Addr × Obj)) (s : Shared) (σ : St) (H : Hp) (x y : V) (v u : Value) (Q : VK), Inv X pins σ H s → RelV x v → RelV y u → r x y H Q →
    wpAny (model X.prog X.w) X.A (f v u) (EP X pins σ Q) X.xe s
/-- a one-place operation -/
def UnR (X : Cx) (f : Value → Sem Value) (r : V → Hp → VK → Prop) : Prop :=
  ∀ (pins : List (Addr × Obj)) (s : Shared) (σ : St) (H : Hp) (x : V) (v : Value) (Q : VK), Inv X pins σ H s → RelV x v → r x H Q →
    wpAny (model X.prog X.w) X.A (f v) (EP X pins σ Q) X.xe s
/-- a call of a value that is known (a builtin, a type) with values -/
def CallR (X : Cx) (f : Value) (r : List V → Hp → VK → Prop) : Prop :=
  ∀ (pins : List (Addr × Obj)) (s : Shared) (σ : St) (H : Hp) (xs : List V) (us : List Value) (Q : VK), Inv X pins σ H s → Vals xs us → r xs H Q →
    wpAny (model X.prog X.w) X.A (call f us) (EP X pins σ Q) X.xe s
def tOp (r : R2) (ta tb : TE) : TE := fun σ H Q => ta σ H fun x H1 => tb σ H1 fun y H2 => r x y H2 Q
def tUn (r : V → Hp → VK → Prop) (ta : TE) : TE := fun σ H Q => ta σ H fun x H1 => r x H1 Q
/-- ints in, under C, and a value out -/
def rI (C : Int → Int → Prop) (g : Int → Int → V) : R2 := fun x y H Q => ∃ i j, x = .int i ∧ y = .int j ∧ C i j ∧ Q (g i j) H
def rI0 (g : Int → Int → V) : R2 := fun x y H Q => ∃ i j, x = .int i ∧ y = .int j ∧ Q (g i j) H
def rU (g : Int → V) : V → Hp → VK → Prop := fun x H Q => ∃ i, x = .int i ∧ Q (g i) H

section
variable {X : Cx} {a b c : Expr} {ta tb tc : TE} {pos : Pos}

theorem binT (ha : PE X a ta) (hb : PE X b tb) {pins : List (Addr × Obj)} {s : Shared} {σ : St} {H : Hp} {R : V → V → Hp → Prop} (I : Inv X pins σ H s)
    (h : ta σ H fun x H1 => tb σ H1 fun y H2 => R x y H2) {Q : Value → Shared → Prop} {f : Value → Value → Sem Value}
    (hf : ∀ v u s2 x y H2, Inv X pins σ H2 s2 → RelV x v → RelV y u → R x y H2 → wpAny (model X.prog X.w) X.A (f v u) Q X.xe s2) :
    wpAny (model X.prog X.w) X.A (eval a X.env) (fun v s₁ => wpAny (model X.prog X.w) X.A (eval b X.env) (fun u s₂ => wpAny (model X.prog X.w) X.A (f v u) Q X.xe s₂) X.xe s₁) X.xe s := by
  refine thn (ha pins s σ H _ I h) fun v s1 ⟨x, H1, I1, r1, q1⟩ => ?_
  refine thn (hb pins s1 σ H1 _ I1 q1) fun u s2 ⟨y, H2, I2, r2, q2⟩ => ?_
  exact hf v u s2 x y H2 I2 r1 r2 q2

theorem pe_op {op : Operator} {r : R2} (ho : OpR X (binaryOp op) r) (ha : PE X a ta) (hb : PE X b tb) : PE X (.BinOp a op b pos) (tOp r ta tb) := by
  intro pins s σ H Q I h
  exact wpAny_BinOp (binT ha hb I h fun v u s2 x y H2 I2 rx ry q => ho pins s2 σ H2 x y v u Q I2 rx ry q)
theorem pe_un {op : UnaryOp} {r : V → Hp → VK → Prop} (ho : UnR X (unaryOp op) r) (ha : PE X a ta) : PE X (.UnaryOp op a pos) (tUn r ta) := by
  intro pins s σ H Q I h
  exact UnaryOp_ (thn (ha pins s σ H _ I h) fun v s1 ⟨x, H1, I1, r1, q1⟩ => ho pins s1 σ H1 x v Q I1 r1 q1)
theorem opI {f : Value → Value → Sem Value} {C : Int → Int → Prop} {g : Int → Int → Int}
    (rule : ∀ (i j : Int) (t u : Tok) (s : Shared) (Q : Value → Shared → Prop) (E : Value → Shared → Prop), C i j → Q (.int (g i j) s.toks) { s with toks := s.toks + 1 } → wpAny (model X.prog X.w) X.A (f (.int i t) (.int j u)) Q E s) :
    OpR X f (rI C fun i j => .int (g i j)) := by
  intro pins s σ H x y v u Q I rx ry h
  obtain ⟨i, j, rfl, rfl, hc, q⟩ := h
  obtain ⟨t, rfl⟩ := rx
  obtain ⟨t', rfl⟩ := ry
  exact rule i j t t' s _ _ hc ⟨.int (g i j), H, I.tok _, ⟨_, rfl⟩, q⟩
theorem opI0 {f : Value → Value → Sem Value} {g : Int → Int → Int}
    (rule : ∀ (i j : Int) (t u : Tok) (s : Shared) (Q : Value → Shared → Prop) (E : Value → Shared → Prop), Q (.int (g i j) s.toks) { s with toks := s.toks + 1 } → wpAny (model X.prog X.w) X.A (f (.int i t) (.int j u)) Q E s) :
    OpR X f (rI0 fun i j => .int (g i j)) := by
  intro pins s σ H x y v u Q I rx ry h
  obtain ⟨i, j, rfl, rfl, q⟩ := h
  obtain ⟨t, rfl⟩ := rx
  obtain ⟨t', rfl⟩ := ry
  exact rule i j t t' s _ _ ⟨.int (g i j), H, I.tok _, ⟨_, rfl⟩, q⟩
theorem opB0 {f : Value → Value → Sem Value} {g : Int → Int → Bool}
    (rule : ∀ (i j : Int) (t u : Tok) (s : Shared) (Q : Value → Shared → Prop) (E : Value → Shared → Prop), Q (.bool (g i j)) s → wpAny (model X.prog X.w) X.A (f (.int i t) (.int j u)) Q E s) :
    OpR X f (rI0 fun i j => .bl (g i j)) := by
  intro pins s σ H x y v u Q I rx ry h
  obtain ⟨i, j, rfl, rfl, q⟩ := h
  obtain ⟨t, rfl⟩ := rx
  obtain ⟨t', rfl⟩ := ry
  exact rule i j t t' s _ _ ⟨.bl (g i j), H, I, rfl, q⟩

def CDiv (i j : Int) : Prop := 0 < j ∧ j < 1073741824
def CMul (i j : Int) : Prop := (-(2 ^ 64) < i ∧ i < 2 ^ 64) ∨ (-(2 ^ 64) < j ∧ j < 2 ^ 64)
theorem CMul.ok {i j : Int} (h : CMul i j) : IntMulOk i j := by
  rcases h with ⟨h1, h2⟩ | ⟨h1, h2⟩
  · exact .of_left (intBits_le_64 h1 h2)
  · exact .of_right (intBits_le_64 h1 h2)
theorem op_add : OpR X (binaryOp .Add) (rI0 fun i j => .int (i + j)) := opI0 fun _ _ _ _ _ _ _ q => add_int q
theorem op_sub : OpR X (binaryOp .Sub) (rI0 fun i j => .int (i - j)) := opI0 fun _ _ _ _ _ _ _ q => sub_int q
theorem op_mul : OpR X (binaryOp .Mult) (rI CMul fun i j => .int (i * j)) := opI fun _ _ _ _ _ _ _ hc q => mul_int q hc.ok
/-- // by a positive divisor -/
theorem op_fdiv : OpR X (binaryOp .FloorDiv) (rI CDiv fun i j => .int (i / j)) := opI fun i j _ _ _ _ _ hc q => by
  have h1 : (0 : Int) < j := hc.1
  have h2 : j < 1073741824 := hc.2
  exact floordiv_int (by omega) (by rw [Int.fdiv_eq_ediv_of_nonneg i (by omega)]; exact q) (.inl (PyProof.noPylong_small (by omega)))
/-- % by a positive divisor of any size -/
theorem op_mod : OpR X (binaryOp .Mod) (rI (fun _ j => 0 < j) fun i j => .int (i % j)) := opI fun i j _ _ _ _ _ hc q => by
  have h1 : (0 : Int) < j := hc
  exact mod_int' (by omega) (by rw [Int.fmod_eq_emod_of_nonneg i (by omega)]; exact q)
theorem unI {f : Value → Sem Value} {g : Int → Int}
    (rule : ∀ (i : Int) (t : Tok) (s : Shared) (Q : Value → Shared → Prop) (E : Value → Shared → Prop), Q (.int (g i) s.toks) { s with toks := s.toks + 1 } → wpAny (model X.prog X.w) X.A (f (.int i t)) Q E s) :
    UnR X f (rU fun i => .int (g i)) := by
  intro pins s σ H x v Q I rx h
  obtain ⟨i, rfl, q⟩ := h
  obtain ⟨t, rfl⟩ := rx
  exact rule i t s _ _ ⟨.int (g i), H, I.tok _, ⟨_, rfl⟩, q⟩
theorem un_neg : UnR X (unaryOp .USub) (rU fun i => .int (-i)) := unI fun _ _ _ _ _ q => neg_int q
end

/-- the scalars that == tells apart as data does -/
def scal : V → V → Bool
  | .non, .non => true | .non, .int _ => true | .int _, .non => true | .non, .bl _ => true | .bl _, .non => true | .non, .str _ => true | .str _, .non => true
  | .int _, .int _ => true | .bl _, .bl _ => true | .str _, .str _ => true | .byt _, .byt _ => true
  | .int _, .str _ => true | .str _, .int _ => true | .bl _, .str _ => true | .str _, .bl _ => true
  | _, _ => false
def rEq : R2 := fun x y H Q => scal x y = true ∧ Q (.bl (decide (x = y))) H
def rNe : R2 := fun x y H Q => scal x y = true ∧ Q (.bl (!decide (x = y))) H

theorem dec_int {i j : Int} : decide (V.int i = V.int j) = (i == j) := by
  rw [Bool.eq_iff_iff]
  simp
theorem dec_bl {i j : Bool} : decide (V.bl i = V.bl j) = (i == j) := by
  rw [Bool.eq_iff_iff]
  simp
theorem dec_str {i j : Str} : decide (V.str i = V.str j) = (i == j) := by
  rw [Bool.eq_iff_iff]
  simp
theorem dec_byt {i j : Array UInt8} : decide (V.byt i = V.byt j) = (i.toList == j.toList) := by
  rw [Bool.eq_iff_iff]
  cases i
  cases j
  simp

section
variable {X : Cx} {a b c : Expr} {ta tb tc : TE} {pos : Pos}
theorem fin_bl {pins : List (Addr × Obj)} {σ : St} {H : Hp} {s : Shared} {Q : VK} {k k' : Bool} (I : Inv X pins σ H s) (q : Q (.bl k) H) (e : k = k') : EP X pins σ Q (.bool k') s := by
  subst e
  exact ⟨.bl k, H, I, rfl, q⟩
theorem op_eq : OpR X (compareOp .Eq) rEq := by
  intro pins s σ H x y v u Q I rx ry h
  obtain ⟨hs, q⟩ := h
  cases x with
  | non =>
    cases rx
    cases y with
    | non => cases ry; exact PySem.EqNone.eq_none_none (fin_bl I q (by simp))
    | bl j => cases ry; exact PySem.EqNone.eq_none_bool (fin_bl I q (by simp))
    | int j => obtain ⟨t', rfl⟩ := ry; exact PySem.EqNone.eq_none_int (fin_bl I q (by simp))
    | str j => obtain ⟨t', rfl⟩ := ry; exact PySem.EqNone.eq_none_str (fin_bl I q (by simp))
    | _ => exact absurd (show false = true from hs) Bool.false_ne_true
  | bl i =>
    cases rx
    cases y with
    | non => cases ry; exact PySem.EqNone.eq_bool_none (fin_bl I q (by simp))
    | bl j => cases ry; exact eq_bool (fin_bl I q dec_bl)
    | str j => obtain ⟨t', rfl⟩ := ry; exact PySem.EqMixed.eq_bool_str (fin_bl I q (by simp))
    | _ => exact absurd (show false = true from hs) Bool.false_ne_true
  | int i =>
    obtain ⟨t, rfl⟩ := rx
    cases y with
    | non => cases ry; exact PySem.EqNone.eq_int_none (fin_bl I q (by simp))
    | int j => obtain ⟨t', rfl⟩ := ry; exact eq_int (fin_bl I q dec_int)
    | str j => obtain ⟨t', rfl⟩ := ry; exact PySem.EqMixed.eq_int_str (fin_bl I q (by simp))
    | _ => exact absurd (show false = true from hs) Bool.false_ne_true
  | str i =>
    obtain ⟨t, rfl⟩ := rx
    cases y with
    | non => cases ry; exact PySem.EqNone.eq_str_none (fin_bl I q (by simp))
    | bl j => cases ry; exact PySem.EqMixed.eq_str_bool (fin_bl I q (by simp))
    | int j => obtain ⟨t', rfl⟩ := ry; exact PySem.EqMixed.eq_str_int (fin_bl I q (by simp))
    | str j => obtain ⟨t', rfl⟩ := ry; exact eq_str (fin_bl I q dec_str)
    | _ => exact absurd (show false = true from hs) Bool.false_ne_true
  | byt i =>
    obtain ⟨t, rfl⟩ := rx
    cases y with
    | byt j => obtain ⟨t', rfl⟩ := ry; exact PySem.W.eq_bytes (fin_bl I q dec_byt)
    | _ => exact absurd (show false = true from hs) Bool.false_ne_true
  | _ => cases y <;> exact absurd (show false = true from hs) Bool.false_ne_true
theorem op_ne : OpR X (compareOp .NotEq) rNe := by
  intro pins s σ H x y v u Q I rx ry h
  obtain ⟨hs, q⟩ := h
  cases x with
  | non =>
    cases rx
    cases y with
    | non => cases ry; exact PySem.EqNone.ne_none_none (fin_bl I q (by simp))
    | bl j => cases ry; exact PySem.EqNone.ne_none_bool (fin_bl I q (by simp))
    | int j => obtain ⟨t', rfl⟩ := ry; exact PySem.EqNone.ne_none_int (fin_bl I q (by simp))
    | str j => obtain ⟨t', rfl⟩ := ry; exact PySem.EqNone.ne_none_str (fin_bl I q (by simp))
    | _ => exact absurd (show false = true from hs) Bool.false_ne_true
  | bl i =>
    cases rx
    cases y with
    | non => cases ry; exact PySem.EqNone.ne_bool_none (fin_bl I q (by simp))
    | bl j => cases ry; exact ne_bool (fin_bl I q (congrArg not dec_bl))
    | str j => obtain ⟨t', rfl⟩ := ry; exact PySem.EqMixed.ne_bool_str (fin_bl I q (by simp))
    | _ => exact absurd (show false = true from hs) Bool.false_ne_true
  | int i =>
    obtain ⟨t, rfl⟩ := rx
    cases y with
    | non => cases ry; exact PySem.EqNone.ne_int_none (fin_bl I q (by simp))
    | int j => obtain ⟨t', rfl⟩ := ry; exact ne_int (fin_bl I q (congrArg not dec_int))
    | str j => obtain ⟨t', rfl⟩ := ry; exact PySem.EqMixed.ne_int_str (fin_bl I q (by simp))
    | _ => exact absurd (show false = true from hs) Bool.false_ne_true
  | str i =>
    obtain ⟨t, rfl⟩ := rx
    cases y with
    | non => cases ry; exact PySem.EqNone.ne_str_none (fin_bl I q (by simp))
    | bl j => cases ry; exact PySem.EqMixed.ne_str_bool (fin_bl I q (by simp))
    | int j => obtain ⟨t', rfl⟩ := ry; exact PySem.EqMixed.ne_str_int (fin_bl I q (by simp))
    | str j => obtain ⟨t', rfl⟩ := ry; exact ne_str (fin_bl I q (congrArg not dec_str))
    | _ => exact absurd (show false = true from hs) Bool.false_ne_true
  | byt i =>
    obtain ⟨t, rfl⟩ := rx
    cases y with
    | byt j => obtain ⟨t', rfl⟩ := ry; exact PySem.W.ne_bytes (fin_bl I q (congrArg not dec_byt))
    | _ => exact absurd (show false = true from hs) Bool.false_ne_true
  | _ => cases y <;> exact absurd (show false = true from hs) Bool.false_ne_true

theorem op_lt : OpR X (compareOp .Lt) (rI0 fun i j => .bl (decide (i < j))) := opB0 fun _ _ _ _ _ _ _ q => lt_int q
theorem op_le : OpR X (compareOp .LtE) (rI0 fun i j => .bl (decide (i ≤ j))) := opB0 fun _ _ _ _ _ _ _ q => le_int q
theorem op_gt : OpR X (compareOp .Gt) (rI0 fun i j => .bl (decide (j < i))) := opB0 fun _ _ _ _ _ _ _ q => gt_int q
theorem op_ge : OpR X (compareOp .GtE) (rI0 fun i j => .bl (decide (j ≤ i))) := opB0 fun _ _ _ _ _ _ _ q => ge_int q
/-- is None, is not None: the right side a value none -/
theorem op_isN : OpR X (compareOp .Is) (fun x y H Q => y = .non ∧ Q (.bl (decide (x = .non))) H) := by
  intro pins s σ H x y v u Q I rx ry h
  obtain ⟨rfl, q⟩ := h
  cases ry
  refine is_none_gen (fin_bl I q ?_)
  cases x <;> first
    | (cases rx; rfl)
    | (obtain ⟨t, rfl⟩ := rx; rfl)
theorem nomark (b : Expr) {op : CmpOp} (h : op ≠ .In := by decide) (h2 : op ≠ .NotIn := by decide) : behindInMarks op b = false := by
  have e1 : (op == CmpOp.In) = false := by cases op <;> first | rfl | exact absurd rfl h
  have e2 : (op == CmpOp.NotIn) = false := by cases op <;> first | rfl | exact absurd rfl h2
  cases b <;> simp [behindInMarks, e1, e2]
/-- a comparison as a value; hm: nomark b, or (for in, not in) by with_unfolding_all rfl -/
theorem pe_cmpR {op : CmpOp} {r : R2} (ho : OpR X (compareOp op) r) (ha : PE X a ta) (hb : PE X b tb) (hm : behindInMarks op b = false) : PE X (.Compare a [op] [b] pos) (tOp r ta tb) := by
  intro pins s σ H Q I h
  exact wpAny_Compare1 (binT ha hb I h fun v u s2 x y H2 I2 rx ry q => ho pins s2 σ H2 x y v u Q I2 rx ry q) hm
/-- a reading of a value as a test -/
def tTest (t : TE) : TT := fun σ H Q => t σ H fun x H' => ∃ k, x = .bl k ∧ Q k H'
theorem pt_cmpR {op : CmpOp} {r : R2} (ho : OpR X (compareOp op) r) (ha : PE X a ta) (hb : PE X b tb) (hm : behindInMarks op b = false) : PT X (.Compare a [op] [b] pos) (tTest (tOp r ta tb)) := by
  intro pins s σ H Q I h
  refine wpAny_isTrue_Compare1 (thn (ha pins s σ H _ I h) fun v s1 ⟨x, H1, I1, r1, q1⟩ => thn (hb pins s1 σ H1 _ I1 q1) fun u s2 ⟨y, H2, I2, r2, q2⟩ =>
    thn (ho pins s2 σ H2 x y v u _ I2 r1 r2 q2) fun c s3 ⟨z, H3, I3, r3, k, e, q3⟩ => ?_) hm
  subst e
  cases r3
  exact wpAny_truthy_bool ⟨H3, I3, q3⟩
/-- a op1 b op2 c -/
def tChain (r r' : R2) (ta tb tc : TE) : TE := fun σ H Q => ta σ H fun x H1 => tb σ H1 fun y H2 => r x y H2 fun z H3 => ∃ k, z = .bl k ∧
  (if k = true then tc σ H3 fun w' H4 => r' y w' H4 Q else Q (.bl false) H3)
theorem pe_chain {op op' : CmpOp} {r r' : R2} (ho : OpR X (compareOp op) r) (ho' : OpR X (compareOp op') r') (ha : PE X a ta) (hb : PE X b tb) (hc : PE X c tc)
    (hm : lastMarks [op, op'] [b, c] = false := by with_unfolding_all rfl) : PE X (.Compare a [op, op'] [b, c] pos) (tChain r r' ta tb tc) := by
  intro pins s σ H Q I h
  refine Compare_chain (thn (ha pins s σ H _ I h) fun v s1 ⟨x, H1, I1, r1, q1⟩ => chain_link (thn (hb pins s1 σ H1 _ I1 q1) fun u s2 ⟨y, H2, I2, r2, q2⟩ =>
    thn (ho pins s2 σ H2 x y v u _ I2 r1 r2 q2) fun d s3 ⟨z, H3, I3, r3, k, e, q3⟩ => ?_)) hm
  subst e
  cases r3
  refine wpAny_truthy_bool ?_
  cases k with
  | false => exact ite_ff ⟨.bl false, H3, I3, rfl, q3⟩
  | true => exact ite_tt (chain_last (thn (hc pins s3 σ H3 _ I3 q3) fun w' s4 ⟨z', H4, I4, r4, q4⟩ => ho' pins s4 σ H4 y z' u w' Q I4 r2 r4 q4))
theorem pt_chain {op op' : CmpOp} {r r' : R2} (ho : OpR X (compareOp op) r) (ho' : OpR X (compareOp op') r') (ha : PE X a ta) (hb : PE X b tb) (hc : PE X c tc)
    (hm : lastMarks [op, op'] [b, c] = false := by with_unfolding_all rfl) : PT X (.Compare a [op, op'] [b, c] pos) (tTest (tChain r r' ta tb tc)) := by
  intro pins s σ H Q I h
  refine isTrue_chain (thn (ha pins s σ H _ I h) fun v s1 ⟨x, H1, I1, r1, q1⟩ => test_link (thn (hb pins s1 σ H1 _ I1 q1) fun u s2 ⟨y, H2, I2, r2, q2⟩ =>
    thn (ho pins s2 σ H2 x y v u _ I2 r1 r2 q2) fun d s3 ⟨z, H3, I3, r3, k, e, q3⟩ => ?_)) hm
  subst e
  cases r3
  refine wpAny_truthy_bool ?_
  cases k with
  | false =>
    obtain ⟨k', e', q'⟩ := q3
    cases e'
    exact ite_ff ⟨H3, I3, q'⟩
  | true =>
    refine ite_tt (test_last (thn (hc pins s3 σ H3 _ I3 q3) fun w' s4 ⟨z', H4, I4, r4, q4⟩ => thn (ho' pins s4 σ H4 y z' u w' _ I4 r2 r4 q4) fun d' s5 ⟨z2, H5, I5, r5, k2, e2, q5⟩ => ?_))
    subst e2
    cases r5
    exact wpAny_truthy_bool ⟨H5, I5, q5⟩

theorem line63 : (sizeLine : Nat) < 2 ^ 63 := by rw [sizeLine_eq]; decide
theorem vals1 {x : V} {us : List Value} (r : Vals [x] us) : ∃ u, us = [u] ∧ RelV x u := by
  cases r with
  | cons r1 r2 => cases r2; exact ⟨_, rfl, r1⟩
theorem vals2 {x y : V} {us : List Value} (r : Vals [x, y] us) : ∃ u w', us = [u, w'] ∧ RelV x u ∧ RelV y w' := by
  cases r with
  | cons r1 r2 =>
    cases r2 with
    | cons r3 r4 => cases r4; exact ⟨_, _, rfl, r1, r3⟩
theorem call_max2 (hc : X.calm = true) : CallR X (.builtin "max") (fun xs H Q => ∃ i j, xs = [.int i, .int j] ∧ Q (.int (if j > i then j else i)) H) := by
  intro pins s σ H xs us Q I r h
  obtain ⟨i, j, rfl, q⟩ := h
  obtain ⟨u, w', rfl, ⟨t, rfl⟩, ⟨t', rfl⟩⟩ := vals2 r
  refine max_two_ints (I.ok.hd hc) fun h' tk k => ⟨_, H, I.kept k, ?_, q⟩
  by_cases hj : j > i
  · rw [if_pos hj, if_pos hj]; exact ⟨_, rfl⟩
  · rw [if_neg hj, if_neg hj]; exact ⟨_, rfl⟩
end
end L2

namespace L2
open PySem PySem.Spec PyProof.Rows

structure ObjM (h : Heap) (x dx C : Addr) (mA : Str → Option Value) : Prop where
  obj : h.get? x = some (PySem.W.instObj C dx)
  ns : h.Ns1 dx mA
  ne : dx ≠ x

theorem lookIn_ns {h : Heap} {dx : Addr} {mA : Str → Option Value} (n : h.Ns1 dx mA) : ∃ od, h.get? dx = some od ∧ ∀ name, PySem.W.lookIn name od = some (mA name) := by
  obtain ⟨o, es, ep, ho, hd, hk, _, hm⟩ := n
  refine ⟨o, ho, fun name => ?_⟩
  have e := hm name
  unfold nsFind findBy at e
  rw [← Array.find?_toList] at e
  unfold PySem.W.lookIn
  rw [hd]
  dsimp only
  split
  · rename_i y q
    rw [q] at e
    exact congrArg some e
  · rename_i q
    rw [q] at e
    have a : es.toList.any (·.refKey) = false := by
      rw [List.any_eq_false]
      intro y hy
      obtain ⟨z, t, hkey⟩ := hk y (Array.mem_toList_iff.mp hy)
      simp [DictEntry.refKey, hkey]
    have a' : ¬ es.toList.any (·.refKey) = true := by rw [a]; exact Bool.false_ne_true
    rw [if_neg a']
    exact congrArg some e

theorem ObjM.look {h : Heap} {x dx C : Addr} {mA : Str → Option Value} (I : ObjM h x dx C mA) : ∃ od, PySem.W.InstAt h x (PySem.W.instObj C dx) C (some od) ∧ ∀ name, PySem.W.lookIn name od = some (mA name) :=
  let ⟨od, ho, hl⟩ := lookIn_ns I.ns
  ⟨od, ⟨I.obj, rfl, rfl, ho⟩, hl⟩

section
variable {prog : Program} {w : World} {A : Around} {E : Value → Shared → Prop} {s : Shared} {K : PySem.W.Frag} {x dx C f : Addr} {mA : Str → Option Value} {name : Str} {v : Value}

theorem get_map {expr : Bool} {Q : Value → Shared → Prop} (X : K.In s.heap) (I : ObjM s.heap x dx C mA) (hg : PySem.W.plainGet K C name = true) (hh : PySem.W.hasDictIn K C = true)
    (ha : PySem.W.findIn K (.ref C) name = some none) (hv : mA name = some v) (hv' : PySem.W.handedIn v = true) (h : Q v { s with toks := s.toks + 1 }) :
    wpAny (model prog w) A (getAttr (.ref x) name expr) Q E s := by
  obtain ⟨od, J, hl⟩ := I.look
  exact PySem.W.get_value X J (PySem.W.plainGet_of hg).1 (PySem.W.findObj_own hh ha rfl (by rw [hl, hv])) hv' h

theorem get_meth {pl : Sem Bool} {Q : Value × List Value → Shared → Prop} (X : K.In s.heap) (I : ObjM s.heap x dx C mA) (hg : PySem.W.plainGet K C name = true)
    (hf : PySem.W.findIn K (.ref C) name = some (some (.ref f))) (ht : PySem.W.isFn K (.ref f) = true) (hv : mA name = none) (h : Q (.ref f, [.ref x]) s) :
    wpAny (model prog w) A (getMethod (.ref x) name pl) Q E s := by
  obtain ⟨od, J, hl⟩ := I.look
  exact PySem.W.method_fn X J (PySem.W.plainGet_of hg).1 (PySem.W.plainGet_of hg).2 hf (beq_iff_eq.mp ht) (by show (PySem.W.lookIn name od).map (·.isSome) = some false; rw [hl, hv]; rfl) h

theorem set_map {ns : List Str} {Q : Unit → Shared → Prop} (X : K.In s.heap) (I : ObjM s.heap x dx C mA)
    (hs : PySem.W.findIn K (.ref C) "__setattr__" = some (some (.builtin "object.__setattr__"))) (hp : PySem.W.plainOver K C = true) (ht : PySem.W.takerIn K C name = some none) (hh : PySem.W.hasDictIn K C = true)
    (hw : PySem.Within mA ns) (hsz : ns.length ≤ sizeLine)
    (h : ∀ h', ObjM h' x dx C (fun y => if y = name then some v else mA y) → Heap.SameBut dx s.heap h' → Q () { s with heap := h', toks := s.toks + 2 }) :
    wpAny (model prog w) A (setAttr (.ref x) name v) Q E s := by
  obtain ⟨od, J, hl⟩ := I.look
  refine PySem.W.set_plain X J hs (PySem.W.osa_open (s := { s with toks := s.toks + 1 }) (r := none) X J hp ht fun b => ?_)
  obtain ⟨cd, hc, hd'⟩ := PySem.W.any_some hh
  have hx : s.heap.get? x = some ⟨.ref C, some dx, .plain, #[]⟩ := I.obj
  refine wpAny_bind (wpAny_pure (wpAny_bind (wpAny_bind (wpAny_loadPart hx (wpAny_bind (PySem.W.Looks.here (s := { s with toks := s.toks + 1 }) (PySem.W.looks_clsIn X hc) ?_))))))
  rw [hd']
  refine wpAny_pure (a := some dx) (wpAny_bind (wpAny_pure (wpAny_bind ?_)))
  refine wpAny_nsSet1 (s := { s with toks := s.toks + 1 }) I.ns fun h' hn2 hs2 => ?_
  obtain ⟨oD, esD, epD, hoD, hdD, hcD⟩ := hn2.count (PySem.Within.cons name v hw)
  refine wpAny_bind (wpAny_lookBehind hoD (by rw [hdD]; exact pastItsLine_dict (Nat.le_trans hcD (by rw [List.length_cons]; omega))) ?_)
  exact wpAny_pure (h _ ⟨(hs2.2 _ (Ne.symm I.ne)).trans I.obj, hn2, I.ne⟩ hs2)

/-- C(..): the dict at the heap's end, the instance behind it; then its __init__ -/
theorem make_map {R : Result → Shared → Prop} {vs : List Value} {kw : List (Str × Value)} (X : K.In s.heap) (hm : PySem.W.makesIn K C = true)
    (hi : PySem.W.findIn K (.ref C) "__init__" = some (some (.ref f))) (hf : PySem.W.typeIn K (.ref f) = some (.type "function"))
    (h : codeAny (model prog w) (A.under (.builtin "type.__call__" ⟨.ref C :: vs, kw⟩)) (.call (.ref f) ⟨.ref (s.heap.objs.size + 1) :: vs, kw⟩) (PySem.W.InitBack (s.heap.objs.size + 1) R)
      { s with heap := (s.heap.push PySem.W.emptyDict).push (PySem.W.instObj C s.heap.objs.size) }) :
    codeAny (model prog w) A (.call (.ref C) ⟨vs, kw⟩) R s := by
  obtain ⟨hh, g, d, t, os⟩ := s
  exact PySem.W.make_core (PySem.W.makes_of X hm) (PySem.W.looks_findIn X hi) (fun self => PySem.W.bind_fn X self hf) (.inl rfl) h
end

def putF (f : Str) (v : V) : List (Str × V) → List (Str × V)
  | [] => [(f, v)]
  | (g, x) :: r => if g = f then (g, v) :: r else (g, x) :: putF f v r
theorem lookup_putF (f g : Str) (v : V) : ∀ fs : List (Str × V), (putF f v fs).lookup g = if g = f then some v else fs.lookup g
  | [] => by
    show List.lookup g [(f, v)] = _
    by_cases h : g = f
    · have hb : (g == f) = true := beq_iff_eq.mpr h
      simp only [List.lookup, hb, if_pos h]
    · have hb : (g == f) = false := beq_eq_false_iff_ne.mpr h
      simp only [List.lookup, hb, if_neg h]
  | (k, x) :: r => by
    have ih := lookup_putF f g v r
    rw [show putF f v ((k, x) :: r) = (if k = f then (k, v) :: r else (k, x) :: putF f v r) from rfl]
    by_cases hk : k = f
    · rw [if_pos hk]
      by_cases h : g = k
      · have hb : (g == k) = true := beq_iff_eq.mpr h
        simp only [List.lookup, hb, if_pos (h.trans hk)]
      · have hb : (g == k) = false := beq_eq_false_iff_ne.mpr h
        simp only [List.lookup, hb, if_neg (fun e : g = f => h (e.trans hk.symm))]
    · rw [if_neg hk]
      by_cases h : g = k
      · have hb : (g == k) = true := beq_iff_eq.mpr h
        simp only [List.lookup, hb, if_neg (fun e : g = f => hk (h.symm.trans e))]
      · have hb : (g == k) = false := beq_eq_false_iff_ne.mpr h
        simp only [List.lookup, hb]
        exact ih
theorem keys_putF (f : Str) (v : V) : ∀ fs : List (Str × V), f ∈ (putF f v fs).map (·.1) ∧ ∀ g, g ∈ fs.map (·.1) → g ∈ (putF f v fs).map (·.1)
  | [] => ⟨by simp [putF], fun g h => by simp at h⟩
  | (k, x) :: r => by
    obtain ⟨i1, i2⟩ := keys_putF f v r
    rw [show putF f v ((k, x) :: r) = (if k = f then (k, v) :: r else (k, x) :: putF f v r) from rfl]
    by_cases hk : k = f
    · rw [if_pos hk]
      subst hk
      exact ⟨by simp, fun g h => by simpa using h⟩
    · rw [if_neg hk]
      refine ⟨?_, fun g h => ?_⟩
      · rw [List.map_cons]
        exact List.mem_cons_of_mem _ i1
      · rw [List.map_cons] at h ⊢
        rcases List.mem_cons.mp h with e | e
        · exact List.mem_cons.mpr (.inl e)
        · exact List.mem_cons_of_mem _ (i2 g e)
theorem length_putF (f : Str) (v : V) : ∀ fs : List (Str × V), (putF f v fs).length ≤ fs.length + 1
  | [] => by simp [putF]
  | (k, x) :: r => by
    have ih := length_putF f v r
    rw [show putF f v ((k, x) :: r) = (if k = f then (k, v) :: r else (k, x) :: putF f v r) from rfl]
    by_cases hk : k = f
    · rw [if_pos hk, List.length_cons, List.length_cons]; omega
    · rw [if_neg hk, List.length_cons, List.length_cons]; omega

theorem RelO.some_of {v : V} {o : Option Value} (r : RelO (some v) o) : ∃ u, o = some u ∧ RelV v u := by
  cases o with
  | none => exact (show False from r).elim
  | some u => exact ⟨u, rfl, r⟩
theorem RelO.none_of {o : Option Value} (r : RelO none o) : o = none := by
  cases o with
  | none => rfl
  | some u => exact (show False from r).elim
theorem handed_of {v : V} {u : Value} (r : RelV v u) : PySem.W.handedIn u = true := by
  cases v with
  | non => cases (show u = Value.none from r); rfl
  | bl b => cases (show u = Value.bool b from r); rfl
  | int i => obtain ⟨t, e⟩ := (show ∃ t, u = Value.int i t from r); cases e; rfl
  | str x => obtain ⟨t, e⟩ := (show ∃ t, u = Value.str x t from r); cases e; rfl
  | byt b => obtain ⟨t, e⟩ := (show ∃ t, u = Value.bytes b t from r); cases e; rfl
  | flt b => obtain ⟨t, e⟩ := (show ∃ t, u = Value.float b t from r); cases e; rfl
  | ref a => cases (show u = Value.ref a from r); rfl
  | ty n => cases (show u = Value.type n from r); rfl

section
variable {P : Program} {w : World} {H H' : Hp} {h h' : Heap} {a C dx : Addr} {fs fs' : List (Str × V)}
theorem ins_get (hok : HOk P w H h) (e : H a = some (.ins C dx fs)) : ∃ mA, ObjM h a dx C mA ∧ (∀ f, RelO (fs.lookup f) (mA f)) ∧ PySem.Within mA (fs.map (·.1)) ∧ fs.length ≤ 1000 ∧ H dx = some (.own a) := by
  obtain ⟨d, z, ne, ob, mA, n, r, q⟩ := (show ObjOk P w H h a (.ins C dx fs) from hok a _ e)
  exact ⟨mA, ⟨ob, n, ne⟩, r, q, z, d⟩
end

structure Cls (K : PySem.W.Frag) (C : Addr) : Prop where
  pg : PySem.W.plainGet K C Str.empty = true
  hd : PySem.W.hasDictIn K C = true
  po : PySem.W.plainOver K C = true
  sa : PySem.W.findIn K (.ref C) "__setattr__" = some (some (.builtin "object.__setattr__"))
theorem Cls.get {K : PySem.W.Frag} {C : Addr} (c : Cls K C) (f : Str) : PySem.W.plainGet K C f = true := c.pg
/-- no class of it has the name -/
def NoAttr (K : PySem.W.Frag) (C : Addr) (f : Str) : Prop := PySem.W.findIn K (.ref C) f = some none
theorem NoAttr.taker {K : PySem.W.Frag} {C : Addr} {f : Str} (n : NoAttr K C f) : PySem.W.takerIn K C f = some none := by
  unfold PySem.W.takerIn
  rw [show PySem.W.findIn K (.ref C) f = some none from n]
  rfl
/-- a method: a plain def of the class or of one above it -/
structure Meth (K : PySem.W.Frag) (C : Addr) (m : Str) (f : Addr) : Prop where
  at_ : PySem.W.findIn K (.ref C) m = some (some (.ref f))
  fn : PySem.W.isFn K (.ref f) = true
  kp : PySem.W.keepIn K (.ref f) = true

section
variable {X : Cx} {pins : List (Addr × Obj)} {σ : St} {H : Hp} {s : Shared} {a C dx : Addr} {fs : List (Str × V)} {f : Str} {v : V} {A : Around} {E : Value → Shared → Prop}

theorem getattr_ok {b : Bool} {Q : Value → Shared → Prop} (I : Inv X pins σ H s) (e : H a = some (.ins C dx fs)) (c : Cls X.K C) (n : NoAttr X.K C f) (l : fs.lookup f = some v)
    (h : ∀ u s', Inv X pins σ H s' → RelV v u → Q u s') : wpAny (model X.prog X.w) A (getAttr (.ref a) f b) Q E s := by
  obtain ⟨mA, O, r, _, _, _⟩ := ins_get I.hok e
  obtain ⟨u, hu, ru⟩ := RelO.some_of (v := v) (o := mA f) (by rw [← l]; exact r f)
  exact get_map I.kIn O (c.get f) c.hd n hu (handed_of ru) (h u _ (I.tok _) ru)

theorem getmeth_ok {m : Str} {g : Addr} {pl : Sem Bool} {Q : Value × List Value → Shared → Prop} (I : Inv X pins σ H s) (e : H a = some (.ins C dx fs)) (c : Cls X.K C) (k : Meth X.K C m g) (l : fs.lookup m = none)
    (h : Q (.ref g, [.ref a]) s) : wpAny (model X.prog X.w) A (getMethod (.ref a) m pl) Q E s := by
  obtain ⟨mA, O, r, _, _, _⟩ := ins_get I.hok e
  have hn : mA m = none := RelO.none_of (by rw [← l]; exact r m)
  exact get_meth I.kIn O (c.get m) k.at_ k.fn hn h

theorem setattr_ok {y : V} {u : Value} {Q : Unit → Shared → Prop} (I : Inv X pins σ H s) (e : H a = some (.ins C dx fs)) (c : Cls X.K C) (n : NoAttr X.K C f) (hl : fs.length < 1000) (ry : RelV y u)
    (h : ∀ s', Inv X pins σ (upd H a (.ins C dx (putF f y fs))) s' → Q () s') : wpAny (model X.prog X.w) A (setAttr (.ref a) f u) Q E s := by
  obtain ⟨mA, O, r, wi, _, ho⟩ := ins_get I.hok e
  have hz : (fs.map (·.1)).length ≤ sizeLine := by rw [List.length_map, sizeLine_eq]; omega
  refine set_map I.kIn O c.sa c.po n.taker c.hd wi hz fun h' O' sb => h _ ?_
  have hd : ∃ o, h'.get? dx = some o := let ⟨o, _, _, e', _⟩ := O'.ns; ⟨o, e'⟩
  refine I.write (x := a) (e := dx) (by rw [e]; exact True.intro) (.inr ho) (fun b q hb z => (sb.2 b hb).trans z) hd ?_
  refine ⟨by rw [upd_ne O.ne]; exact ho, ?_, O.ne, O'.obj, _, O'.ns, fun g => ?_, fun g hg => ?_⟩
  · have := length_putF f y fs; omega
  · show RelO ((putF f y fs).lookup g) (if g = f then some u else mA g)
    rw [lookup_putF]
    by_cases q : g = f
    · rw [if_pos q, if_pos q]; exact ry
    · rw [if_neg q, if_neg q]; exact r g
  · by_cases q : g = f
    · rw [q]; exact (keys_putF f y fs).1
    · refine (keys_putF f y fs).2 g (wi g fun z => hg ?_)
      show (if g = f then some u else mA g) = none
      rw [if_neg q]; exact z

/-- a new instance, tracked, without attributes -/
theorem Inv.made (I : Inv X pins σ H s) : Inv X pins σ (upd (upd H s.heap.objs.size (.own (s.heap.objs.size + 1))) (s.heap.objs.size + 1) (.ins C s.heap.objs.size []))
    { s with heap := (s.heap.push PySem.W.emptyDict).push (PySem.W.instObj C s.heap.objs.size) } := by
  have e1 : (s.heap.push PySem.W.emptyDict).get? s.heap.objs.size = some PySem.W.emptyDict := Heap.get?_push_size s.heap rfl
  have e2 : ((s.heap.push PySem.W.emptyDict).push (PySem.W.instObj C s.heap.objs.size)).get? (s.heap.objs.size + 1) = some (PySem.W.instObj C s.heap.objs.size) := by
    have := Heap.get?_push_size (s.heap.push PySem.W.emptyDict) (o := PySem.W.instObj C s.heap.objs.size) rfl
    rwa [Heap.size_push] at this
  have e3 : (s.heap.push PySem.W.emptyDict).Ns s.heap.objs.size (fun _ => none) := ⟨PySem.W.emptyDict, #[], _, e1, rfl, (fun e he => absurd he (by simp)), fun _ => rfl⟩
  have I1 := I.laid (a := s.heap.objs.size) (o := .own (s.heap.objs.size + 1)) (h' := s.heap.push PySem.W.emptyDict) (t' := s.toks) (fun b u q => Heap.get?_push_of_some _ q) (Nat.le_refl _) ⟨_, e1⟩
  refine I1.laid (a := s.heap.objs.size + 1) (o := .ins C s.heap.objs.size []) (t' := s.toks) (fun b u q => Heap.get?_push_of_some _ q) (Nat.le_of_eq (Heap.size_push _ _)) ?_
  have ne : s.heap.objs.size ≠ s.heap.objs.size + 1 := Nat.ne_of_lt (Nat.lt_succ_self _)
  refine ⟨by rw [upd_ne ne, upd_same], Nat.zero_le _, ne, e2, fun _ => none, (Heap.Ns1.of_empty e3).at fun o q => Heap.get?_push_of_some _ q, fun _ => True.intro, fun y hy => absurd rfl hy⟩

/-- e.f where nothing but the object is asked: through attributeBase (super) and the last hold -/
theorem attr_of {prog : Program} {w : World} {env : Env} {e : Expr} {f : Str} {pos : Pos} {s : Shared} {Q : Value → Shared → Prop} (hb : attributeBase e f env (eval e env) = eval e env)
    (h : wpAny (model prog w) A (eval e env) (fun o s₁ => wpAny (model prog w) A (getAttr o f true) Q E s₁) E s) : wpAny (model prog w) A (eval (.Attribute e f pos) env) Q E s :=
  Attribute_any_ h (by rw [arm_eval_Attribute, hb])
end

/-- e.f, an attribute of the instance -/
def tFld (K : PySem.W.Frag) (ta : TE) (f : Str) : TE := fun σ H Q => ta σ H fun x H1 => ∃ a C dx fs v, x = .ref a ∧ H1 a = some (.ins C dx fs) ∧ Cls K C ∧ NoAttr K C f ∧ fs.lookup f = some v ∧ Q v H1
/-- e.f = value -/
def sFld (K : PySem.W.Frag) (ta tv : TE) (f : Str) : TS := fun D σ H => tv σ H fun y H1 => ta σ H1 fun x H2 => ∃ a C dx fs, x = .ref a ∧ H2 a = some (.ins C dx fs) ∧ Cls K C ∧ NoAttr K C f ∧ fs.length < 1000 ∧
  D.nx σ (upd H2 a (.ins C dx (putF f y fs)))
section
variable {X : Cx} {o e value : Expr} {f : Str} {pos pos' tpos : Pos} {ta tv : TE}
theorem pe_fld (he : PE X e ta) (hb : attributeBase e f X.env (eval e X.env) = eval e X.env) : PE X (.Attribute e f pos) (tFld X.K ta f) := by
  intro pins s σ H Q I h
  refine attr_of hb (thn (he pins s σ H _ I h) fun u s1 ⟨x, H1, I1, rx, a, C, dx, fs, v, ex, ea, c, n, l, q⟩ => ?_)
  subst ex
  obtain rfl : u = Value.ref a := rx
  exact getattr_ok I1 ea c n l fun u' s2 I2 ru => ⟨v, H1, I2, ru, q⟩
theorem ps_fld (ha : PE X o ta) (hv : PE X value tv) (hs : swapsWith value (some (.Attribute o f pos')) pos.line X.env = pure false) : PS X (.Assign [.Attribute o f pos'] value pos) (sFld X.K ta tv f) := by
  intro pins s σ H D I h
  refine plainObj_wpAny_Assign_Attribute (thn (hv pins s σ H _ I h) fun u s1 ⟨y, H1, I1, ry, q⟩ => thn (ha pins s1 σ H1 _ I1 q) fun ov s2 ⟨x, H2, I2, rx, a, C, dx, fs, ex, ea, c, n, l, q2⟩ => ?_) hs
  subst ex
  obtain rfl : ov = Value.ref a := rx
  exact setattr_ok I2 ea c n l ry fun s3 I3 => ⟨σ, _, I3, q2⟩
end

section
variable {X : Cx} {pins : List (Addr × Obj)} {σ : St} {H : Hp} {s : Shared} {A : Around} {E : Value → Shared → Prop} {Q : Value → Shared → Prop} {c : Value} {b : Bool}
/-- the type of a value, as the fragment's deciders take it; for an instance its class -/
inductive TyOf (K : PySem.W.Frag) (H : Hp) : V → Value → Prop where
  | non : TyOf K H .non (.type "NoneType")
  | bl (x : Bool) : TyOf K H (.bl x) (.type "bool")
  | int (i : Int) : TyOf K H (.int i) (.type "int")
  | str (x : Str) : TyOf K H (.str x) (.type "str")
  | flt (x : UInt64) : TyOf K H (.flt x) (.type "float")
  | lst {a : Addr} {xs : List V} (e : H a = some (.lst xs)) : TyOf K H (.ref a) (.type "list")
  | frz {a : Addr} {o : Obj} {xs : List V} (e : H a = some (.frz o (.lst xs))) : TyOf K H (.ref a) (.type "list")
  | tup {a : Addr} {xs : List V} (e : H a = some (.tup xs)) : TyOf K H (.ref a) (.type "tuple")
  | dK {a : Addr} {kvs : List (Key × V)} (e : H a = some (.dK kvs)) : TyOf K H (.ref a) (.type "dict")
  | dT {a : Addr} {kvs : List (List Key × V)} (e : H a = some (.dT kvs)) : TyOf K H (.ref a) (.type "dict")
  | ins {a C dx : Addr} {fs : List (Str × V)} (e : H a = some (.ins C dx fs)) (cl : Cls K C) (ha : PySem.W.findIn K (.ref C) "__class__" = some (some (.builtin "object.__class__")))
      (hn : PySem.W.specialIn K (.builtin "object.__class__") "__get__" = some (some (.builtin "getset_descriptor.__get__"))) (htk : PySem.W.takesIn K (.builtin "object.__class__") = some true)
      (hm : PySem.W.mroIn K C (.type "object") = some true) : TyOf K H (.ref a) (.ref C)
/-- isinstance(x, c) for one class c, a built-in or an own one: kitOne's answer -/
theorem isinst_ok {x : V} {u t : Value} (I : Inv X pins σ H s) (rx : RelV x u) (ty : TyOf X.K H x t) (e : PySem.W.kitOne X.K t c = some b) (h : ∀ tk, Q (.bool b) { s with toks := tk }) :
    wpAny (model X.prog X.w) A (call (.builtin "isinstance") [u, c]) Q E s := by
  cases ty with
  | non => cases (show u = Value.none from rx); exact PySem.W.kia_one PySem.W.kitx_none I.kIn True.intro e (fun z => nomatch z) h
  | bl y => cases (show u = Value.bool y from rx); exact PySem.W.kia_one PySem.W.kitx_bool I.kIn True.intro e (fun z => nomatch z) h
  | int i => obtain ⟨t, q⟩ := (show ∃ t, u = Value.int i t from rx); cases q; exact PySem.W.kia_one PySem.W.kitx_int I.kIn True.intro e (fun z => nomatch z) h
  | str y => obtain ⟨t, q⟩ := (show ∃ t, u = Value.str y t from rx); cases q; exact PySem.W.kia_one PySem.W.kitx_str I.kIn True.intro e (fun z => nomatch z) h
  | flt y => obtain ⟨t, q⟩ := (show ∃ t, u = Value.float y t from rx); cases q; exact PySem.W.kia_one PySem.W.kitx_float I.kIn True.intro e (fun z => nomatch z) h
  | @lst a xs ea =>
    cases (show u = Value.ref a from rx)
    obtain ⟨_, _, n, _, h1⟩ := (show ObjOk X.prog X.w H s.heap a (.lst xs) from I.hok a _ ea)
    exact PySem.W.kia_one PySem.W.kitx_list I.kIn ⟨_, h1, rfl⟩ e (fun z => nomatch z) h
  | @frz a ob xs ea =>
    cases (show u = Value.ref a from rx)
    obtain ⟨_, _, _, n, _, h1⟩ := (show ObjOk X.prog X.w H s.heap a (.frz ob (.lst xs)) from I.hok a _ ea)
    exact PySem.W.kia_one PySem.W.kitx_list I.kIn ⟨_, h1, rfl⟩ e (fun z => nomatch z) h
  | @tup a xs ea =>
    cases (show u = Value.ref a from rx)
    obtain ⟨_, _, _, p⟩ := (show ObjOk X.prog X.w H s.heap a (.tup xs) from I.hok a _ ea)
    obtain ⟨o, h1, h2, _⟩ := p
    exact PySem.W.kia_one PySem.W.kitx_tuple I.kIn ⟨o, h1, h2⟩ e (fun z => nomatch z) h
  | @dK a kvs ea =>
    cases (show u = Value.ref a from rx)
    obtain ⟨_, _, vs, _, p⟩ := (show ObjOk X.prog X.w H s.heap a (.dK kvs) from I.hok a _ ea)
    obtain ⟨o, es, ep, h1, h2, _⟩ := p
    exact PySem.W.kia_one PySem.W.kitx_dict I.kIn ⟨o, h1, h2.1⟩ e (fun z => nomatch z) h
  | @dT a kvs ea =>
    cases (show u = Value.ref a from rx)
    obtain ⟨_, _, xs, _, o, es, ep, h1, h2, _⟩ := (show ObjOk X.prog X.w H s.heap a (.dT kvs) from I.hok a _ ea)
    exact PySem.W.kia_one PySem.W.kitx_dict I.kIn ⟨o, h1, h2.1⟩ e (fun z => nomatch z) h
  | @ins a C dx fs ea cl ha hn htk hm =>
    cases (show u = Value.ref a from rx)
    obtain ⟨mA, O, _⟩ := ins_get I.hok ea
    obtain ⟨od, J, _⟩ := O.look
    exact PySem.W.kia_one (PySem.W.kitx_own (cl.get _) cl.hd ha hn htk hm) I.kIn J e (fun z => nomatch z) h
end
end L2

namespace L2
open PySem PySem.Spec PyProof.Rows

structure Room (k : Nat) (A : Around) : Prop where
  hd : A.handled = none
  dp : A.depth + 3 * k + 5 < recursionLimit
  un : A.units + 16 * k + 200 < cLine
theorem Room.mono {j k : Nat} {A : Around} (r : Room k A) (h : j ≤ k) : Room j A := ⟨r.hd, by have := r.dp; omega, by have := r.un; omega⟩
theorem Room.deeper {k : Nat} {A : Around} (r : Room (k + 1) A) (env : Env) : Room k (A.deeper env) :=
  ⟨r.hd, by have := r.dp; show A.depth + 1 + 3 * k + 5 < _; omega, by have := r.un; show A.units + 3 + 16 * k + 200 < _; omega⟩
theorem make_depth {A : Around} {C : Addr} {us : List Value} {kw : List (Str × Value)} : (A.under (.builtin "type.__call__" ⟨.ref C :: us, kw⟩)).depth = A.depth + 1 := by
  first | rfl | simp [Around.under, Code.weight, Code.isCreation, Code.isGuard, Code.isCaller, Code.frames, Code.isFrame, guardIds]
theorem make_units {A : Around} {C : Addr} {us : List Value} {kw : List (Str × Value)} : (A.under (.builtin "type.__call__" ⟨.ref C :: us, kw⟩)).units = A.units + 1 := by
  first | rfl | simp [Around.under, Code.cUnits, Code.frames, Code.isFrame]
theorem Room.make {k : Nat} {A : Around} (r : Room (k + 1) A) (C : Addr) (us : List Value) (kw : List (Str × Value)) : Room k (A.under (.builtin "type.__call__" ⟨.ref C :: us, kw⟩)) :=
  ⟨r.hd, by have := r.dp; rw [make_depth]; omega, by have := r.un; rw [make_units]; omega⟩
theorem Room.depth {k : Nat} {A : Around} (r : Room k A) : A.depth < recursionLimit := by have := r.dp; omega
theorem Room.units0 {k : Nat} {A : Around} (r : Room k A) : A.units < cLine := by have := r.un; omega

def tNil : TA := fun _ H Q => Q [] H
def tCons (ta : TE) (tr : TA) : TA := fun σ H Q => ta σ H fun x H1 => tr σ H1 fun xs H2 => Q (x :: xs) H2
section
variable {X : Cx} {e : Expr} {es : List Expr} {te : TE} {t : TA} {pos : Pos}
theorem pa_nil : PA X [] tNil := fun _ _ _ _ H Q I h => Calls.spliced_nil ⟨[], H, I, .nil, h⟩
theorem pa_cons (ha : PE X e te) (hr : PA X es t) (hs : starEach (e :: es) X.env = (false, eval e X.env) :: starEach es X.env := by rfl) : PA X (e :: es) (tCons te t) := by
  intro pos pins s σ H Q I h
  rw [hs]
  show wpAny _ _ (spliced ((false, eval e X.env) :: backTo pos (starEach es X.env))) _ _ s
  refine Calls.spliced_cons (thn (ha pins s σ H _ I h) fun u s1 ⟨x, H1, I1, r1, q1⟩ => ?_)
  exact thn (hr pos pins s1 σ H1 _ I1 q1) fun us s2 ⟨xs, H2, I2, r2, q2⟩ => ⟨x :: xs, H2, I2, .cons r1 r2, q2⟩

/-- a tuple, a list of written items -/
def tTup (t : TA) : TE := fun σ H Q => t σ H fun xs H1 => xs.length ≤ sizeLine ∧ ∀ p, H1 p = none → Q (.ref p) (upd H1 p (.tup xs))
def tLst (t : TA) : TE := fun σ H Q => t σ H fun xs H1 => xs.length ≤ sizeLine ∧ ∀ p, H1 p = none → Q (.ref p) (upd H1 p (.lst xs))
theorem pe_tup {x1} (h : PA X es t) : PE X (.Tuple es x1 pos) (tTup t) := by
  intro pins s σ H Q I hq
  refine wpAny_Tuple_spliced (thn (h pos pins s σ H _ I hq) fun us s1 ⟨xs, H1, I1, r, z, q⟩ => ⟨by rw [← r.length]; exact z, ?_⟩)
  have hf : H1 s1.heap.objs.size = none := I1.hok.fresh (Nat.le_refl _)
  refine ⟨.ref s1.heap.objs.size, upd H1 s1.heap.objs.size (.tup xs), I1.laid (t' := s1.toks) (fun b u e => Heap.get?_push_of_some _ e) (Nat.le_refl _) ?_, rfl, q _ hf⟩
  exact ⟨z, us, r, ⟨_, Heap.get?_push_size _ rfl, rfl, _, rfl⟩⟩
theorem pe_lst (h : PA X es t) : PE X (.List es pos) (tLst t) := by
  intro pins s σ H Q I hq
  refine wpAny_List_spliced (thn (h pos pins s σ H _ I hq) fun us s1 ⟨xs, H1, I1, r, z, q⟩ => ⟨by rw [← r.length]; exact z, ?_⟩)
  have hf : H1 s1.heap.objs.size = none := I1.hok.fresh (Nat.le_refl _)
  refine ⟨.ref s1.heap.objs.size, upd H1 s1.heap.objs.size (.lst xs), I1.laid (t' := s1.toks) (fun b u e => Heap.get?_push_of_some _ e) (Nat.le_refl _) ?_, rfl, q _ hf⟩
  exact ⟨z, us, 0, r, Heap.get?_push_size _ rfl⟩
end

/-- a def's promise: the bound arguments in the parameters' order, the heap, the wanted end, the wanted exception -/
abbrev Sp := List V → Hp → VK → XK → Prop
/-- how an exception lies behind a call (file 08 gives it): the callers' frames, abstract heap and state ahead of the call, the wish, the exception, the state -/
abbrev CXT := List Env → Hp → Shared → XK → Value → Shared → Prop

/-- the state at a call -/
structure Env0 (P : Program) (w : World) (K : PySem.W.Frag) (mg : Str → Option Value) (base : Heap) (A : Around) (outer : List Env) (s : Shared) (H : Hp) : Prop where
  frames : A.frames = some outer
  mod : Mod K mg base
  bs : ∀ b o, base.get? b = some o → s.heap.get? b = some o ∧ H b = none
  bsz : base.objs.size ≤ s.heap.objs.size
  funs : s.heap.FunFrames base outer
  frf : ∀ b ∈ frs outer, H b = none
  hok : HOk P w H s.heap
  bare : AllBare s.gens
/-- a call's end -/
def CE (outer : List Env) (P : Program) (w : World) (H : Hp) (s : Shared) (Q : VK) (u : Value) (s' : Shared) : Prop :=
  ∃ v H', s'.os = s.os ∧ AllBare s'.gens ∧ Un (frs outer) [] H H' s.heap s'.heap ∧ HOk P w H' s'.heap ∧ RelV v u ∧ Q v H'
def CR (CX : CXT) (outer : List Env) (P : Program) (w : World) (H : Hp) (s : Shared) (Q : VK) (E : XK) (r : Result) (s' : Shared) : Prop :=
  match r with
  | .ok (.ret u) => CE outer P w H s Q u s'
  | .ok _ => False
  | .error e => CX outer H s E e s'
structure FnOk (P : Program) (w : World) (K : PySem.W.Frag) (mg : Str → Option Value) (base : Heap) (CX : CXT) (k : Nat) (f : Addr) (fd : FuncData) (ps : List Str) (sp : Sp) : Prop where
  len : ∀ vs H Q E, sp vs H Q E → vs.length = ps.length
  run : ∀ (A : Around) (outer : List Env) (s : Shared) (H : Hp) (args : Args) (us : List Value) (vs : List V) (Q : VK) (E : XK), Room k A → Env0 P w K mg base A outer s H → BindsTo s fd args (ps.zip us) → Vals vs us → sp vs H Q E →
    codeAny (model P w) A (.call (.ref f) args) (CR CX outer P w H s Q E) s
theorem Env0.make {P : Program} {w : World} {K : PySem.W.Frag} {mg : Str → Option Value} {base : Heap} {A : Around} {outer : List Env} {s : Shared} {H : Hp} (e : Env0 P w K mg base A outer s H) (C : Addr) (us : List Value) (kw : List (Str × Value)) :
    Env0 P w K mg base (A.under (.builtin "type.__call__" ⟨.ref C :: us, kw⟩)) outer s H := ⟨by first | exact e.frames | (simpa [Around.under, Code.envs, Code.isFrame, pushEnvs] using e.frames), e.mod, e.bs, e.bsz, e.funs, e.frf, e.hok, e.bare⟩
section
variable {X : Cx} {pins : List (Addr × Obj)} {σ : St} {H : Hp} {s s' : Shared}
/-- from a body: what a callee wants -/
theorem Inv.env0 (I : Inv X pins σ H s) : Env0 X.prog X.w X.K X.mg X.base X.A X.stack s H :=
  ⟨I.ok.frames, I.ok.mod, I.bs, Nat.le_trans I.ok.bsz I.sz, I.stack, I.stkFree, I.hok, I.bare⟩
/-- behind a call -/
theorem Inv.after {Q : VK} {u : Value} (I : Inv X pins σ H s) (h : CE X.stack X.prog X.w H s Q u s') : EP X pins σ Q u s' := by
  obtain ⟨v, H', os, bare, un, hok, r, q⟩ := h
  obtain ⟨hh, g, d, t, os'⟩ := s'
  obtain rfl : os' = s.os := os
  exact ⟨v, H', I.call (h' := hh) (g' := g) (d' := d) (t' := t) (ch := []) un hok bare (fun b z => absurd z (by simp)), r, q⟩
end

/-- f(..): the written arguments, then the defaults dvs; E: what is wanted of an exception -/
def tCall (sp : Sp) (dvs : List V) (E : XK) (t : TA) : TE := fun σ H Q => t σ H fun vs H1 => sp (vs ++ dvs) H1 Q E
/-- o.m(..) of an instance of the class at C -/
def tMeth (C : Addr) (m : Str) (sp : Sp) (dvs : List V) (E : XK) (ta : TE) (t : TA) : TE := fun σ H Q => ta σ H fun x H1 => ∃ a dx fs, x = .ref a ∧ H1 a = some (.ins C dx fs) ∧ fs.lookup m = none ∧
  t σ H1 fun vs H2 => sp (x :: (vs ++ dvs)) H2 Q E
/-- C(..): a new instance and its dict, then __init__ -/
def tMake (C : Addr) (sp : Sp) (dvs : List V) (E : XK) (t : TA) : TE := fun σ H Q => t σ H fun vs H1 => ∀ x dx, H1 x = none → H1 dx = none → dx ≠ x →
  sp (.ref x :: (vs ++ dvs)) (upd (upd H1 dx (.own x)) x (.ins C dx [])) (fun v H2 => v = .non ∧ Q (.ref x) H2) E

/-- how the parameters are bound: us the positional arguments, kw the keywords' values by name, ds the defaults that fill up -/
def Binds (K : PySem.W.Frag) (fd : FuncData) (ps : List Str) (ds : List Value) : Prop :=
  ∀ (s : Shared) (us : List Value), K.In s.heap → (us ++ ds).length = ps.length → BindsTo s fd ⟨us, []⟩ (ps.zip (us ++ ds))
/-- every parameter is given -/
theorem Binds.all {K : PySem.W.Frag} {fd : FuncData} {ps : List Str} (h : ∀ us : List Value, us.length = ps.length → bindArgs fd ⟨us, []⟩ = pure (ps.zip us)) : Binds K fd ps [] := fun s us _ hl => by
  rw [List.append_nil] at hl ⊢
  exact .of_eq (h us hl)

/-- an exception of a callee reaches what this body wants of exceptions -/
def Passes (CX : CXT) (X : Cx) (E : XK) : Prop := ∀ (pins : List (Addr × Obj)) (σ : St) (H : Hp) (s : Shared) (e : Value) (s' : Shared), Inv X pins σ H s → CX X.stack H s E e s' → X.xe e s'

section
variable {X : Cx} {CX : CXT} {k : Nat} {f C : Addr} {fd : FuncData} {ps : List Str} {sp : Sp} {dvs : List V} {ds : List Value} {E : XK} {x m : Str} {p pos apos : Pos} {e o : Expr} {es : List Expr} {ta : TE} {t : TA}

/-- the callee runs -/
theorem run_fn {pins : List (Addr × Obj)} {σ : St} {H : Hp} {s : Shared} {Q : VK} {us : List Value} {vs : List V} (F : FnOk X.prog X.w X.K X.mg X.base CX k f fd ps sp) (hr : Room k X.A) (hb : Binds X.K fd ps ds) (hd : Vals dvs ds) (hx : Passes CX X E)
    (I : Inv X pins σ H s) (r : Vals vs us) (h : sp (vs ++ dvs) H Q E) : wpAny (model X.prog X.w) X.A (call (.ref f) us) (EP X pins σ Q) X.xe s := by
  have r2 : Vals (vs ++ dvs) (us ++ ds) := r.append hd
  have hl : (us ++ ds).length = ps.length := by rw [← r2.length]; exact F.len _ _ _ _ h
  refine wpAny_call (codeAny_mono (F.run X.A X.stack s H ⟨us, []⟩ (us ++ ds) (vs ++ dvs) Q E hr I.env0 (hb s us I.kIn hl) r2 h) fun r s' hq => ?_)
  cases r with
  | error e => exact hx pins σ H s e s' I hq
  | ok fl =>
    cases fl with
    | ret u => exact I.after hq
    | next => exact False.elim hq
    | brk => exact False.elim hq
    | cont => exact False.elim hq

theorem pe_call (F : FnOk X.prog X.w X.K X.mg X.base CX k f fd ps sp) (hr : Room k X.A) (hg : Gl X x) (hm : X.mg x = some (.ref f)) (hk : PySem.W.keepIn X.K (.ref f) = true) (hb : Binds X.K fd ps ds) (hd : Vals dvs ds) (hx : Passes CX X E)
    (ha : PA X (e :: es) t) (hdb : (x == ("__debug__" : Str)) = false := by decide) (he : starEach (e :: es) X.env = (false, eval e X.env) :: starEach es X.env := by rfl) (hpl : (backTo pos (starEach es X.env)).any (·.1) = false := by rfl) :
    PE X (.Call (.Name x p) (e :: es) [] pos) (tCall sp dvs E t) := by
  intro pins s σ H Q I h
  refine wpAny_Call_Name_kw (ld_glob I hg hm ?_ hdb)
  refine PySem.W.callWith_K (h₀ := X.base) I.ok.mod.kin hk (thn (ha pos pins s σ H _ I h) fun us s1 ⟨vs, H1, I1, r, q⟩ => ⟨I1.kIn, ?_⟩) he hpl
  exact run_fn F hr hb hd hx I1 r q
/-- o.m(e, ..) -/
theorem pe_meth {pl : Sem Bool} (he : PE X o ta) (c : Cls X.K C) (hm : Meth X.K C m f) (F : FnOk X.prog X.w X.K X.mg X.base CX k f fd ps sp) (hr : Room k X.A) (hb : Binds X.K fd ps ds) (hd : Vals dvs ds) (hx : Passes CX X E) (ha : PA X (e :: es) t)
    (hst : starEach (e :: es) X.env = (false, eval e X.env) :: starEach es X.env := by rfl) (hpl : (backTo pos (starEach es X.env)).any (·.1) = false := by rfl)
    (ht : eval (.Call (.Attribute o m apos) (e :: es) [] pos) X.env = (do
      let ov ← eval o X.env
      standAt apos.atName
      let (f, first) ← holding [ov] (getMethod ov m pl)
      callWith pos f first (backTo pos (starEach (e :: es) X.env)) (backToKw pos (keywordEach [] X.env))) := by rfl) :
    PE X (.Call (.Attribute o m apos) (e :: es) [] pos) (tMeth C m sp dvs E ta t) := by
  intro pins s σ H Q I h
  refine PySem.W.methodCall_KW (pl := pl) (thn (he pins s σ H _ I h) fun u s1 ⟨x, H1, I1, rx, a, dx, fs, ex, ea, l, q⟩ => ?_) ht
  subst ex
  obtain rfl : u = Value.ref a := rx
  refine getmeth_ok I1 ea c hm l ?_
  refine PySem.W.callWith_K (first := [.ref a]) (h₀ := X.base) I.ok.mod.kin hm.kp (thn (ha pos pins s1 σ H1 _ I1 q) fun us s2 ⟨vs, H2, I2, r, q2⟩ => ⟨I2.kIn, ?_⟩) hst hpl
  exact run_fn (us := .ref a :: us) (vs := .ref a :: vs) F hr hb hd hx I2 (.cons rfl r) q2
/-- o.m() -/
theorem pe_meth0 {pl : Sem Bool} (he : PE X o ta) (c : Cls X.K C) (hm : Meth X.K C m f) (F : FnOk X.prog X.w X.K X.mg X.base CX k f fd ps sp) (hr : Room k X.A) (hb : Binds X.K fd ps ds) (hd : Vals dvs ds) (hx : Passes CX X E)
    (ht : eval (.Call (.Attribute o m apos) [] [] pos) X.env = (do
      let ov ← eval o X.env
      standAt apos.atName
      let (f, first) ← holding [ov] (getMethod ov m pl)
      callWith pos f first (backTo pos (starEach [] X.env)) (backToKw pos (keywordEach [] X.env))) := by rfl) :
    PE X (.Call (.Attribute o m apos) [] [] pos) (tMeth C m sp dvs E ta tNil) := by
  intro pins s σ H Q I h
  refine PySem.W.methodCall_KW (pl := pl) (thn (he pins s σ H _ I h) fun u s1 ⟨x, H1, I1, rx, a, dx, fs, ex, ea, l, q⟩ => ?_) ht
  subst ex
  obtain rfl : u = Value.ref a := rx
  refine getmeth_ok I1 ea c hm l ?_
  exact PySem.W.callWith_K0 (first := [.ref a]) I1.kIn hm.kp (run_fn (us := [.ref a]) (vs := [.ref a]) F hr hb hd hx I1 (.cons rfl .nil) q)

/-- what a class must have to be made -/
structure Mk (K : PySem.W.Frag) (C f : Addr) : Prop where
  makes : PySem.W.makesIn K C = true
  init : PySem.W.findIn K (.ref C) "__init__" = some (some (.ref f))
  fn : PySem.W.isFn K (.ref f) = true
  kp : PySem.W.keepIn K (.ref C) = true

theorem run_make {pins : List (Addr × Obj)} {σ : St} {H : Hp} {s : Shared} {Q : VK} {us : List Value} {vs : List V} (M : Mk X.K C f) (F : FnOk X.prog X.w X.K X.mg X.base CX k f fd ps sp) (hr : Room (k + 1) X.A) (hb : Binds X.K fd ps ds) (hd : Vals dvs ds)
    (hx : Passes CX X E) (I : Inv X pins σ H s) (r : Vals vs us)
    (h : ∀ x dx, H x = none → H dx = none → dx ≠ x → sp (.ref x :: (vs ++ dvs)) (upd (upd H dx (.own x)) x (.ins C dx [])) (fun v H2 => v = .non ∧ Q (.ref x) H2) E) :
    wpAny (model X.prog X.w) X.A (call (.ref C) us) (EP X pins σ Q) X.xe s := by
  have hq := h (s.heap.objs.size + 1) s.heap.objs.size (I.hok.fresh (Nat.le_succ _)) (I.hok.fresh (Nat.le_refl _)) (Nat.ne_of_lt (Nat.lt_succ_self _))
  have I2 := Inv.made (C := C) I
  have r2 : Vals (V.ref (s.heap.objs.size + 1) :: (vs ++ dvs)) (Value.ref (s.heap.objs.size + 1) :: (us ++ ds)) := .cons rfl (r.append hd)
  have hl : (Value.ref (s.heap.objs.size + 1) :: us ++ ds).length = ps.length := by
    have e := r2.length
    rw [F.len _ _ _ _ hq] at e
    exact e.symm
  refine wpAny_call (make_map (f := f) I.kIn M.makes M.init (beq_iff_eq.mp M.fn) (codeAny_mono (F.run _ X.stack _ _ ⟨Value.ref (s.heap.objs.size + 1) :: us, []⟩ (Value.ref (s.heap.objs.size + 1) :: (us ++ ds)) _ _ E (hr.make C us [])
    (I2.env0.make C us []) (hb _ (Value.ref (s.heap.objs.size + 1) :: us) I2.kIn hl) r2 hq) fun r s' hq' => ?_))
  cases r with
  | error e => exact hx pins σ _ _ e s' I2 hq'
  | ok fl =>
    cases fl with
    | ret u =>
      obtain ⟨v, H', I3, rv, ev, q3⟩ := I2.after hq'
      subst ev
      exact ⟨rv, ⟨V.ref (s.heap.objs.size + 1), H', I3, rfl, q3⟩⟩
    | next => exact False.elim hq'
    | brk => exact False.elim hq'
    | cont => exact False.elim hq'
theorem pe_make (M : Mk X.K C f) (F : FnOk X.prog X.w X.K X.mg X.base CX k f fd ps sp) (hr : Room (k + 1) X.A) (hg : Gl X x) (hm : X.mg x = some (.ref C)) (hb : Binds X.K fd ps ds) (hd : Vals dvs ds) (hx : Passes CX X E)
    (ha : PA X (e :: es) t) (hdb : (x == ("__debug__" : Str)) = false := by decide) (he : starEach (e :: es) X.env = (false, eval e X.env) :: starEach es X.env := by rfl) (hpl : (backTo pos (starEach es X.env)).any (·.1) = false := by rfl) :
    PE X (.Call (.Name x p) (e :: es) [] pos) (tMake C sp dvs E t) := by
  intro pins s σ H Q I h
  refine wpAny_Call_Name_kw (ld_glob I hg hm ?_ hdb)
  refine PySem.W.callWith_K (h₀ := X.base) I.ok.mod.kin M.kp (thn (ha pos pins s σ H _ I h) fun us s1 ⟨vs, H1, I1, r, q⟩ => ⟨I1.kIn, ?_⟩) he hpl
  exact run_make M F hr hb hd hx I1 r q
end

section
variable {X : Cx} {CX : CXT} {k : Nat} {f C : Addr} {fd : FuncData} {ps ks : List Str} {sp : Sp} {E : XK} {x m : Str} {p pos apos kpos : Pos} {e o : Expr} {es : List Expr} {kws : List Keyword} {te ta : TE} {t tk : TA} {nm : Option Str}
variable {g : List Value → List Value → List Value} {gV : List V → List V → List V}
end

/-- names: the parameters first -/
structure FnScope (N P : List Str) (sc : Scope) : Prop where
  kind : sc.kind = .function
  co : sc.isCoroutine = false
  gen : sc.isGenerator = false
  nd : N.Nodup
  pre : N.take P.length = P
  par : ∀ x ∈ P, sc.names.lookup x = some .local ∨ sc.names.lookup x = some .cell
  nofree : ∀ y ∈ sc.names, y.2 ≠ .free

theorem bindL_out {kindOf : Str → Option NameKind} {x : Str} : ∀ {binds : List (Str × Value)} {m : Str → Option Value}, (∀ v, (x, v) ∉ binds) → bindL kindOf binds m x = m x
  | [], _, _ => rfl
  | (n, v) :: r, m, h => by
    unfold bindL
    rw [bindL_out fun w hw => h w (List.mem_cons_of_mem _ hw)]
    split
    · have : x ≠ n := by rintro rfl; exact h v List.mem_cons_self
      simp [this]
    · rfl
theorem bindC_out {kindOf : Str → Option NameKind} {x : Str} : ∀ {binds : List (Str × Value)} {m : Str → Option Value}, (∀ v, (x, v) ∉ binds) → bindC kindOf binds m x = m x
  | [], _, _ => rfl
  | (n, v) :: r, m, h => by
    unfold bindC
    rw [bindC_out fun w hw => h w (List.mem_cons_of_mem _ hw)]
    split
    · rfl
    · have : x ≠ n := by rintro rfl; exact h v List.mem_cons_self
      simp [this]
theorem bindL_get {kindOf : Str → Option NameKind} {x : Str} {v : Value} : ∀ {P : List Str} {vs : List Value} {i : Nat} {m : Str → Option Value}, P.Nodup → P[i]? = some x → vs[i]? = some v → kindOf x = some .local →
    bindL kindOf (P.zip vs) m x = some v
  | [], _, _, _, _, h, _, _ => by simp at h
  | _ :: _, [], _, _, _, _, h, _ => by simp at h
  | p :: P, w :: vs, 0, m, nd, h1, h2, hk => by
    simp at h1 h2; subst h1; subst h2
    show bindL kindOf ((p, w) :: P.zip vs) m p = _
    unfold bindL
    rw [bindL_out fun v hv => (List.nodup_cons.mp nd).1 (List.of_mem_zip hv).1, if_pos hk]
    simp
  | p :: P, w :: vs, i + 1, m, nd, h1, h2, hk => by
    show bindL kindOf ((p, w) :: P.zip vs) m x = _
    unfold bindL
    exact bindL_get (i := i) (List.nodup_cons.mp nd).2 (by simpa using h1) (by simpa using h2) hk
theorem bindC_get {kindOf : Str → Option NameKind} {x : Str} {v : Value} : ∀ {P : List Str} {vs : List Value} {i : Nat} {m : Str → Option Value}, P.Nodup → P[i]? = some x → vs[i]? = some v → kindOf x ≠ some .local →
    bindC kindOf (P.zip vs) m x = some v
  | [], _, _, _, _, h, _, _ => by simp at h
  | _ :: _, [], _, _, _, _, h, _ => by simp at h
  | p :: P, w :: vs, 0, m, nd, h1, h2, hk => by
    simp at h1 h2; subst h1; subst h2
    show bindC kindOf ((p, w) :: P.zip vs) m p = _
    unfold bindC
    rw [bindC_out fun v hv => (List.nodup_cons.mp nd).1 (List.of_mem_zip hv).1, if_neg hk]
    simp
  | p :: P, w :: vs, i + 1, m, nd, h1, h2, hk => by
    show bindC kindOf ((p, w) :: P.zip vs) m x = _
    unfold bindC
    exact bindC_get (i := i) (List.nodup_cons.mp nd).2 (by simpa using h1) (by simpa using h2) hk

/-- the names' values at the entry -/
def start (N : List Str) (vs : List V) : St := vs.map some ++ List.replicate (N.length - vs.length) none

/-- the context of a def's body, at its entry; an exception leaves the frame, then lies as CX says -/
def cxOf (CX : CXT) (P : Program) (w : World) (K : PySem.W.Frag) (mg : Str → Option Value) (base : Heap) (N : List Str) (qual : Str) (scope : Scope) (f : Addr) (cd : Value) (A : Around) (outer : List Env) (s : Shared) (H : Hp) (E : XK) : Cx where
  prog := P
  w := w
  K := K
  mg := mg
  base := base
  A := A.deeper (envOfC qual scope s.heap.objs.size f cd)
  N := N
  s₀ := s
  H₀ := H
  env := envOfC qual scope s.heap.objs.size f cd
  outer := outer
  stack := envOfC qual scope s.heap.objs.size f cd :: outer
  ex := []
  calm := true
  fn := fun _ => true
  pn := []
  xe := fun e s' => wpAny (model P w) (A.deeper (envOfC qual scope s.heap.objs.size f cd)) (leaving (envOfC qual scope s.heap.objs.size f cd) e) (fun _ s'' => CX outer H s E e s'') (fun e' s'' => CX outer H s E e' s'') s'

theorem cell_has {sc : Scope} {n : Nat} {x : Str} (h : sc.names.lookup x = some .cell) : ∃ c, (cellsFrom n sc.names []).lookup x = some c := by
  have q := PySem.W.cellsFrom_some sc.names n [] (.inl h)
  exact Option.isSome_iff_exists.mp q

theorem inv_start {CX : CXT} {P : Program} {w : World} {K : PySem.W.Frag} {mg : Str → Option Value} {base : Heap} {N ps : List Str} {qual : Str} {scope : Scope} {f : Addr} {cd : Value} {A : Around} {outer : List Env} {s s1 : Shared} {H : Hp} {E : XK} {us : List Value} {vs : List V}
    (S : FnScope N ps scope) (hd : A.handled = none) (e0 : Env0 P w K mg base A outer s H) (hl : vs.length = ps.length) (r : Vals vs us)
    (x : InCallC s s.heap.objs.size (bindL (envOfC qual scope s.heap.objs.size f cd).kindOf (ps.zip us) fun _ => none) (cellsFrom (s.heap.objs.size + 1) scope.names []) (bindC (envOfC qual scope s.heap.objs.size f cd).kindOf (ps.zip us) fun _ => none) s1) :
    Inv (cxOf CX P w K mg base N qual scope f cd A outer s H E) [] (start N vs) H s1 := by
  have hpl : ps.length ≤ N.length := by have := congrArg List.length S.pre; rw [List.length_take] at this; omega
  obtain ⟨h1, tk, rfl, hk⟩ := x.done
  have noA : ∀ b : Addr, b ∉ (cxOf CX P w K mg base N qual scope f cd A outer s H E).ex := fun b z => absurd (show b ∈ ([] : List Addr) from z) (by simp)
  refine ⟨⟨e0.mod, S.kind, rfl, rfl, Nat.le_refl _, fun y z c h1 h2 => ?_, fun y hy => ?_, fun y c _ h => ?_, fun _ => hd, Around.frames_deeper e0.frames, .inr ⟨rfl, rfl⟩, fun b z => absurd z (noA b), e0.bs, e0.bsz, fun b _ _ => noA b, fun b z => absurd z (noA b), e0.funs, e0.frf⟩,
    rfl, e0.bare, Un.kept hk, ⟨_, x.toInCall.ns, fun i y v h1 h2 h3 => ?_⟩, fun y c h => ⟨_, x.cell y c h⟩, e0.hok.fresh (Nat.le_refl _), fun y c h => ?_, fun p hp => absurd (show p ∈ ([] : List (Addr × Obj)) from hp) (by simp), e0.hok.kept hk, ?_⟩
  · exact name_of_addr x.apart (PySem.mem_of_lookup h1) (PySem.mem_of_lookup h2)
  · have hy : scope.names.lookup y = some .cell ∨ scope.names.lookup y = some .free := hy
    rcases hy with hy | hy
    · exact cell_has hy
    · exact absurd rfl (S.nofree _ (PySem.mem_of_lookup hy))
  · exact Nat.le_of_lt (x.above y c (PySem.mem_of_lookup h))
  · have hi : i < vs.length := by
      unfold start at h2
      by_cases hi : i < vs.length
      · exact hi
      · rw [List.getElem?_append_right (by simpa using hi)] at h2
        rw [List.getElem?_replicate] at h2
        split at h2 <;> cases h2
    have ha : vs[i]? = some v := by
      unfold start at h2
      rw [List.getElem?_append_left (by simpa using hi), List.getElem?_map] at h2
      cases e : vs[i]? with
      | none => rw [e] at h2; cases h2
      | some a => rw [e] at h2; cases h2; rfl
    obtain ⟨u, hu, rv⟩ := r.get ha
    have hp : ps[i]? = some y := by
      rw [← S.pre, List.getElem?_take_of_lt (by omega)]; exact h1
    have ndP : ps.Nodup := by rw [← S.pre]; exact S.nd.sublist (List.take_sublist _ _)
    refine ⟨u, rv, ?_⟩
    rcases S.par y (List.mem_of_getElem? hp) with k | k
    · exact .inl ⟨k, bindL_get ndP hp hu k⟩
    · obtain ⟨c, e⟩ := cell_has (n := s.heap.objs.size + 1) k
      refine .inr ⟨.inl k, c, e, ?_⟩
      have q := x.cell y c e
      rw [bindC_get ndP hp hu (by show scope.names.lookup y ≠ _; rw [k]; decide)] at q
      exact q
  · exact e0.hok.fresh (Nat.le_of_lt (x.above y c (PySem.mem_of_lookup h)))
  · unfold start
    show _ = N.length
    rw [List.length_append, List.length_map, List.length_replicate]
    omega

/-- THE RULE: a def (or a method) of the text, by its body. The body's reading t is chosen for each entry; it is run at the parameters' values -/
theorem fn_of {CX : CXT} {P : Program} {w : World} {K : PySem.W.Frag} {mg : Str → Option Value} {base : Heap} {k : Nat} {f : Addr} {name qual : Str} {params : Arguments} {body : List Stmt} {scope : Scope} {dV kV doc pm cdv ct oc : Value} {an od : Option Addr}
    {osl : Array (Option Value)} {N ps : List Str} {sp : Sp} (lk : K.lookup f = some ⟨oc, od, .func (PySem.W.fnOf name qual params body scope dV kV doc pm an cdv ct), osl⟩) (hcd : PySem.W.codeIn K cdv qual = true) (S : FnScope N ps scope)
    (len : ∀ vs H Q E, sp vs H Q E → vs.length = ps.length)
    (hbody : ∀ (A : Around) (outer : List Env) (s : Shared) (H : Hp) (vs : List V) (Q : VK) (E : XK), Room k (A.deeper (envOfC qual scope s.heap.objs.size f cdv)) → sp vs H Q E →
      ∃ t, PSs (cxOf CX P w K mg base N qual scope f cdv A outer s H E) body t ∧ t { nx := fun _ H' => Q .non H', rt := Q } (start N vs) H) :
    FnOk P w K mg base CX (k + 1) f (PySem.W.fnOf name qual params body scope dV kV doc pm an cdv ct) ps sp := by
  refine ⟨len, fun A outer s H args us vs Q E hr e0 hb r hsp => ?_⟩
  have hl := len _ _ _ _ hsp
  have KX : K.In s.heap := e0.mod.kin.keeps fun b o e => (e0.bs b o e).1
  have lim : s.heap.NoLimit := e0.mod.nolimit.keeps fun b o e => (e0.bs b o e).1
  have hkind : ∀ y ∈ ps.zip us, scope.names.lookup y.1 = some .local ∨ (scope.names.lookup y.1 = some .cell ∧ ((cellsFrom (s.heap.objs.size + 1) scope.names []).lookup y.1).isSome = true) := fun ⟨n, v⟩ hy => by
    rcases S.par n (List.of_mem_zip hy).1 with q | q
    · exact .inl q
    · exact .inr ⟨q, PySem.W.cellsFrom_some _ _ _ (.inl q)⟩
  refine codeAny_call_function hr.depth (KX _ _ lk) rfl S.co S.gen rfl (PySem.W.codeRec_of KX hcd) (hb _ _ _ _ ?_)
  refine wpAny_newFunctionEnv_cells S.kind hkind fun env he s1 x => ?_
  subst he
  refine ⟨lim.keeps x.toInCall.keep, codeAny_func ?_⟩
  obtain ⟨t, ht, hq⟩ := hbody A outer s H vs Q E (hr.deeper _) hsp
  have I : Inv (cxOf CX P w K mg base N qual scope f cdv A outer s H E) [] (start N vs) H s1 := inv_start S hr.hd e0 hl r x
  refine wpAny_mono (ht [] s1 (start N vs) H _ I hq) (fun fl s' hs => ?_) fun e s' hs => hs
  have fin : ∀ {σ' : St} {H' : Hp} {v : V} {u : Value}, Inv (cxOf CX P w K mg base N qual scope f cdv A outer s H E) [] σ' H' s' → RelV v u → Q v H' → CE outer P w H s Q u s' :=
    fun {σ' H' v u} J rv q => ⟨v, H', J.os, J.bare, J.base, J.hok, rv, q⟩
  cases fl with
  | ret u =>
    obtain ⟨v, σ', H', J, rv, q⟩ := hs
    exact fin J rv q
  | next =>
    obtain ⟨σ', H', J, q⟩ := hs
    exact fin (v := V.non) (u := Value.none) J rfl q
  | brk =>
    obtain ⟨_, _, _, q⟩ := hs
    exact False.elim q
  | cont =>
    obtain ⟨_, _, _, q⟩ := hs
    exact False.elim q
end L2

namespace L2
open PySem PySem.Spec PyProof.Rows
section
variable {X : Cx} {x : Str} {p pos : Pos} {e : Expr} {es : List Expr} {t : TA} {id T : String} {r : List V → Hp → VK → Prop}

def tCB (r : List V → Hp → VK → Prop) (t : TA) : TE := fun σ H Q => t σ H fun vs H1 => r vs H1 Q
/-- f(e, ..), f a built-in function -/
theorem pe_callB (hc : CallR X (.builtin id) r) (hg : Gl X x) (hm : X.mg x = none) (hv : bootBuiltins x = some (.builtin id)) (ha : PA X (e :: es) t) (hn : x ≠ "__name__" := by decide) (hdb : (x == ("__debug__" : Str)) = false := by decide)
    (he : starEach (e :: es) X.env = (false, eval e X.env) :: starEach es X.env := by rfl) (hpl : (backTo pos (starEach es X.env)).any (·.1) = false := by rfl) : PE X (.Call (.Name x p) (e :: es) [] pos) (tCB r t) := by
  intro pins s σ H Q I h
  refine wpAny_Call_Name_kw (ld_blt I hg hm hv ?_ hn hdb)
  exact PyProof.Rows.callWith_builtin1 (thn (ha pos pins s σ H _ I h) fun us s1 ⟨vs, H1, I1, r1, q1⟩ => hc pins s1 σ H1 vs us Q I1 r1 q1) he hpl
/-- T(e, ..), T a built-in type -/
theorem pe_callTy (hc : CallR X (.type T) r) (hg : Gl X x) (hm : X.mg x = none) (hv : bootBuiltins x = some (.type T)) (ha : PA X (e :: es) t) (hn : x ≠ "__name__" := by decide) (hdb : (x == ("__debug__" : Str)) = false := by decide)
    (he : starEach (e :: es) X.env = (false, eval e X.env) :: starEach es X.env := by rfl) (hpl : (backTo pos (starEach es X.env)).any (·.1) = false := by rfl) : PE X (.Call (.Name x p) (e :: es) [] pos) (tCB r t) := by
  intro pins s σ H Q I h
  refine wpAny_Call_Name_kw (ld_blt I hg hm hv ?_ hn hdb)
  exact PyProof.Rows.callWith_type1 (thn (ha pos pins s σ H _ I h) fun us s1 ⟨vs, H1, I1, r1, q1⟩ => hc pins s1 σ H1 vs us Q I1 r1 q1) he hpl
end
end L2

namespace HT
open PySem PyProof.Rows

section
open PySem.SeqAt
open PySem.AutoSeq1 (wpAny_loadPart')
open PySem.MeetsSeq PySem.MeetsSeq2 PySem.MeetsSeq3

end

section
variable {prog : Program} {w : World} {A : Around} {E : Value → Shared → Prop} {s : Shared}

/-- a slice's bound as a place among n (d where it is left out) -/
def sIx (n d : Nat) : Option Int → Nat
  | none => d
  | some v => if v < 0 then (v + (n : Int)).toNat else min v.toNat n
end
end HT

namespace L2
open PySem PySem.Spec PyProof.Rows

abbrev TO := St → Hp → (Option Int → Hp → Prop) → Prop
/-- a slice's part (left out, or an int) -/
def PO (X : Cx) (e : Option Expr) (t : TO) : Prop :=
  ∀ (pins : List (Addr × Obj)) (s : Shared) (σ : St) (H : Hp) (Q : Option Int → Hp → Prop), Inv X pins σ H s → t σ H Q →
    wpAny (model X.prog X.w) X.A (evalPart e X.env) (fun u s' => ∃ o H', Inv X pins σ H' s' ∧ IsPart u o ∧ Q o H') X.xe s
def tNoPart : TO := fun _ H Q => Q none H
def tPart (t : TE) : TO := fun σ H Q => t σ H fun x H1 => ∃ i, x = .int i ∧ Q (some i) H1

theorem intsAre_of {ns : List Int} : ∀ {us : List Value}, Vals (ns.map V.int) us → IntsAre us ns := by
  induction ns with
  | nil => intro us r; rw [List.map_nil] at r; cases r; exact .nil
  | cons n ns ih =>
    intro us r
    rw [List.map_cons] at r
    cases r with
    | cons r1 r2 =>
      obtain ⟨t, e⟩ := r1
      subst e
      exact .cons n t (ih r2)

section
variable {X : Cx} {e : Expr} {te : TE} {lo hi : Option Expr} {tl th : TO} {pos p2 : Pos}

theorem po_none : PO X none tNoPart := by
  intro pins s σ H Q I h
  rw [evalPart_none]
  exact wpAny_pure ⟨none, H, I, .none, h⟩
theorem po_some (h : PE X e te) : PO X (some e) (tPart te) := by
  intro pins s σ H Q I hw
  rw [evalPart_some]
  refine thn (h pins s σ H _ I hw) fun u s1 ⟨x, H1, I1, r1, q1⟩ => ?_
  obtain ⟨i, rfl, q⟩ := q1
  obtain ⟨t, rfl⟩ := r1
  exact ⟨some i, H1, I1, .int i t, q⟩

/-- what a slice of a value is, by values: the slice object stands at sl -/
def SlR (X : Cx) (r : V → Option Int → Option Int → Hp → VK → Prop) : Prop :=
  ∀ (pins : List (Addr × Obj)) (s : Shared) (σ : St) (H : Hp) (x : V) (v vl vu : Value) (lo hi : Option Int) (sl : Addr) (Q : VK), Inv X pins σ H s → RelV x v → s.heap.IsSliceOf sl vl vu .none → IsPart vl lo → IsPart vu hi → r x lo hi H Q →
    ∃ T id, typeLookup (.type T) "__getitem__" = pure (some (.builtin id)) ∧ s.TypeIs v T ∧ wpAny (model X.prog X.w) X.A (getItem v (.ref sl)) (EP X pins σ Q) X.xe s
def tSl (r : V → Option Int → Option Int → Hp → VK → Prop) (te : TE) (tl th : TO) : TE := fun σ H Q => te σ H fun x H1 => tl σ H1 fun l H2 => th σ H2 fun u H3 => r x l u H3 Q
/-- a[lo:hi], any a -/
theorem pe_slice {r : V → Option Int → Option Int → Hp → VK → Prop} (hr : SlR X r) (he : PE X e te) (hl : PO X lo tl) (hu : PO X hi th) : PE X (.Subscript e (.Slice lo hi none p2) pos) (tSl r te tl th) := by
  intro pins s σ H Q I h
  refine Subscript_ (thn (he pins s σ H _ I h) fun v s1 ⟨x, H1, I1, r1, q1⟩ => ?_)
  refine wpAny_Slice (thn (hl pins s1 σ H1 _ I1 q1) fun vl s2 ⟨l, H2, I2, pl, q2⟩ => thn (hu pins s2 σ H2 _ I2 q2) fun vu s3 ⟨u, H3, I3, pu, q3⟩ => ?_)
  rw [evalPart_none]
  refine wpAny_pure ?_
  have I4 : Inv X pins σ H3 { s3 with heap := s3.heap.push { cls := .type "slice", data := .fields #[vl, vu, .none] } } := I3.kept (t' := s3.toks) fun b ob q => Heap.get?_push_of_some _ q
  obtain ⟨T, id, hT, ht, hg⟩ := hr pins { s3 with heap := s3.heap.push { cls := .type "slice", data := .fields #[vl, vu, .none] } } σ H3 x v vl vu l u s3.heap.objs.size Q I4 r1 (Heap.IsSliceOf.new ..) pl pu q3
  show wpAny (model X.prog X.w) X.A (subscriptTail e (.Slice lo hi none p2) v (.ref s3.heap.objs.size)) (EP X pins σ Q) X.xe { s3 with heap := s3.heap.push { cls := .type "slice", data := .fields #[vl, vu, .none] } }
  exact tail_any (ops := [.ref s3.heap.objs.size, v]) ht hT hg (by with_unfolding_all rfl)

/-- the items of xs[lo:hi] -/
def cutV (xs : List V) (lo hi : Option Int) : List V := (xs.drop (HT.sIx xs.length 0 lo)).take (HT.sIx xs.length xs.length hi - HT.sIx xs.length 0 lo)
theorem cutV_length (xs : List V) (lo hi : Option Int) : (cutV xs lo hi).length ≤ xs.length := by
  unfold cutV
  rw [List.length_take, List.length_drop]
  omega
end
end L2

namespace L2
open PySem PySem.Spec PyProof.Rows

/-- the place that an index of any sign means -/
def ixN (n : Nat) (i : Int) : Option Nat := if 0 ≤ i then (if i < n then some i.toNat else none) else if -(n : Int) ≤ i then some (i + n).toNat else none
def atI {α : Type} (xs : List α) (i : Int) : Option α := (ixN xs.length i).bind fun j => xs[j]?
theorem ixN_seq {n : Nat} {i : Int} {j : Nat} (h : ixN n i = some j) : seqIndex? i n = some j ∧ j < n ∧ -(n : Int) ≤ i ∧ i < n := by
  unfold ixN at h
  by_cases h0 : 0 ≤ i
  · rw [if_pos h0] at h
    by_cases h1 : i < n
    · rw [if_pos h1] at h
      have e : i.toNat = j := Option.some.inj h
      exact ⟨by rw [seqIndex_of h0 h1, e], by omega, by omega, h1⟩
    · rw [if_neg h1] at h; cases h
  · rw [if_neg h0] at h
    by_cases h1 : -(n : Int) ≤ i
    · rw [if_pos h1] at h
      have e : (i + n).toNat = j := Option.some.inj h
      exact ⟨by rw [seqIndex_neg (by omega) h1, e], by omega, h1, by omega⟩
    · rw [if_neg h1] at h; cases h
theorem atI_get {α : Type} {xs : List α} {i : Int} {v : α} (h : atI xs i = some v) : ∃ j, seqIndex? i xs.length = some j ∧ xs[j]? = some v ∧ j < xs.length ∧ -(xs.length : Int) ≤ i ∧ i < xs.length := by
  unfold atI at h
  cases e : ixN xs.length i with
  | none => rw [e] at h; cases h
  | some j =>
    rw [e] at h
    obtain ⟨h1, h2, h3, h4⟩ := ixN_seq e
    exact ⟨j, h1, h, h2, h3, h4⟩
theorem atI_nat {α : Type} {xs : List α} {j : Nat} {v : α} (h : xs[j]? = some v) : atI xs (j : Int) = some v := by
  have hj : j < xs.length := (List.getElem?_eq_some_iff.mp h).1
  have e : ixN xs.length (j : Int) = some j := by
    unfold ixN
    rw [if_pos (by omega), if_pos (by omega)]; simp
  unfold atI; rw [e]; exact h
/-- what stands as an index of a plain subscript -/
def PlainIx (b : Expr) : Prop := ∀ o i, subscripted b false o i = operate [o, i] (getItem o i)
/-- a subscript by values -/
def IxR (X : Cx) (r : R2) : Prop :=
  ∀ (value slice : Expr) (pins : List (Addr × Obj)) (s : Shared) (σ : St) (H : Hp) (x y : V) (v u : Value) (Q : VK), Inv X pins σ H s → RelV x v → RelV y u → r x y H Q →
    subscripted slice false v u = operate [v, u] (getItem v u) → wpAny (model X.prog X.w) X.A (subscriptTail value slice v u) (EP X pins σ Q) X.xe s
/-- a call of a builtin's method by values: the receiver, the arguments -/
def MtR (X : Cx) (id : String) (r : V → List V → Hp → VK → Prop) : Prop :=
  ∀ (pins : List (Addr × Obj)) (s : Shared) (σ : St) (H : Hp) (x : V) (xs : List V) (v : Value) (us : List Value) (Q : VK), Inv X pins σ H s → RelV x v → Vals xs us → r x xs H Q →
    wpAny (model X.prog X.w) X.A (call (.builtin id) (v :: us)) (EP X pins σ Q) X.xe s
section
variable {X : Cx} {a b : Expr} {ta tb : TE} {pos : Pos}
/-- a[b] -/
theorem pe_ix {r : R2} (hr : IxR X r) (ha : PE X a ta) (hb : PE X b tb) (hs : PlainIx b) : PE X (.Subscript a b pos) (tOp r ta tb) := by
  intro pins s σ H Q I h
  exact Subscript_ (binT ha hb I h fun v u s2 x y H2 I2 rx ry q => hr a b pins s2 σ H2 x y v u Q I2 rx ry q (hs _ _))

def rIxL (K : PySem.W.Frag) : R2 := fun x y H Q => ∃ p xs i v, x = .ref p ∧ y = .int i ∧ SqL K H p xs ∧ atI xs i = some v ∧ Q v H
theorem ix_list : IxR X (rIxL X.K) := by
  intro value slice pins s σ H x y v u Q I rx ry h hs
  obtain ⟨p, xs, i, z, rfl, rfl, hq, he, q⟩ := h
  cases rx
  obtain ⟨t, rfl⟩ := ry
  obtain ⟨its, r, pl, hz⟩ := I.list hq
  obtain ⟨j, h1, h2, h3, h4, h5⟩ := atI_get he
  obtain ⟨w, ew, rw'⟩ := r.get h2
  have hl := r.length
  have hn := line63
  have fin : EP X pins σ Q w s := ⟨z, H, I, rw', q⟩
  by_cases h0 : 0 ≤ i
  · have hj : i.toNat = j := by
      rw [seqIndex_of h0 h5] at h1
      exact Option.some.inj h1
    exact item_listR pl.isList h0 (by omega) (by rw [hj]; simpa using ew) fin hs
  · have hj : (i + (its.toArray.size : Int)).toNat = j := by
      rw [seqIndex_neg (by omega) h4] at h1
      rw [List.size_toArray, ← hl]
      exact Option.some.inj h1
    exact subscriptTail_builtinR (x := w) pl.isList.typeIs slot_list_getitem.lookup
      (wpAny_getItem_list_neg (Q := fun r s' => r = w ∧ EP X pins σ Q r s') pl.isList (by omega) (by rw [List.size_toArray] <;> omega) (by omega) (by rw [hj]; simpa using ew) ⟨rfl, fin⟩) hs
/-- the list's object behind a store -/
theorem mapSeq_set (its : List Value) (n j : Nat) (u : Value) : Obj.mapSeq (·.setIfInBounds j u) { cls := .type "list", data := .seq its.toArray n } = { cls := .type "list", data := .seq (its.set j u).toArray n } := by
  simp [Obj.mapSeq]
theorem Inv.lst {pins : List (Addr × Obj)} {σ : St} {H : Hp} {s : Shared} {p : Addr} {xs : List V} (I : Inv X pins σ H s) (h : H p = some (.lst xs)) :
    ∃ (its : List Value) (n : Nat), Vals xs its ∧ s.heap.get? p = some { cls := .type "list", data := .seq its.toArray n } ∧ xs.length ≤ sizeLine := by
  obtain ⟨z, its, n, r, e⟩ := I.hok p _ h
  exact ⟨its, n, r, e, z⟩
/-- the list at p is written by an update of its object -/
theorem Inv.lstUpd {pins : List (Addr × Obj)} {σ : St} {H : Hp} {s : Shared} {p : Addr} {xs ys : List V} {its its' : List Value} {n n' : Nat} {f : Obj → Obj} (I : Inv X pins σ H s) (h : H p = some (.lst xs))
    (ho : s.heap.get? p = some { cls := .type "list", data := .seq its.toArray n }) (hf : f { cls := .type "list", data := .seq its.toArray n } = { cls := .type "list", data := .seq its'.toArray n' }) (r : Vals ys its') (hz : ys.length ≤ sizeLine) (t : Nat) :
    Inv X pins σ (upd H p (.lst ys)) { s with heap := s.heap.update p f, toks := t } := by
  have e : (s.heap.update p f).get? p = some { cls := .type "list", data := .seq its'.toArray n' } := by
    rw [Heap.get?_update_self f ho (by rw [hf] <;> rfl), hf]
  refine I.write (x := p) (e := p) (by rw [h]; trivial) (.inl rfl) (fun b u hb q => (Heap.get?_update_other _ _ (Ne.symm hb)).trans q) ⟨_, e⟩ ?_
  exact ⟨hz, its', n', r, e⟩
def rSetL : V → V → V → Hp → (Hp → Prop) → Prop := fun o i v H Q => ∃ p xs k j, o = .ref p ∧ i = .int k ∧ H p = some (.lst xs) ∧ ixN xs.length k = some j ∧ Q (upd H p (.lst (xs.set j v)))
theorem set_list : PSet X rSetL := by
  intro pins s σ H o i v ov iv u Q I ro ri rv h
  obtain ⟨p, xs, k, j, rfl, rfl, hp, hj, q⟩ := h
  cases ro
  obtain ⟨t, rfl⟩ := ri
  obtain ⟨its, n, r, ho, hz⟩ := I.lst hp
  obtain ⟨h1, h2, h3, h4⟩ := ixN_seq hj
  have hl := r.length
  have hn := line63
  have I' : Inv X pins σ (upd H p (.lst (xs.set j v))) { s with heap := s.heap.update p (Obj.mapSeq (·.setIfInBounds j u)) } :=
    I.lstUpd hp ho (mapSeq_set its n j u) (r.set rv j) (by rw [List.length_set]; exact hz) s.toks
  by_cases h0 : 0 ≤ k
  · have hk : k.toNat = j := by
      rw [seqIndex_of h0 h4] at h1
      exact Option.some.inj h1
    exact PySem.W.ki_setAt ho h0 (by omega) (by rw [List.size_toArray, ← hl]; exact h4) (by rw [hk]; exact ⟨_, I', q⟩)
  · have hk : (k + (its.toArray.size : Int)).toNat = j := by
      rw [seqIndex_neg (by omega) h3] at h1
      rw [List.size_toArray, ← hl]
      exact Option.some.inj h1
    exact PySem.W.ki_setBack ho (by omega) (by rw [List.size_toArray, ← hl]; exact h3) (by omega) (by rw [hk]; exact ⟨_, I', q⟩)

theorem slice_bounds (lo hi : Option Int) (n : Nat) : (sliceBounds lo hi none n).1 = ((HT.sIx n 0 lo : Nat) : Int) ∧ (sliceBounds lo hi none n).2.1 = ((HT.sIx n n hi : Nat) : Int) ∧ (sliceBounds lo hi none n).2.2 = 1 := by
  refine ⟨?_, ?_, rfl⟩
  · cases lo with
    | none => simp [sliceBounds, HT.sIx]
    | some i =>
      simp only [sliceBounds, HT.sIx, Option.getD_none, show (1 : Int) > 0 by decide, if_true]
      by_cases h : i < 0
      · simp only [h, if_true] <;> omega
      · simp only [h, if_false] <;> omega
  · cases hi with
    | none => simp [sliceBounds, HT.sIx]
    | some i =>
      simp only [sliceBounds, HT.sIx, Option.getD_none, show (1 : Int) > 0 by decide, if_true]
      by_cases h : i < 0
      · simp only [h, if_true] <;> omega
      · simp only [h, if_false] <;> omega
theorem slicePick_cut (its : List Value) (lo hi : Option Int) : slicePick its.toArray lo hi none = ((its.drop (HT.sIx its.length 0 lo)).take (HT.sIx its.length its.length hi - HT.sIx its.length 0 lo)).toArray := by
  obtain ⟨h1, h2, h3⟩ := slice_bounds lo hi its.toArray.size
  unfold slicePick
  rw [h1, h2, h3]
  simp only [sliceRange_one, pick_run, List.size_toArray] <;> rfl
/-- xs[lo:hi] of a list: a new list -/
def rSlL (K : PySem.W.Frag) : V → Option Int → Option Int → Hp → VK → Prop := fun x lo hi H Q => ∃ a xs, x = .ref a ∧ SqL K H a xs ∧ ∀ p, H p = none → Q (.ref p) (upd H p (.lst (cutV xs lo hi)))
theorem sl_list : SlR X (rSlL X.K) := by
  intro pins s σ H x v vl vu lo hi sl Q I rx hs pl pu h
  obtain ⟨a, xs, rfl, hx, q⟩ := h
  cases rx
  obtain ⟨its, r, ht, hz⟩ := I.list hx
  have hlen := r.length
  refine ⟨"list", _, slot_list_getitem.lookup, ht.isList.typeIs, ?_⟩
  refine wpAny_getItem_list_slice ht.isList hs pl pu .none (by simp) ?_ (by rw [List.size_toArray] <;> omega)
  rw [slicePick_cut, ← hlen]
  refine ⟨.ref s.heap.objs.size, _, I.laid (t' := s.toks) (o := .lst (cutV xs lo hi)) (fun b ob q => Heap.get?_push_of_some _ q) (Nat.le_refl _) ?_, rfl, q _ (I.hok.fresh (Nat.le_refl _))⟩
  exact ⟨Nat.le_trans (cutV_length xs lo hi) hz, _, 0, (r.drop (HT.sIx xs.length 0 lo)).take (HT.sIx xs.length xs.length hi - HT.sIx xs.length 0 lo), Heap.get?_push_size _ rfl⟩

def flatV : V → Bool
  | .non => true
  | .bl _ => true
  | .int _ => true
  | .str _ => true
  | _ => false
/-- == of flat values -/
def eqV : V → V → Bool
  | .non, .non => true
  | .bl a, .bl b => a == b
  | .bl a, .int b => (if a then 1 else 0) == b
  | .int a, .bl b => a == (if b then 1 else 0)
  | .int a, .int b => a == b
  | .str a, .str b => a == b
  | _, _ => false
theorem eqAt_V {A : Around} {s : Shared} {y x : V} {u v : Value} (ry : RelV y u) (rx : RelV x v) (fy : flatV y = true) (fx : flatV x = true) : SeqAt.EqAt A s u v (eqV y x) := by
  cases y with
  | non =>
    cases ry
    cases x with
    | non => cases rx; exact SeqAt.EqAt.same _
    | bl b => cases rx; exact SeqAt.EqAt.none_bool b
    | int b => obtain ⟨t, rfl⟩ := rx; exact SeqAt.EqAt.none_int b t
    | str b => obtain ⟨t, rfl⟩ := rx; exact SeqAt.EqAt.none_str b t
    | _ => exact absurd (show false = true from fx) Bool.false_ne_true
  | bl a =>
    cases ry
    cases x with
    | non => cases rx; exact SeqAt.EqAt.bool_none a
    | bl b => cases rx; exact SeqAt.EqAt.bool_bool a b
    | int b => obtain ⟨t, rfl⟩ := rx; exact SeqAt.EqAt.bool_int a b t
    | str b => obtain ⟨t, rfl⟩ := rx; exact SeqAt.EqAt.bool_str a b t
    | _ => exact absurd (show false = true from fx) Bool.false_ne_true
  | int a =>
    obtain ⟨t', rfl⟩ := ry
    cases x with
    | non => cases rx; exact SeqAt.EqAt.int_none a t'
    | bl b => cases rx; exact SeqAt.EqAt.int_bool a t' b
    | int b => obtain ⟨t, rfl⟩ := rx; exact SeqAt.EqAt.int_int a t' b t
    | str b => obtain ⟨t, rfl⟩ := rx; exact SeqAt.EqAt.int_str a t' b t
    | _ => exact absurd (show false = true from fx) Bool.false_ne_true
  | str a =>
    obtain ⟨t', rfl⟩ := ry
    cases x with
    | non => cases rx; exact SeqAt.EqAt.str_none a t'
    | bl b => cases rx; exact SeqAt.EqAt.str_bool a t' b
    | int b => obtain ⟨t, rfl⟩ := rx; exact SeqAt.EqAt.str_int a t' b t
    | str b => obtain ⟨t, rfl⟩ := rx; exact SeqAt.EqAt.str_str a t' b t
    | _ => exact absurd (show false = true from fx) Bool.false_ne_true
  | _ => exact absurd (show false = true from fy) Bool.false_ne_true
/-- the items' answers, read off the values (a value's own answer does not lean on its token) -/
def eqU (x : V) (u : Value) : Bool := match u with
  | .none => eqV .non x
  | .bool b => eqV (.bl b) x
  | .int i _ => eqV (.int i) x
  | .str z _ => eqV (.str z) x
  | _ => false
theorem eqU_of {x y : V} {u : Value} (r : RelV y u) (f : flatV y = true) : eqU x u = eqV y x := by
  cases y with
  | non => cases r; rfl
  | bl b => cases r; rfl
  | int i => obtain ⟨t, rfl⟩ := r; rfl
  | str z => obtain ⟨t, rfl⟩ := r; rfl
  | _ => exact absurd (show false = true from f) Bool.false_ne_true
theorem any_eqU {x : V} : ∀ {xs : List V} {us : List Value}, Vals xs us → xs.all flatV = true → us.any (eqU x) = xs.any fun y => eqV y x
  | _, _, .nil, _ => rfl
  | y :: xs, u :: us, .cons r t, f => by
    rw [List.all_cons, Bool.and_eq_true] at f
    rw [List.any_cons, List.any_cons, eqU_of r f.1, any_eqU t f.2]
theorem mem_eqAt {A : Around} {s : Shared} {x : V} {v : Value} (rx : RelV x v) (fx : flatV x = true) : ∀ {xs : List V} {us : List Value}, Vals xs us → xs.all flatV = true → ∀ u ∈ us, SeqAt.EqAt A s u v (eqU x u)
  | _, _, .nil, _ => fun u hu => by cases hu
  | y :: xs, u :: us, .cons r t, f => fun u' hu => by
    rw [List.all_cons, Bool.and_eq_true] at f
    rcases List.mem_cons.mp hu with rfl | hu
    · rw [eqU_of r f.1]; exact eqAt_V r rx f.1 fx
    · exact mem_eqAt rx fx t f.2 u' hu
def inV (x : V) (xs : List V) : Bool := xs.any fun y => eqV y x
/-- x in a list or tuple of flat items -/
def rIn (K : PySem.W.Frag) (neg : Bool) : R2 := fun x y H Q => ∃ p xs, y = .ref p ∧ (SqL K H p xs ∨ SqT K H p xs) ∧ flatV x = true ∧ xs.all flatV = true ∧ Q (.bl (if neg then !inV x xs else inV x xs)) H
theorem op_notIn_seq : OpR X (compareOp .NotIn) (rIn X.K true) := by
  intro pins s σ H x y v u Q I rx ry h
  obtain ⟨p, xs, rfl, hq, fx, fs, q⟩ := h
  cases ry
  rcases hq with hq | hq
  · obtain ⟨its, r, pl, hz⟩ := I.list hq
    refine SeqAt.notIn_listAt (eqU x) pl.isList (fun w hw => mem_eqAt rx fx r fs w (by simpa using hw)) ⟨.bl _, H, I, rfl, ?_⟩
    rw [show its.toArray.any (eqU x) = its.any (eqU x) by simp, any_eqU r fs]
    exact q
  · obtain ⟨its, r, pl, hz⟩ := I.tuple hq
    refine SeqAt.notIn_tupleAt (eqU x) pl (fun w hw => mem_eqAt rx fx r fs w (by simpa using hw)) ⟨.bl _, H, I, rfl, ?_⟩
    rw [show its.toArray.any (eqU x) = its.any (eqU x) by simp, any_eqU r fs]
    exact q
theorem call_len_seq : CallR X (.builtin "len") (fun xs H Q => ∃ p ys, xs = [.ref p] ∧ (SqL X.K H p ys ∨ SqT X.K H p ys) ∧ Q (.int ys.length) H) := by
  intro pins s σ H xs us Q I r h
  obtain ⟨p, ys, rfl, hq, q⟩ := h
  obtain ⟨u, rfl, rx⟩ := vals1 r
  cases rx
  have hn := line63
  rcases hq with hq | hq
  · obtain ⟨its, r', pl, hz⟩ := I.list hq
    have hlen := r'.length
    exact Calls.call_len_list pl.isList (by simp only [List.size_toArray] <;> omega) ⟨.int ys.length, H, I.tok _, ⟨s.toks + 1, by rw [List.size_toArray, hlen]⟩, q⟩
  · obtain ⟨its, r', pl, hz⟩ := I.tuple hq
    have hlen := r'.length
    exact len_tuple pl (by simp only [List.size_toArray] <;> omega) ⟨.int ys.length, H, I.tok _, ⟨s.toks + 1, by rw [List.size_toArray, hlen]⟩, q⟩
theorem call_list_of : CallR X (.type "list") (fun xs H Q => ∃ p ys, xs = [.ref p] ∧ (SqL X.K H p ys ∨ SqT X.K H p ys) ∧ ∀ l, H l = none → Q (.ref l) (upd H l (.lst ys))) := by
  intro pins s σ H xs us Q I r h
  obtain ⟨p, ys, rfl, hq, q⟩ := h
  obtain ⟨u, rfl, rx⟩ := vals1 r
  cases rx
  have fin : ∀ (its : List Value), Vals ys its → ys.length ≤ sizeLine → ∀ (h' : Heap) (c' : Nat), (∀ b o', s.heap.get? b = some o' → h'.get? b = some o') →
      h'.get? s.heap.objs.size = some { cls := .type "list", dict := none, data := .seq its.toArray c', slots := #[] } → EP X pins σ Q (.ref s.heap.objs.size) { s with heap := h' } := fun its r' hz h' c' kp e =>
    ⟨.ref s.heap.objs.size, _, I.laid (t' := s.toks) kp (Nat.le_refl _) (show ObjOk X.prog X.w _ h' _ (.lst ys) from ⟨hz, its, c', r', e⟩), rfl, q _ (I.hok.fresh (Nat.le_refl _))⟩
  rcases hq with hq | hq
  · obtain ⟨its, r', pl, hz⟩ := I.list hq
    have hlen := r'.length
    obtain ⟨o, ho, hc, n, hd⟩ := pl.isList
    exact call_list_seq p (.inl rfl) ho hc hd (fun h' c' kp e => fin its r' hz h' c' kp e) (by simp only [List.size_toArray] <;> omega)
  · obtain ⟨its, r', pl, hz⟩ := I.tuple hq
    have hlen := r'.length
    obtain ⟨o, ho, hc, n, hd⟩ := pl
    exact call_list_seq p (.inr rfl) ho hc hd (fun h' c' kp e => fin its r' hz h' c' kp e) (by simp only [List.size_toArray] <;> omega)
/-- the value is of that builtin type -/
def tyV (K : PySem.W.Frag) (T : String) (x : V) (H : Hp) : Prop := match x with
  | .str _ => T = "str"
  | .int _ => T = "int"
  | .ref p => (T = "list" ∧ ∃ xs, SqL K H p xs) ∨ (T = "tuple" ∧ ∃ o, K.lookup p = some o ∧ o.cls = .type "tuple" ∧ o.dict = none) ∨
      (T = "dict" ∧ ((∃ kvs, H p = some (.dK kvs)) ∨ ∃ kvs, H p = some (.dT kvs))) ∨ (T = "set" ∧ ∃ S n, H p = some (.set S n))
  | _ => False
theorem tyV_is {pins : List (Addr × Obj)} {σ : St} {H : Hp} {s : Shared} {T : String} {x : V} {v : Value} (I : Inv X pins σ H s) (r : RelV x v) (ty : tyV X.K T x H) :
    s.TypeIs v T ∧ ∀ a, v = .ref a → ∃ ob, s.heap.get? a = some ob ∧ ob.dict = none := by
  cases x with
  | str z =>
    obtain ⟨t, rfl⟩ := r
    cases (show T = "str" from ty)
    exact ⟨typeIs_str s z t, fun _ e => nomatch e⟩
  | int i =>
    obtain ⟨t, rfl⟩ := r
    cases (show T = "int" from ty)
    exact ⟨typeIs_int s i t, fun _ e => nomatch e⟩
  | ref p =>
    cases r
    rcases ty with ⟨rfl, xs, hq⟩ | ⟨rfl, o, hk, hc, hd⟩ | ⟨rfl, hk⟩ | ⟨rfl, S, n, hk⟩
    · obtain ⟨its, _, pl, _⟩ := I.list hq
      refine ⟨pl.isList.typeIs, fun a e => ?_⟩
      cases e
      obtain ⟨o, n, e, c, hd, _⟩ := pl
      exact ⟨o, e, hd⟩
    · refine ⟨⟨o, I.kIn p o hk, hc⟩, fun a e => ?_⟩
      cases e
      exact ⟨o, I.kIn _ o hk, hd⟩
    · have z : ∃ o, s.heap.get? p = some o ∧ o.ExactDict := by
        rcases hk with ⟨kvs, hk⟩ | ⟨kvs, hk⟩
        · obtain ⟨_, _, _, _, o, _, _, e, ex, _⟩ := I.hok p _ hk
          exact ⟨o, e, ex⟩
        · obtain ⟨_, _, _, _, o, _, _, e, ex, _⟩ := I.hok p _ hk
          exact ⟨o, e, ex⟩
      obtain ⟨o, e, ex⟩ := z
      refine ⟨⟨o, e, ex.1⟩, fun a e2 => ?_⟩
      cases e2
      exact ⟨o, e, ex.2.1⟩
    · obtain ⟨o, _, _, _, e, ex, _⟩ := I.hok p _ hk
      refine ⟨⟨o, e, ex.1⟩, fun a e2 => ?_⟩
      cases e2
      exact ⟨o, e, ex.2.1⟩
  | _ => exact False.elim ty
def tBM (K : PySem.W.Frag) (T : String) (r : V → List V → Hp → VK → Prop) (to : TE) (t : TA) : TE := fun σ H Q => to σ H fun x H1 => tyV K T x H1 ∧ t σ H1 fun xs H2 => r x xs H2 Q
variable {o e : Expr} {es : List Expr} {to : TE} {t : TA} {name : Str} {apos cpos : Pos} {T id : String} {r : V → List V → Hp → VK → Prop}
theorem pe_bm (pa : PlainAttrs T) (slot : Slot T name id) (hty : typeOf (.builtin id) = pure (.type "method_descriptor")) (hm : MtR X id r) (ho : PE X o to) (ha : PA X (e :: es) t)
    (hbase : attributeBase o name X.env (eval o X.env) = eval o X.env := by rfl)
    (hfew : ((backTo cpos (starEach (e :: es) X.env)).all (fun x => !x.1) && (backToKw cpos (keywordEach [] X.env)).all (fun x => x.1.isSome)
      && decide ((e :: es).length + ([] : List Keyword).length + (if ([] : List Keyword).isEmpty then 0 else 1) < 30)) = true := by rfl)
    (hline : (apos.endLine == cpos.line) = true := by rfl) (hs : starEach (e :: es) X.env = (false, eval e X.env) :: starEach es X.env := by rfl) (hplain : (backTo cpos (starEach es X.env)).any (·.1) = false := by rfl) :
    PE X (.Call (.Attribute o name apos) (e :: es) [] cpos) (tBM X.K T r to t) := by
  intro pins s σ H Q I h
  refine wpAny_Call_method_late hbase hfew hline rfl (thn (ho pins s σ H _ I h) fun v s1 ⟨x, H1, I1, r1, ty, q1⟩ => ?_)
  obtain ⟨h1, h2⟩ := tyV_is I1 r1 ty
  refine ⟨T, id, pa, slot, hty, h1, h2, ?_⟩
  have hA := ha cpos pins s1 σ H1 _ I1 q1
  rw [hs] at hA ⊢
  refine Calls.callWith_builtin (by show (false || (backTo cpos (starEach es X.env)).any (·.1)) = false; rw [hplain] <;> rfl) (Calls.evalArgs_plain ?_)
  exact thn hA fun us s2 ⟨vs, H2, I2, r2, q2⟩ => hm pins s2 σ H2 x vs v us Q I2 r1 r2 q2
end
end L2

namespace L2
open PySem PySem.Spec PyProof.Rows

def MtM (X : Cx) (id : String) (r : V → List V → Hp → VK → Prop) : Prop :=
  ∀ (pins : List (Addr × Obj)) (s : Shared) (σ : St) (H : Hp) (x : V) (xs : List V) (v : Value) (us : List Value) (Q : VK), Inv X pins σ H s → RelV x v → Vals xs us → r x xs H Q →
    wpAny (model X.prog X.w) X.A (call (.builtin id) (v :: us)) (EP X pins σ Q) X.xe s

theorem Vals.one : ∀ {x : V} {us : List Value}, Vals [x] us → ∃ u, us = [u] ∧ RelV x u
  | _, _, .cons r .nil => ⟨_, rfl, r⟩
theorem Vals.rep {xs : List V} {us : List Value} (h : Vals xs us) : ∀ k : Nat, Vals (List.replicate k xs).flatten (List.replicate k us).flatten
  | 0 => .nil
  | k + 1 => by
    rw [List.replicate_succ, List.replicate_succ, List.flatten_cons, List.flatten_cons]
    exact Vals.append h (Vals.rep h k)
theorem foldl_rep (its : List Value) : ∀ (k : Nat) (acc : List Value),
    List.foldl (fun x1 x2 => x1 ++ x2) acc.toArray (List.replicate k its.toArray) = (acc ++ (List.replicate k its).flatten).toArray
  | 0, acc => by simp
  | k + 1, acc => by
    have e : acc.toArray ++ its.toArray = (acc ++ its).toArray := by simp
    have e2 : (acc ++ its) ++ (List.replicate k its).flatten = acc ++ (List.replicate (k + 1) its).flatten := by
      rw [List.replicate_succ, List.flatten_cons, List.append_assoc]
    rw [← e2, ← foldl_rep its k (acc ++ its), ← e, List.replicate_succ, List.foldl_cons]

section
variable {X : Cx} {pins : List (Addr × Obj)} {σ : St} {H : Hp} {s : Shared} {l b : Addr} {xs ys zs : List V}

theorem Inv.lset {its its' : List Value} {n : Nat} {f : Array Value → Array Value} {t' : Nat} (I : Inv X pins σ H s) (hH : H l = some (.lst xs))
    (e : s.heap.get? l = some { cls := .type "list", data := .seq its.toArray n }) (hf : f its.toArray = its'.toArray) (hv : Vals ys its') (hz : ys.length ≤ sizeLine) :
    Inv X pins σ (upd H l (.lst ys)) { s with heap := s.heap.update l (Obj.mapSeq f), toks := t' } := by
  have q := PySem.IsL.update e f
  rw [hf] at q
  refine I.write (x := l) (e := l) (by rw [hH]; exact trivial) (.inl rfl) (fun b' u hb hu => (Heap.get?_update_other s.heap (Obj.mapSeq f) (Ne.symm hb)).trans hu) ⟨_, q⟩ ?_
  exact ⟨hz, its', _, hv, q⟩
theorem Inv.lnew {its : List Value} {t' : Nat} (I : Inv X pins σ H s) (hv : Vals ys its) (hz : ys.length ≤ sizeLine) :
    Inv X pins σ (upd H s.heap.objs.size (.lst ys)) { s with heap := s.heap.push { cls := .type "list", data := .seq its.toArray }, toks := t' } :=
  I.laid (fun _ _ q => Heap.get?_push_of_some _ q) (Nat.le_refl _) ⟨hz, its, 0, hv, Heap.get?_push_size _ rfl⟩
theorem Inv.fresh (I : Inv X pins σ H s) : H s.heap.objs.size = none := I.hok.fresh (Nat.le_refl _)
theorem Inv.lstM (I : Inv X pins σ H s) (hH : H l = some (.lst xs)) : xs.length ≤ sizeLine ∧ ∃ (its : List Value) (n : Nat), Vals xs its ∧ xs.length = its.length ∧ s.heap.get? l = some { cls := .type "list", data := .seq its.toArray n } := by
  obtain ⟨z, its, n, r, e⟩ := I.hok l _ hH
  exact ⟨z, its, n, r, r.length, e⟩

theorem notLongL {n : Nat} (h : n ≤ sizeLine) : Builtin.List.listTooLong n = false := by
  unfold Builtin.List.listTooLong
  exact decide_eq_false (by omega)
end

section
variable {X : Cx}

def rAppend : V → List V → Hp → VK → Prop := fun x vs H Q => ∃ l xs y, x = .ref l ∧ vs = [y] ∧ H l = some (.lst xs) ∧ xs.length < sizeLine ∧ Q .non (upd H l (.lst (xs ++ [y])))
theorem mt_append : MtM X "list.append" rAppend := by
  intro pins s σ H x vs v us Q I rx rv h
  obtain ⟨l, xs, y, rfl, rfl, hH, hz, q⟩ := h
  cases rx
  obtain ⟨u, rfl, ru⟩ := rv.one
  obtain ⟨z, its, n, r, hl, e⟩ := I.lstM hH
  refine call_meets F.slot_list_append ⟨_, e, rfl⟩ F.entry_list_append (F.args_list_append_2 _ _) (PySem.list_append l its.toArray n u (by rw [List.size_toArray]; omega)) ⟨e, ?_⟩
  refine ⟨.non, _, I.lset (its' := its ++ [u]) hH e (by simp) (r.append (.cons ru .nil)) ?_, rfl, q⟩
  rw [List.length_append, List.length_singleton]
  omega

def rCat : R2 := fun x y H Q => ∃ l b xs zs, x = .ref l ∧ y = .ref b ∧ H l = some (.lst xs) ∧ H b = some (.lst zs) ∧ xs.length + zs.length ≤ sizeLine ∧ ∀ p, H p = none → Q (.ref p) (upd H p (.lst (xs ++ zs)))
theorem op_cat : OpR X (binaryOp .Add) rCat := by
  intro pins s σ H x y v u Q I rx ry h
  obtain ⟨l, b, xs, zs, rfl, rfl, hH, hB, hz, q⟩ := h
  cases rx
  cases ry
  obtain ⟨z, its, n, r, hl, e⟩ := I.lstM hH
  obtain ⟨z2, its2, n2, r2, hl2, e2⟩ := I.lstM hB
  refine PySem.P.add_list e e2 ?_ (by rw [List.size_toArray, List.size_toArray]; omega)
  have ea : its.toArray ++ its2.toArray = (its ++ its2).toArray := by simp
  rw [ea]
  exact ⟨.ref _, _, I.lnew (t' := s.toks) (r.append r2) (by rw [List.length_append]; omega), rfl, q _ I.fresh⟩
/-- a list times an int (a negative one is nothing) -/
def rRep : R2 := fun x y H Q => ∃ l k xs, x = .ref l ∧ y = .int k ∧ H l = some (.lst xs) ∧ -(2 ^ 63) ≤ k ∧ k < 2 ^ 63 ∧ xs.length * k.toNat ≤ sizeLine ∧
  ∀ p, H p = none → Q (.ref p) (upd H p (.lst (List.replicate k.toNat xs).flatten))
theorem len_rep {α : Type} (xs : List α) (k : Nat) : (List.replicate k xs).flatten.length = k * xs.length := by
  induction k with
  | zero => simp
  | succ k ih => rw [List.replicate_succ, List.flatten_cons, List.length_append, ih, Nat.succ_mul, Nat.add_comm]
theorem op_rep : OpR X (binaryOp .Mult) rRep := by
  intro pins s σ H x y v u Q I rx ry h
  obtain ⟨l, k, xs, rfl, rfl, hH, h1, h2, hz, q⟩ := h
  cases rx
  obtain ⟨t, rfl⟩ := ry
  obtain ⟨z, its, n, r, hl, e⟩ := I.lstM hH
  have hlen : its.toArray.size * k.toNat ≤ sizeLine := by rw [List.size_toArray, ← hl]; exact hz
  have hcap : ¬ its.toArray.size * k.toNat > (2 ^ 63 - 1) / 8 := by
    have : (sizeLine : Nat) ≤ (2 ^ 63 - 1) / 8 := by decide
    omega
  have hfit : ¬ (!Builtin.List.listFitsIndex k) = true := by
    rw [fitsIndex_both h1 h2]
    exact Bool.false_ne_true
  have hlong : ¬ Builtin.List.listTooLong (its.toArray.size * k.toNat) = true := by
    rw [notLongL hlen]
    exact Bool.false_ne_true
  have hnew : List.foldl (fun x1 x2 => x1 ++ x2) #[] (List.replicate (if its.toArray.isEmpty = true then 0 else k.toNat) its.toArray) = (List.replicate k.toNat its).flatten.toArray := by
    have f0 : ∀ m : Nat, List.foldl (fun x1 x2 => x1 ++ x2) #[] (List.replicate m its.toArray) = (List.replicate m its).flatten.toArray := fun m => by
      have := foldl_rep its m []
      rw [List.nil_append] at this
      exact this
    rw [f0]
    cases its with
    | nil => simp
    | cons a r' => rw [if_neg (by simp)]
  refine wpAny_binaryOp_repeat_ref (T := "list") (U := "int") (by decide) ⟨_, e, rfl⟩ (fun s' => typeIs_int s' k t) noFill_list_mul F.fills_int_mul F.slot_int_rmul repeat_list F.slot_int_index.lookup
    (call_meets F.slot_int_rmul (typeIs_int s k t) F.entry_int_rmul (F.args_int_rmul_2 _ _) (int___rmul___int_list k t l its.toArray n)
      ⟨e, rfl, ⟨_, e, rfl⟩, call_meets F.slot_list_mul ⟨_, e, rfl⟩ F.entry_list_mul (F.args_list_mul_2 _ _) (AutoListH.list___mul___list_int_3 l its.toArray n k t hfit hcap hlong) ⟨e, ?_⟩⟩)
  rw [hnew]
  exact ⟨.ref _, _, I.lnew (t' := s.toks) (r.rep k.toNat) (by rw [len_rep, Nat.mul_comm]; exact hz), rfl, q _ I.fresh⟩

end

section
variable {prog : Program} {w : World} {A : Around} {E : Value → Shared → Prop} {s : Shared}
end

section
variable {X : Cx}
end
end L2

namespace Att
open PySem PySem.W PySem.Calls PyProof.Rows

theorem ints_of_wellAll {P : Params} {h : Heap} : ∀ (ns : List Int) (vs : List Value), WellAll P h vs (ns.map WData.int) → IntsAre vs ns := by
  intro ns
  induction ns with
  | nil =>
    intro vs w
    rw [List.map_nil] at w
    cases w
    exact .nil
  | cons n ns ih =>
    intro vs w
    rw [List.map_cons] at w
    cases w with
    | cons a b =>
      cases a
      exact .cons _ _ (ih _ b)

theorem script_of {l : OpenLaw} {n : Nat} (hn : l.most = some n) {P : Params} {h : Heap} {args : List WData} {vals : List Value}
    (hpre : l.row.toRowW.claim.pre args = true) (hwl : WellAll P h vals args) :
    ∃ a vs ns, vals = [Value.ref a] ∧ args = [WData.list (ns.map WData.int)] ∧ h.get? a = some { cls := .type "list", data := .seq vs.toArray } ∧ IntsAre vs ns ∧ ns.length ≤ n := by
  have hsh : WShape.hasAll [] args [.list .int] = true := (pre_splitW hpre).1
  have hc : l.pre.holds [] { args := args } = true := (pre_splitW hpre).2
  obtain ⟨d, r, rfl, h1, h2⟩ := hasAllW_cons hsh
  obtain rfl := hasAllW_nil h2
  obtain ⟨xs, rfl, h3⟩ := hasW_list h1
  obtain ⟨ns, rfl⟩ := items_int h3
  have hlen : ns.length ≤ n := by
    unfold OpenLaw.pre at hc
    have h4 : (WTm.not (.lt (.lit (.int (n : Int))) (.len (.arg 0)))).holds [] { args := [.list (ns.map .int)] } = true := by
      have h4 := (holds_andW hc).1
      rw [hn] at h4
      exact h4
    have h5 := condW_of h4 (w_not (w_lt w_lit (w_len_list (w_arg rfl))))
    rw [List.length_map] at h5
    refine Nat.le_of_not_lt fun q => ?_
    have q' : (n : Int) < ((ns.length : Nat) : Int) := by omega
    first
      | (rw [decide_eq_true q'] at h5; exact absurd h5 (by decide))
      | (simp at h5; omega)
  cases hwl with
  | cons w1 w2 =>
    cases w2
    cases w1 with
    | list ho hall => exact ⟨_, _, ns, rfl, rfl, ho, ints_of_wellAll ns _ hall, hlen⟩

theorem post_true (l : OpenLaw) (args : List WData) : l.row.toRowW.claim.post args (.bool true) args = true :=
  postW_of (r := l.row.toRowW) (X := (true == true))
    (show WShape.has [] (.bool true) .bool = true by first | rfl | decide | simp [WShape.has, WShape.arms, WShape.armsAll])
    (show (WTm.eq .res (.lit (.bool true))).value [] { args := args, res := some (.bool true), after := args } = some (.bool (true == true)) from w_eq_bool (w_res rfl) w_lit) rfl

/-- the same from a codeAny of the CALL (for a layer whose function contracts speak of calls) -/
theorem attach_call {l : OpenLaw} {n : Nat} {q : Program} {loose : List Str} {XP : (Str → Option Value) → Heap → Prop} {YP : World → Heap → Prop} {d : DefRec}
    (hn : l.most = some n) (hdf : d.params.defaults = [])
    (call : ∀ (w : World) (s₀ s₁ : Shared) (mg mb : Str → Option Value) (fa : Addr) (o : Obj) (pm cd doc : Value) (a : Addr) (vs : List Value) (ns : List Int),
      Ground q loose [] XP w s₀ mg mb s₁.heap → YP w s₁.heap →
      s₁.heap.get? fa = some o → o.data = .func (docDef d.name d.params d.body d.scope pm cd doc) → s₁.heap.CodeRec cd d.name → mg d.name = some (.ref fa) →
      s₁.heap.get? a = some { cls := .type "list", data := .seq vs.toArray } → IntsAre vs ns → ns.length ≤ n → s₁.gens = #[] →
      codeAny (model l.prog w) callerA (.call (.ref fa) ⟨[.ref a], []⟩) (fun r s' => r = .ok (.ret (.bool true)) ∧ OldK s₁.heap s'.heap ∧ s'.os = s₁.os ∧ AllBare s'.gens) s₁) :
    WalkO q loose XP YP l.row.toRowW d [] (fun f vs => PySem.call f vs) := by
  intro w s₀ s₁ mg mb G Y fa o pm cd doc dV kV ho hd hcd hD hmg hg args vals as hpre hlay hrd hwl hlo
  obtain rfl : dV = .none := Dflts.none hD hdf
  obtain rfl : kV = .none := Dflts.noKw hD
  obtain ⟨a, vs, ns, rfl, rfl, hobj, hints, hlen⟩ := script_of hn hpre hwl
  refine enter_call (codeAny_mono (call w s₀ s₁ mg mb fa o pm cd doc a vs ns G Y ho (fd_plain hd) hcd hmg hobj hints hlen hg) fun r s' hq => ?_)
  obtain ⟨rfl, h2, h3, h4⟩ := hq
  exact ⟨.inl ⟨.bool true, .bool true, [], rfl, fun _ => rfl, .bool true, post_true l _, fun _ => ⟨List.Pairwise.nil, fun _ hm => (nomatch hm)⟩⟩, h2, h3, h4⟩

section
variable {prog : Program} {w : World} {A : Around} {E : Value → Shared → Prop} {s : Shared} {K : Frag}

end
end Att

namespace L2
open PySem PySem.Spec PyProof.Rows

theorem vals_ints : ∀ {vs : List Value} {ns : List Int}, IntsAre vs ns → Vals (ns.map V.int) vs
  | _, _, .nil => .nil
  | _, _, .cons n t h => .cons ⟨t, rfl⟩ (vals_ints h)

/-- nothing is tracked but the script, known to the object (or it is an object of the module) -/
def Only (H : Hp) : Prop := ∀ b, H b = none ∨ ∃ o xs, H b = some (.frz o (.lst xs))

/-- THE HEAD: the law's promise, at the heap behind the top. F, the promise of the law's def, may use that base is part of the heap (so K.In base, base.Ns mainGlobals mg stand in Mod) -/
theorem law_call {P : Program} {w : World} {K : PySem.W.Frag} {mg mb : Str → Option Value} {CX : CXT} {k : Nat} {fa a : Addr} {fd : FuncData} {x : Str} {sp : Sp} {s₁ : Shared} {vs : List Value} {ns : List Int}
    (KX : K.In s₁.heap) (hns : s₁.heap.Ns mainGlobals mg) (hb : s₁.heap.Ns builtinsNs mb) (hbb : ∀ x : Str, x ≠ "__name__" → mb x = bootBuiltins x) (hlim : s₁.heap.NoLimit) (hg : s₁.gens = #[])
    (ha : s₁.heap.get? a = some { cls := .type "list", data := .seq vs.toArray }) (hi : IntsAre vs ns) (hl : ns.length ≤ sizeLine) (hr : Room k callerA)
    (F : ∀ base : Heap, K.In base → base.Ns mainGlobals mg → FnOk P w K mg base CX k fa fd [x] sp) (hbind : ∀ (s : Shared) (u : Value), BindsTo s fd ⟨[u], []⟩ [(x, u)])
    (hsp : ∀ H : Hp, Only H → SqL K H a (ns.map V.int) → sp [.ref a] H (fun v _ => v = .bl true) fun _ _ _ => False)
    (hCX : ∀ H e s', CX [] H s₁ (fun _ _ _ => False) e s' → False) :
    codeAny (model P w) callerA (.call (.ref fa) ⟨[.ref a], []⟩) (fun r s' => r = .ok (.ret (.bool true)) ∧ OldK s₁.heap s'.heap ∧ s'.os = s₁.os ∧ AllBare s'.gens) s₁ := by
  have rv := vals_ints hi
  have lenV := hi.length
  -- from an abstract heap in which nothing but the script may be tracked
  have core : ∀ H : Hp, Only H → SqL K H a (ns.map V.int) → HOk P w H s₁.heap → (∀ b, H b ≠ none → b = a) → (H a ≠ none → K.lookup a = none) →
      codeAny (model P w) callerA (.call (.ref fa) ⟨[.ref a], []⟩) (fun r s' => r = .ok (.ret (.bool true)) ∧ OldK s₁.heap s'.heap ∧ s'.os = s₁.os ∧ AllBare s'.gens) s₁ := by
    intro H hO hS hok hA hK
    have base_of : ∀ {b : Addr} {o : Obj}, s₁.heap.get? b = some o → H b = none → (hidT s₁.heap H).get? b = some o := fun e n => hidT_get e n
    have noA : ∀ {b : Addr} {o : Obj} {es : Array DictEntry} {ep : Nat}, s₁.heap.get? b = some o → o.data = .dict es ep → H b = none := fun {b o es ep} e d => by
      cases q : H b with
      | none => rfl
      | some u =>
        have e' : b = a := hA b (by rw [q]; simp)
        subst e'
        rw [ha] at e; cases e
        have d' : Data.seq vs.toArray _ = Data.dict es ep := d
        cases d'
    have nsK : ∀ {b : Addr} {m : Str → Option Value}, s₁.heap.Ns b m → (hidT s₁.heap H).Ns b m := fun {b m} ⟨o, es, ep, e, d, r⟩ => ⟨o, es, ep, base_of e (noA e d), d, r⟩
    have hKb : K.In (hidT s₁.heap H) := fun b o e => base_of (KX b o e) (by
      cases q : H b with
      | none => rfl
      | some u =>
        have e' : b = a := hA b (by rw [q]; simp)
        subst e'
        rw [hK (by rw [q]; simp)] at e; cases e)
    have hM : Mod K mg (hidT s₁.heap H) := ⟨hKb, nsK hns, ⟨mb, nsK hb, hbb⟩, let ⟨mc, h1, h2⟩ := hlim; ⟨mc, nsK h1, h2⟩⟩
    have e0 : Env0 P w K mg (hidT s₁.heap H) callerA [] s₁ H := ⟨rfl, hM, fun b o e => of_hidT e, Nat.le_of_eq (hidT_size _ _), trivial, fun b hb => absurd (show b ∈ ([] : List Addr) from hb) (by simp), hok, .of_eq hg⟩
    refine codeAny_mono ((F _ hKb (nsK hns)).run callerA [] s₁ H ⟨[.ref a], []⟩ [.ref a] [.ref a] _ _ hr e0 (hbind s₁ (.ref a)) (.cons rfl .nil) (hsp H hO hS)) fun r s' h => ?_
    cases r with
    | error e => exact (hCX H e s' h).elim
    | ok fl =>
      cases fl with
      | next => exact False.elim h
      | brk => exact False.elim h
      | cont => exact False.elim h
      | ret u =>
        obtain ⟨v, H', os, bare, un, hok', r', q⟩ := h
        have q' : v = .bl true := q
        subst q'
        obtain rfl : u = Value.bool true := r'
        refine ⟨rfl, OldK.of_keep fun b o e => ?_, os, bare⟩
        cases q : H b with
        | none => exact un.keep b o e q (by intro z; exact absurd (show b ∈ ([] : List Addr) from z) (by simp)) (by simp)
        | some u =>
          rcases hO b with z | ⟨ob, xs, z⟩
          · rw [q] at z; cases z
          · have z2 := un.frzs b ob _ z
            obtain ⟨e1, _⟩ := hok b _ z
            obtain ⟨e2, _⟩ := hok' b _ z2
            rw [e] at e1; cases e1
            exact e2
  cases hk : K.lookup a with
  | some o =>
    -- the script is one of the module's own objects
    have e := KX a o hk
    rw [ha] at e
    cases e
    refine core (fun _ => none) (fun _ => .inl rfl) (.inr ⟨_, vs.toArray, _, hk, rfl, rfl, rfl, by rw [List.size_toArray, lenV]; exact hl, by simpa using rv⟩) (fun b u z => by have z' : (none : Option HO) = some u := z; cases z') (fun b z => absurd rfl z) fun z => absurd rfl z
  | none =>
    refine core (fun b => if b = a then some (.frz { cls := .type "list", data := .seq vs.toArray } (.lst (ns.map V.int))) else none) (fun b => ?_) (.inl (.inr ⟨{ cls := .type "list", data := .seq vs.toArray }, if_pos rfl⟩)) (fun b u z => ?_) (fun b z => ?_) fun _ => hk
    · by_cases hb : b = a
      · exact .inr ⟨_, _, if_pos hb⟩
      · exact .inl (if_neg hb)
    · by_cases hb : b = a
      · have z' := (if_pos hb).symm.trans z
        cases z'
        subst hb
        exact ⟨ha, by rw [List.length_map]; exact hl, vs, _, rv, ha⟩
      · have z' := (if_neg hb).symm.trans z
        cases z'
    · by_cases hb : b = a
      · exact hb
      · exact absurd (if_neg hb) z
end L2

namespace L2
open PySem PySem.Spec PyProof.Rows

/-- the goal that k_head leaves (case hc), from the law's promise. F gives the function object fd (K's own) once, then the promise over every base -/
theorem walk_of {l : PySem.W.OpenLaw} {n k : Nat} {q : Program} {loose : List Str} {XP : (Str → Option Value) → Heap → Prop} {YP : World → Heap → Prop} {d : DefRec} {K : Params → PySem.W.Frag} {CX : World → CXT} {sp : World → Sp} {x : Str}
    (hn : l.most = some n) (hn2 : n ≤ sizeLine) (hdf : d.params.defaults = []) (hr : Room k callerA)
    (hY : ∀ (w : World) (h : Heap), YP w h → (K w.params).In h)
    (F : ∀ (w : World) (mg : Str → Option Value) (fa : Addr) (h : Heap), (K w.params).In h → h.Ns mainGlobals mg → mg d.name = some (.ref fa) →
      ∃ fd : FuncData, (∀ (s : Shared) (u : Value), BindsTo s fd ⟨[u], []⟩ [(x, u)]) ∧
        ∀ base : Heap, (K w.params).In base → base.Ns mainGlobals mg → FnOk l.prog w (K w.params) mg base (CX w) k fa fd [x] (sp w))
    (hsp : ∀ (w : World) (H : Hp) (a : Addr) (ns : List Int), ns.length ≤ n → Only H → SqL (K w.params) H a (ns.map V.int) → sp w [.ref a] H (fun v _ => v = .bl true) fun _ _ _ => False)
    (hCX : ∀ (w : World) (H : Hp) (s : Shared) (e : Value) (s' : Shared), CX w [] H s (fun _ _ _ => False) e s' → False) :
    PySem.W.WalkO q loose XP YP l.row.toRowW d [] (fun f vs => PySem.call f vs) := by
  refine Att.attach_call hn hdf fun w s₀ s₁ mg mb fa o pm cd doc a vs ns G Y ho hd hcd hmg hobj hints hlen hg => ?_
  have KX := hY w _ Y
  obtain ⟨fd, hb, hF⟩ := F w mg fa _ KX G.T.g hmg
  exact law_call KX G.T.g G.T.b G.T.builtins G.T.nolimit hg hobj hints (Nat.le_trans hlen hn2) hr hF hb (fun H hO hS => hsp w H a ns hlen hO hS) fun H e s' => hCX w H s₁ e s'
end L2

namespace L2
open PySem PySem.Spec PyProof.Rows

/-- the j-th statement of a class's body -/
def inClass (s : Stmt) (j : Nat) : Stmt := match s with
  | .ClassDef _ _ _ body _ _ _ _ _ _ _ => body.getD j (.Pass ⟨0, 0, 0, 0⟩)
  | _ => .Pass ⟨0, 0, 0, 0⟩
def defArgs (s : Stmt) : Arguments := match s with
  | .FunctionDef _ a _ _ _ _ _ _ _ _ => a
  | _ => { posonlyargs := [], args := [], vararg := none, kwonlyargs := [], kw_defaults := [], kwarg := none, defaults := [] }
def defBody (s : Stmt) : List Stmt := match s with
  | .FunctionDef _ _ b _ _ _ _ _ _ _ => b
  | _ => []
def defScope (s : Stmt) : Scope := match s with
  | .FunctionDef _ _ _ _ _ _ sc _ _ _ => sc
  | _ => { kind := .function, names := [], isGenerator := false, isCoroutine := false }

abbrev CX0 : CXT := fun _ _ _ _ _ _ => False
abbrev E0 : XK := fun _ _ _ => False
theorem pass0 {X : Cx} : Passes CX0 X E0 := fun _ _ _ _ _ _ _ h => h.elim

structure Fun (K : PySem.W.Frag) (x qual : Str) (st : Stmt) (f : Addr) (fd : FuncData) : Prop where
  ex : ∃ (oc : Value) (od : Option Addr) (kV doc pm : Value) (an : Option Addr) (cdv ct : Value) (osl : Array (Option Value)),
    fd = PySem.W.fnOf x qual (defArgs st) (defBody st) (defScope st) .none kV doc pm an cdv ct ∧ K.lookup f = some ⟨oc, od, .func fd, osl⟩ ∧ PySem.W.codeIn K cdv qual = true
  kp : PySem.W.keepIn K (.ref f) = true
section
variable {P : Program} {w : World} {K : PySem.W.Frag} {mg : Str → Option Value} {base : Heap}
/-- THE RULE for a def: its body as a term of rules, and the reading of that term -/
theorem Fun.ok {x qual : Str} {st : Stmt} {f : Addr} {fd : FuncData} {N ps : List Str} {k : Nat} {sp : Sp} (F : Fun K x qual st f fd) (S : FnScope N ps (defScope st)) (len : ∀ vs H Q E, sp vs H Q E → vs.length = ps.length)
    (hbody : ∀ (cdv : Value) (A : Around) (outer : List Env) (s : Shared) (H : Hp) (vs : List V) (Q : VK) (E : XK), Room k (A.deeper (envOfC qual (defScope st) s.heap.objs.size f cdv)) → sp vs H Q E →
      ∃ t, PSs (cxOf CX0 P w K mg base N qual (defScope st) f cdv A outer s H E).nox (defBody st) t ∧ t { nx := fun _ H' => Q .non H', rt := Q } (start N vs) H) : FnOk P w K mg base CX0 (k + 1) f fd ps sp := by
  obtain ⟨oc, od, kV, doc, pm, an, cdv, ct, osl, rfl, lk, hcd⟩ := F.ex
  refine fn_of lk hcd S len fun A outer s H vs Q E hr hsp => ?_
  obtain ⟨t, h, q⟩ := hbody cdv A outer s H vs Q E hr hsp
  exact ⟨t, h.nox, q⟩
/-- how its arguments bind (no defaults): h is «fun _ _ _ _ _ _ us hl => match us, hl with | [_, _], _ => rfl», one _ a parameter -/
theorem Fun.binds {x qual : Str} {st : Stmt} {f : Addr} {fd : FuncData} {ps : List Str} (F : Fun K x qual st f fd)
    (h : ∀ (kV doc pm : Value) (an : Option Addr) (cdv ct : Value) (us : List Value), us.length = ps.length → bindArgs (PySem.W.fnOf x qual (defArgs st) (defBody st) (defScope st) .none kV doc pm an cdv ct) ⟨us, []⟩ = pure (ps.zip us)) : Binds K fd ps [] := by
  obtain ⟨oc, od, kV, doc, pm, an, cdv, ct, osl, rfl, lk, hcd⟩ := F.ex
  exact .all (h kV doc pm an cdv ct)
theorem fun_mk {x qual : Str} {st : Stmt} {f : Addr} {oc : Value} {od an : Option Addr} {osl : Array (Option Value)} {kV doc pm cdv ct : Value} (l : K.lookup f = some ⟨oc, od, .func (PySem.W.fnOf x qual (defArgs st) (defBody st) (defScope st) .none kV doc pm an cdv ct), osl⟩)
    (c : PySem.W.codeIn K cdv qual = true) (k : PySem.W.keepIn K (.ref f) = true) : Fun K x qual st f (PySem.W.fnOf x qual (defArgs st) (defBody st) (defScope st) .none kV doc pm an cdv ct) := ⟨⟨oc, od, kV, doc, pm, an, cdv, ct, osl, rfl, l, c⟩, k⟩
end
section
variable {X : Cx}
theorem pv (i : Nat) {x : Str} {pos : Pos} (hN : X.N[i]? = some x := by rfl) (hv : Vis X.env.scope x := by first | exact Or.inl rfl | exact Or.inr (Or.inl rfl) | exact Or.inr (Or.inr rfl)) (hd : (x == ("__debug__" : Str)) = false := by decide)
    (hcd : (x == ("__classdict__" : Str)) = false := by decide) : PE X (.Name x pos) (tVar i) := pe_var hN hv hd hcd
end

theorem iteF {A B : Prop} (h : B) : if false = true then A else B := by
  rw [if_neg Bool.false_ne_true]
  exact h
theorem iteT {A B : Prop} (h : A) : if true = true then A else B := by
  rw [if_pos rfl]
  exact h
theorem ite2 {c A B : Prop} [Decidable c] (h1 : c → A) (h2 : ¬ c → B) : if c then A else B := by
  by_cases h : c
  · rw [if_pos h]
    exact h1 h
  · rw [if_neg h]
    exact h2 h
/-- all that was tracked is as it was -/
def Same (H H' : Hp) : Prop := ∀ b o, H b = some o → H' b = some o
theorem Same.refl (H : Hp) : Same H H := fun _ _ h => h
theorem Same.trans {H H1 H2 : Hp} (a : Same H H1) (b : Same H1 H2) : Same H H2 := fun c o h => b c o (a c o h)
theorem Same.free {H H' : Hp} (e : Same H H') {l : Addr} (h : H' l = Option.none) : H l = Option.none := by
  cases q : H l with
  | none => rfl
  | some o =>
    rw [e l o q] at h
    cases h
theorem Same.seq {K : PySem.W.Frag} {H H' : Hp} {a : Addr} {xs : List V} (e : Same H H') (h : SqL K H a xs) : SqL K H' a xs := by
  rcases h with (h | ⟨o, h⟩) | h
  · exact .inl (.inl (e _ _ h))
  · exact .inl (.inr ⟨o, e _ _ h⟩)
  · exact .inr h

end L2

namespace L2
open PySem PySem.Spec PyProof.Rows

/-- the context of the block: the target's slot is 0, the captured names follow -/
def cxC (X : Cx) (NC : List Str) (scope : Scope) (cl : List (Str × Addr)) (C : Addr) (s₀ : Shared) (H₀ : Hp) (ex : List Addr) : Cx where
  prog := X.prog
  w := X.w
  K := X.K
  mg := X.mg
  base := X.base
  A := X.A
  N := NC
  s₀ := s₀
  H₀ := H₀
  env := compEnvC scope cl C X.env
  outer := X.stack
  stack := X.stack
  ex := ex
  fn := fun _ => false
  calm := X.calm
  pn := []
  xe := fun _ _ => False

def capN (t : Str) (caps : List (Str × Nat)) : List Str := t :: caps.map (·.1)
def capS (caps : List (Str × Nat)) (σ : St) (v : Option V) : St := v :: caps.map fun p => (σ[p.2]?).join

structure CapOk (X : Cx) (scope : Scope) (cl : List (Str × Addr)) (t : Str) (caps : List (Str × Nat)) : Prop where
  kind : scope.kind = .function
  nocell : ∀ y ∈ scope.names, y.2 ≠ .cell
  names : ∀ y ∈ scope.names, y.2 = .local → scope.names.lookup y.1 = some .local
  tgt : scope.names.lookup t = some .local
  clos : closureFor scope X.env = pure cl
  sub : ∀ p ∈ cl, X.env.cells.lookup p.1 = some p.2
  has : ((relabel scope X.env).names.all fun y => !(y.2 == .cell || y.2 == .free) || (cl.lookup y.1).isSome) = true
  cap : ∀ p ∈ caps, X.N[p.2]? = some p.1 ∧ (X.env.kindOf p.1 = some .cell ∨ X.env.kindOf p.1 = some .free) ∧ ((relabel scope X.env).names.lookup p.1 = some .cell ∨ (relabel scope X.env).names.lookup p.1 = some .free)
  nd : (capN t caps).Nodup

section
variable {X : Cx} {scope : Scope} {cl : List (Str × Addr)} {t : Str} {caps : List (Str × Nat)} {pins : List (Addr × Obj)} {σ : St} {H : Hp} {s : Shared} {C : Addr} {fp : List Addr}
theorem CapOk.look (K : CapOk X scope cl t caps) {x : Str} {c : Addr} (h : cl.lookup x = some c) : X.env.cells.lookup x = some c := K.sub (x, c) (PySem.mem_of_lookup h)
theorem CapOk.hs (K : CapOk X scope cl t caps) {x : Str} (h : (relabel scope X.env).names.lookup x = some .cell ∨ (relabel scope X.env).names.lookup x = some .free) : ∃ c, cl.lookup x = some c := by
  have go : ∀ k, (relabel scope X.env).names.lookup x = some k → (k == NameKind.cell || k == NameKind.free) = true → ∃ c, cl.lookup x = some c := fun k e hk => by
    have := List.all_eq_true.mp K.has (x, k) (PySem.mem_of_lookup e)
    dsimp only at this
    rw [hk] at this
    exact Option.isSome_iff_exists.mp (by simpa using this)
  rcases h with h | h
  · exact go _ h rfl
  · exact go _ h rfl

theorem okC (I : Inv X pins σ H s) (K : CapOk X scope cl t caps) (hf : ∀ b ∈ fp, FpOk X pins H b) (ho : ∀ b ∈ fp, b < s.heap.objs.size) (hC : s.heap.objs.size ≤ C) : (cxC X (capN t caps) scope cl C s H fp).Ok where
  mod := I.ok.mod
  kind := K.kind
  glob := I.ok.glob
  blt := I.ok.blt
  above := hC
  inj := fun x y c h1 h2 => I.ok.inj x y c (K.look h1) (K.look h2)
  has := fun x hx => K.hs hx
  cab := fun x c h => nomatch (show false = true from h)
  hd := I.ok.hd
  frames := I.ok.frames
  stk := .inl rfl
  exf := fun b hb => ⟨Nat.ne_of_lt (Nat.lt_of_lt_of_le (ho b hb) hC), fun x c e => (hf b hb).2.2.2.2.1 x c (K.look e)⟩
  bs := I.bs
  bsz := Nat.le_trans I.ok.bsz I.sz
  noex := fun b o e hb => by
    rcases (hf b hb).2.2.2.1 with z | z
    · exact I.ok.noex b o e z
    · exact absurd (Nat.lt_of_lt_of_le (Heap.lt_size e) (Nat.le_trans I.ok.bsz z)) (Nat.lt_irrefl _)
  exfs := fun b hb hfs => by
    rcases List.mem_cons.mp (I.stkSub b hfs) with e | e
    · exact (hf b hb).2.1 e
    · exact (hf b hb).2.2.1 e
  funs := I.stack
  frf := I.stkFree

theorem invC {h₁ : Heap} {m : Str → Option Value} {tk : Nat} (I : Inv X pins σ H s) (K : CapOk X scope cl t caps) (hf : ∀ b ∈ fp, FpOk X pins H b) (ho : ∀ b ∈ fp, b < s.heap.objs.size) (hC : s.heap.objs.size ≤ C)
    (old : ∀ b o, s.heap.get? b = some o → h₁.get? b = some o) (ns : h₁.Ns C m) : Inv (cxC X (capN t caps) scope cl C s H fp) [] (capS caps σ none) H { s with heap := h₁, toks := tk } := by
  have cellK : ∀ c v, s.heap.IsCell c v → h₁.IsCell c v := fun c v ⟨o, e, d⟩ => ⟨o, old c o e, d⟩
  refine ⟨okC I K hf ho hC, rfl, I.bare, Un.kept old, ⟨m, ns, fun i x v e1 e2 e3 => ?_⟩, fun x c e => ?_, I.hok.fresh hC, fun x c e => I.freeC x c (K.look e), fun p hp => absurd (show p ∈ ([] : List (Addr × Obj)) from hp) (by simp), I.hok.kept old, by simp [capS, capN, cxC]⟩
  · cases i with
    | zero =>
      have e2' : some (none : Option V) = some (some v) := e2
      cases e2'
    | succ j =>
      have e1' : (caps.map (·.1))[j]? = some x := e1
      have e2' : (caps.map fun p => (σ[p.2]?).join)[j]? = some (some v) := e2
      rw [List.getElem?_map] at e1' e2'
      cases hp : caps[j]? with
      | none => rw [hp] at e1'; cases e1'
      | some p =>
        rw [hp] at e1' e2'
        have ex : p.1 = x := Option.some.inj e1'
        have ev : (σ[p.2]?).join = some v := Option.some.inj e2'
        have ev' : σ[p.2]? = some (some v) := by
          cases q : σ[p.2]? with
          | none => rw [q] at ev; cases ev
          | some z => rw [q] at ev; exact congrArg some ev
        obtain ⟨hN, hk, hk'⟩ := K.cap p (List.mem_of_getElem? hp)
        subst ex
        obtain ⟨m', _, hl⟩ := I.loc
        have vis : Vis X.env.scope p.1 := by
          rcases hk with z | z
          · exact .inr (.inl z)
          · exact .inr (.inr z)
        obtain ⟨u, r, l⟩ := hl p.2 p.1 v hN ev' vis
        obtain ⟨c, hc⟩ := K.hs hk'
        rcases l with ⟨z, _⟩ | ⟨_, c', hc', hcell⟩
        · rcases hk with y | y <;> (rw [y] at z; cases z)
        · rw [K.look hc] at hc'
          cases hc'
          exact ⟨u, r, .inr ⟨hk', c, hc, cellK c _ hcell⟩⟩
  · obtain ⟨v, z⟩ := I.cell x c (K.look e)
    exact ⟨v, cellK c v z⟩

/-- an untracked list of ours is tracked from now on -/
theorem Inv.track {D : Addr} {ys : List V} {its : List Value} {n : Nat} (I : Inv X pins σ H s) (f : FpOk X pins H D) (e : s.heap.get? D = some { cls := .type "list", data := .seq its.toArray n }) (r : Vals ys its) (hz : ys.length ≤ sizeLine) :
    Inv X pins σ (upd H D (.lst ys)) s := by
  obtain ⟨f0, f1, f2, f3, f4, f5⟩ := f
  obtain ⟨hh, g, d, tk, os⟩ := s
  refine I.step (g' := g) (d' := d) (t' := tk) (h' := hh) (ch := [D]) (fun b hb => ?_) (fun b o _ _ _ e _ => e) (fun b o _ _ _ e _ => ⟨o.slots, e⟩) (fun b o hb _ n => ?_) (fun b o _ e => ⟨o, e⟩) (fun b xs q => ?_) (fun b o u q => ?_) (fun b ps q => ⟨#[], ?_⟩) (fun m hm => hm) (fun b u q => ?_) I.bare
  · have z : b = D := by simpa using hb
    subst z
    exact ⟨f3, f1, f4, f5⟩
  · rw [upd_ne (fun z => hb (by simp [z]))]; exact n
  · rw [upd_ne (ne_of_none q f0)]; exact q
  · rw [upd_ne (ne_of_none q f0)]; exact q
  · rw [upd_ne (ne_of_none q f0), q]; simp
  · by_cases hb : b = D
    · subst hb
      rw [upd_same] at q
      cases q
      exact ⟨hz, its, n, r, e⟩
    · rw [upd_ne hb] at q
      exact (I.hok b u q).stay (fun _ _ _ z => z) (fun c z => by rw [upd_ne (ne_of_none z f0)]; exact z) fun c xs z => by rw [upd_ne (ne_of_none z f0)]; exact z
end

def PTs (X : Cx) (ifs : List Expr) (t : TT) : Prop :=
  ∀ (pins : List (Addr × Obj)) (s : Shared) (σ : St) (H : Hp) (Q : Bool → Hp → Prop), Inv X pins σ H s → t σ H Q →
    wpAny (model X.prog X.w) X.A (forIn ifs true fun c r => if r = true then do let ok ← isTrue c X.env (eval c X.env); pure (ForInStep.yield ok) else pure (ForInStep.yield r)) (TP X pins σ Q) X.xe s
def tYes : TT := fun _ H Q => Q true H
theorem pts_nil {X : Cx} : PTs X [] tYes := fun _ _ _ H _ I h => wpAny_tests_nil ⟨H, I, h⟩
theorem pts_one {X : Cx} {c : Expr} {t : TT} (h : PT X c t) : PTs X [c] t := fun pins s σ H Q I q => wpAny_tests_one (h pins s σ H Q I q)

/-- what the block's turns want: W by the turn, a measure, the items so far -/
def CompW (caps : List (Str × Nat)) (tt : TT) (te : TE) (σ : St) (J : It) (Q : List V → Hp → Prop) (W : Nat → Nat → List V → Hp → Prop) : Prop :=
  ∀ i m ys H, W i m ys H → (J.stop i H ∧ Q ys H) ∨ (J.go i H ∧ ∃ N : List V → Hp → Prop, (∀ ys' H', N ys' H' → ∃ m', m' < m ∧ W (i + 1) m' ys' H') ∧ ∀ x H', J.yld i H x H' → tt (capS caps σ (some x)) H' fun b H2 =>
    if b = true then te (capS caps σ (some x)) H2 (fun y H3 => ys.length < sizeLine ∧ N (ys ++ [y]) H3) else N ys H2)
def tComp (caps : List (Str × Nat)) (wi : TI) (tt : TT) (te : TE) : TE := fun σ H Q => wi σ H fun J H1 =>
  ∃ W : Nat → Nat → List V → Hp → Prop, (∃ m, W 0 m [] H1) ∧ CompW caps tt te σ J (fun ys H2 => ∀ p, H2 p = none → Q (.ref p) (upd H2 p (.lst ys))) W

section
variable {X : Cx} {scope : Scope} {cl : List (Str × Addr)} {t : Str} {caps : List (Str × Nat)} {elt iter : Expr} {ifs : List Expr} {px pos : Pos} {wi : TI} {tt : TT} {te : TE}

theorem comp_block {pins : List (Addr × Obj)} {σ : St} {H : Hp} {s : Shared} {J : It} {fp : List Addr} {it : Addr} {tn : Nat → Heap → Prop} {W : Nat → Nat → List V → Hp → Prop} {QE : List V → Hp → Prop} {E : Value → Shared → Prop} {RR : Value → Addr → Result → Shared → Prop} {m0 : Nat}
    (K : CapOk X scope cl t caps) (hc : X.calm = true)
    (ht : ∀ C s₀ H₀ ex, PTs (cxC X (capN t caps) scope cl C s₀ H₀ ex) ifs tt) (he : ∀ C s₀ H₀ ex, PE (cxC X (capN t caps) scope cl C s₀ H₀ ex) elt te)
    (I : Inv X pins σ H s) (T : Turn X.prog X.w X.K (.Name t px) J fp it tn) (st : tn 0 s.heap) (hf : ∀ b ∈ fp, FpOk X pins H b) (w0 : W 0 m0 [] H) (hW : CompW caps tt te σ J QE W)
    (fin : ∀ D C ys H' s' m, H' D = none → Inv X pins σ (upd H' D (.lst ys)) s' → s'.heap.Ns C m → FpOk X pins (upd H' D (.lst ys)) C → QE ys H' → RR (.ref D) C (.ok .next) s') :
    wpAny (model X.prog X.w) X.A (newList []) (fun acc s₃ => wpAny (model X.prog X.w) X.A (newFunctionEnv scope X.env.globals cl [] X.env.qual none .none (some X.env)) (fun cenv s₄ =>
      codeAny (model X.prog X.w) X.A (.compStart (.ListComp elt [⟨.Name t px, iter, ifs, 0⟩] scope pos) 0 (.ref it) acc { cenv with scope := relabel scope X.env }) (RR acc cenv.locals) s₄) E s₃) E s := by
  refine wpAny_newObj_type (wpAny_newFunctionEnv K.nocell (by intro y hy; simp at hy) (fun h₁ hns₁ hsb₁ => ?_) K.kind)
  dsimp only at hns₁ hsb₁ ⊢
  generalize hH2 : s.heap.push { cls := .type "list", dict := none, data := .seq ([] : List Value).toArray } = H2 at hns₁ hsb₁ ⊢
  have hC : H2.objs.size = s.heap.objs.size + 1 := by rw [← hH2, Heap.size_push]
  have hDC : s.heap.objs.size ≠ H2.objs.size := by rw [hC]; exact Nat.ne_of_lt (Nat.lt_succ_self _)
  have hCle : s.heap.objs.size ≤ H2.objs.size := by rw [hC]; exact Nat.le_succ _
  have below : ∀ b, b < s.heap.objs.size → b ≠ H2.objs.size := fun b hb => by rw [hC]; exact Nat.ne_of_lt (Nat.lt_succ_of_lt hb)
  have old : ∀ b o, s.heap.get? b = some o → h₁.get? b = some o := fun b o e => hsb₁.extBut b o (below b (Heap.lt_size e)) (Heap.get?_push_of_some _ (hH2 ▸ Heap.get?_push_of_some _ e))
  have hacc : h₁.get? s.heap.objs.size = some { cls := .type "list", data := .seq ([] : List Value).toArray } := hsb₁.extBut _ _ hDC (Heap.get?_push_of_some _ (hH2 ▸ Heap.get?_push_size _ rfl))
  have ho : ∀ b ∈ fp, b < s.heap.objs.size := fun b hb => let ⟨_, e, _⟩ := T.obj 0 _ st b hb; Heap.lt_size e
  have hDf : s.heap.objs.size ∉ fp := fun hm => Nat.lt_irrefl _ (ho _ hm)
  have st₁ : tn 0 h₁ := T.keep 0 _ _ st fun b _ o e => old b o e
  have hDfs : s.heap.objs.size ∉ frs X.stack := fun z => by
    rcases List.mem_cons.mp (I.stkSub _ z) with e | e
    · exact absurd (e ▸ I.lt) (Nat.lt_irrefl _)
    · exact I.nofs (Nat.le_refl _) e
  have hDcell : ∀ x c, cl.lookup x = some c → c ≠ s.heap.objs.size := fun x c e z => by
    obtain ⟨v, q⟩ := I.cell x c (K.look e)
    exact absurd (z ▸ q.lt) (Nat.lt_irrefl _)
  -- what stays true of the iterator's objects
  have stat : ∀ {pl : List (Addr × Obj)} {HC : Hp}, (∀ b ∈ fp, HC b = none) → (∀ p ∈ pl, p.1 ∉ fp) → ∀ b ∈ fp, FpOk (cxC X (capN t caps) scope cl H2.objs.size s H fp) pl HC b := fun {pl HC} hn hp b hb =>
    ⟨hn b hb, below b (ho b hb), (okC I K hf ho hCle).exfs b hb, .inl hb, fun x c e => (hf b hb).2.2.2.2.1 x c (K.look e), fun p hpp z => by
      have hpp' : p ∈ pl := hpp
      exact hp p hpp' (z ▸ hb)⟩
  have loop : ∀ s₃ : Shared, s₃ = { s with heap := h₁, toks := s.toks + ([] : List (Str × Value)).length } →
      codeAny (model X.prog X.w) X.A (.compLoop (.ListComp elt [⟨.Name t px, iter, ifs, 0⟩] scope pos) 0 (.ref it) (.ref s.heap.objs.size) (compEnvC scope cl H2.objs.size X.env)) (RR (.ref s.heap.objs.size) H2.objs.size) s₃ := by
    rintro s₃ rfl
    refine codeAny_loop rfl (fun n s' => ∃ i ys its nn HC v0, Inv (cxC X (capN t caps) scope cl H2.objs.size s H fp) [] (capS caps σ v0) HC s' ∧ tn i s'.heap ∧ (∀ b ∈ fp, HC b = none) ∧ HC s.heap.objs.size = none ∧
      s'.heap.get? s.heap.objs.size = some { cls := .type "list", data := .seq its.toArray nn } ∧ Vals ys its ∧ ys.length ≤ sizeLine ∧ W i n ys HC) (fun n s' hI => ?_) m0
      ⟨0, [], [], 0, H, none, invC I K hf ho hCle old hns₁, st₁, fun b hb => (hf b hb).1, I.hok.fresh (Nat.le_refl _), hacc, .nil, Nat.zero_le _, w0⟩
    obtain ⟨i, ys, its, nn, HC, v0, I3, st3, fr3, hD3, e3, r3, z3, w3⟩ := hI
    show wpAny _ X.A ((compTurn (.ListComp elt [⟨.Name t px, iter, ifs, 0⟩] scope pos) 0 (.ref it) (.ref s.heap.objs.size) (compEnvC scope cl H2.objs.size X.env)).onRaise (fun x => do noteFrame x (compEnvC scope cl H2.objs.size X.env); theTreesLotGoes x)) _ _ s'
    refine wpAny_noted ?_
    rw [compTurn_list]
    -- the list is pinned
    have I3p : Inv (cxC X (capN t caps) scope cl H2.objs.size s H fp) [(s.heap.objs.size, { cls := .type "list", data := .seq its.toArray nn })] (capS caps σ v0) HC s' := I3.pins_of fun p hp => by
      have ep : p = (s.heap.objs.size, { cls := .type "list", data := .seq its.toArray nn }) := by simpa using hp
      subst ep
      exact ⟨e3, hD3, hDC, hDfs, fun v z => by cases (show Data.seq its.toArray nn = Data.cell v from z)⟩
    have pD : ∀ p ∈ [((s.heap.objs.size : Addr), ({ cls := .type "list", data := .seq its.toArray nn } : Obj))], p.1 ∉ fp := fun p hp => by
      have ep : p = (s.heap.objs.size, { cls := .type "list", data := .seq its.toArray nn }) := by simpa using hp
      subst ep
      exact hDf
    rcases hW i n ys HC w3 with ⟨stop, q⟩ | ⟨go, N, hN, step⟩
    · refine wpAny_bind (wpAny_standAt (wpAny_bind (thn (T.done (cxC X (capN t caps) scope cl H2.objs.size s H fp) rfl rfl rfl hc i _ s' _ HC _ I3p (stat fr3 pD) st3 stop) fun r s4 ⟨hr, I4⟩ => ?_)))
      subst hr
      refine wpAny_pure ?_
      have I5 : Inv X pins σ HC s4 := I.call' (ch := fp) I4.os I4.base I4.hok I4.bare fun b hb => ⟨(hf b hb).2.2.2.1, (hf b hb).2.1, (hf b hb).2.2.2.2.1, (hf b hb).2.2.2.2.2⟩
      have e4 := (I4.pin _ (List.mem_append_right _ List.mem_cons_self)).1
      have fD : FpOk X pins HC s.heap.objs.size := I.fpOk (Nat.le_refl _) hD3
      have I6 := I5.track fD e4 r3 z3
      obtain ⟨m, hn, _⟩ := I4.loc
      refine fin _ _ ys HC s4 m hD3 I6 hn (I.fpOk hCle ?_) q
      rw [upd_ne (Ne.symm hDC)]
      exact I4.free
    · refine wpAny_bind (wpAny_standAt (wpAny_bind (thn (T.item (cxC X (capN t caps) scope cl H2.objs.size s H fp) rfl rfl rfl hc i _ s' _ HC _ I3p (stat fr3 pD) st3 go) fun r s4 ⟨u, hr, h4⟩ => ?_)))
      subst hr
      refine wpAny_bind (thn h4 fun _ s5 ⟨x, H5, I5, r5, y5, st5, fr5⟩ => ?_)
      have hD5 := (I5.pin _ (List.mem_append_right _ List.mem_cons_self)).2.1
      have I5' := I5.pinned (stat fr5 pD) (T.obj _ _ st5)
      have nox : ∀ {α : Type} {tr : Sem α} {Q : α → Shared → Prop} {E' : Value → Shared → Prop} {sx : Shared}, wpAny (model X.prog X.w) X.A tr Q (fun _ _ => False) sx → wpAny (model X.prog X.w) X.A tr Q E' sx := fun h => wpAny_mono h (fun _ _ z => z) fun _ _ z => z.elim
      refine wpAny_bind (wpAny_assign_Name (store_ok (X := cxC X (capN t caps) scope cl H2.objs.size s H fp) (i := 0) (x := t) I5' K.nd rfl (.inl (lookup_relabel_local K.tgt)) r5 (fun s6 I6 => ?_) (.inr (lookup_relabel_local K.tgt))))
      have e0 : (capS caps σ v0).set 0 (some x) = capS caps σ (some x) := rfl
      rw [e0] at I6
      refine wpAny_bind (nox (thn (ht _ _ _ _ _ s6 _ H5 _ I6 (step x H5 y5)) fun ok s7 ⟨H7, I7, q7⟩ => ?_))
      -- what is known of the pinned objects behind any step
      have pinD : ∀ {σ' : St} {H' : Hp} {sx : Shared}, Inv (cxC X (capN t caps) scope cl H2.objs.size s H fp) ([(s.heap.objs.size, { cls := .type "list", data := .seq its.toArray nn })] ++ pinsAt fp s5.heap) σ' H' sx →
          sx.heap.get? s.heap.objs.size = some { cls := .type "list", data := .seq its.toArray nn } ∧ H' s.heap.objs.size = none ∧ tn (i + 1) sx.heap ∧ (∀ b ∈ fp, H' b = none) := fun {σ' H' sx} Ix => by
        have a := Ix.pin _ (List.mem_append_right _ (List.mem_append_left _ List.mem_cons_self))
        refine ⟨a.1, a.2.1, T.keep _ _ _ st5 fun b hb o e => (Ix.pin (b, o) (List.mem_append_right _ (List.mem_append_right _ (mem_pinsAt hb e)))).1, fun b hb => ?_⟩
        obtain ⟨o, e, d⟩ := T.obj _ _ st5 b hb
        exact (Ix.pin (b, o) (List.mem_append_right _ (List.mem_append_right _ (mem_pinsAt hb e)))).2.1
      have bare : ∀ {pl : List (Addr × Obj)} {σ' : St} {H' : Hp} {sx : Shared}, Inv (cxC X (capN t caps) scope cl H2.objs.size s H fp) pl σ' H' sx → Inv (cxC X (capN t caps) scope cl H2.objs.size s H fp) [] σ' H' sx := fun Ix => Ix.pins_of fun p hp => absurd hp (by simp)
      cases ok with
      | false =>
        rw [if_neg Bool.false_ne_true] at q7
        obtain ⟨m', hm, w7⟩ := hN _ _ q7
        obtain ⟨a1, a2, a3, a4⟩ := pinD I7
        exact wpAny_pure ⟨rfl, m', hm, i + 1, ys, its, nn, H7, some x, bare I7, a3, a4, a2, a1, r3, z3, w7⟩
      | true =>
        rw [if_pos rfl] at q7
        refine wpAny_bind (wpAny_bind (nox (thn (he _ _ _ _ _ s7 _ H7 _ I7 q7) fun y s8 ⟨yv, H8, I8, r8, hz8, n8⟩ => ?_)))
        obtain ⟨m', hm, w8⟩ := hN _ _ n8
        obtain ⟨a1, a2, a3, a4⟩ := pinD I8
        have hlen := r3.length
        refine wpAny_bind (call_meets F.slot_list_append ⟨_, a1, rfl⟩ F.entry_list_append (F.args_list_append_2 _ _) (PySem.list_append s.heap.objs.size its.toArray nn y (by rw [List.size_toArray]; omega)) ⟨a1, ?_⟩)
        obtain ⟨nn', q⟩ : ∃ nn' : Nat, (s8.heap.update s.heap.objs.size (Obj.mapSeq (·.push y))).get? s.heap.objs.size = some { cls := .type "list", data := .seq (its ++ [y]).toArray nn' } := by
          have q := PySem.IsL.update a1 (·.push y)
          have ea : its.toArray.push y = (its ++ [y]).toArray := by simp
          rw [ea] at q
          exact ⟨_, q⟩
        have I9 : Inv (cxC X (capN t caps) scope cl H2.objs.size s H fp) [] (capS caps σ (some x)) H8 { s8 with heap := s8.heap.update s.heap.objs.size (Obj.mapSeq (·.push y)) } :=
          (bare I8).turned (t' := s8.toks) (fun b o hb e => (Heap.get?_update_other _ _ (Ne.symm hb)).trans e) a2 hDC (.inr (Nat.le_refl _)) hDcell (fun p hp => absurd (show p ∈ ([] : List (Addr × Obj)) from hp) (by simp))
        refine wpAny_pure (wpAny_pure ⟨rfl, m', hm, i + 1, ys ++ [yv], its ++ [y], nn', H8, some x, I9, T.keep _ _ _ a3 fun b hb o e => (Heap.get?_update_other _ _ (show s.heap.objs.size ≠ b from fun z => hDf (by rw [z]; exact hb))).trans e, a4, a2, q, r3.append (.cons r8 .nil), ?_, w8⟩)
        · rw [List.length_append, List.length_singleton]; omega
  exact codeAny_compStart_list (loop _ rfl) (T.self _ 0 _ _ _ st₁ (loop _ rfl))

theorem pe_comp (K : CapOk X scope cl t caps) (hc : X.calm = true) (hi : PI X (.Name t px) iter wi)
    (ht : ∀ C s₀ H₀ ex, PTs (cxC X (capN t caps) scope cl C s₀ H₀ ex) ifs tt) (he : ∀ C s₀ H₀ ex, PE (cxC X (capN t caps) scope cl C s₀ H₀ ex) elt te)
    (hs : ∀ x, foldedSetIterable iter X.env x = pure x := by intro _; rfl) : PE X (.ListComp elt [⟨.Name t px, iter, ifs, 0⟩] scope pos) (tComp caps wi tt te) := by
  intro pins s σ H Q I h
  rw [eval_ListComp]
  refine wpAny_comprehension_free (use := none) rfl hs K.clos K.kind K.names (thn (hi pins s σ H _ I h) fun v s1 h1 => thn h1 fun itv s2 h2 => ?_)
  obtain ⟨it, fp, tn, J, H2, e, I2, T, st2, f2, W, ⟨m0, w0⟩, hW⟩ := h2
  subst e
  refine comp_block (RR := fun acc C => compPost (model X.prog X.w) X.A X.xe none (EP X pins σ Q) acc C) K hc ht he I2 T st2 f2 w0 hW ?_
  intro D C ys H' s' m hD I' hn hC q
  refine ⟨m, hn, fun h' hs' => ?_⟩
  obtain ⟨c0, c1, c2, c3, c4, c5⟩ := hC
  exact ⟨.ref D, _, I'.turned (t' := s'.toks) (fun b o hb e => (hs'.2 b hb).trans e) c0 c1 c3 c4 c5, rfl, q D hD⟩

/-- y = [..]: the name is stored before the block's own names go -/
theorem ps_comp {i : Nat} {y : Str} {py spos : Pos} (hN : X.N.Nodup) (hi' : X.N[i]? = some y) (hy : Loc X.env.scope y) (K : CapOk X scope cl t caps) (hc : X.calm = true) (hi : PI X (.Name t px) iter wi)
    (ht : ∀ C s₀ H₀ ex, PTs (cxC X (capN t caps) scope cl C s₀ H₀ ex) ifs tt) (he : ∀ C s₀ H₀ ex, PE (cxC X (capN t caps) scope cl C s₀ H₀ ex) elt te)
    (hsw : swapsWith (.ListComp elt [⟨.Name t px, iter, ifs, 0⟩] scope pos) (some (.Name y py)) spos.line X.env = pure true := by rfl)
    (hs : ∀ x, foldedSetIterable iter X.env x = pure x := by intro _; rfl) (hf : X.fn y = true ∨ X.env.scope.names.lookup y = some .local := by first | exact .inl rfl | exact .inr rfl | assumption) :
    PS X (.Assign [.Name y py] (.ListComp elt [⟨.Name t px, iter, ifs, 0⟩] scope pos) spos) (tAsg (tComp caps wi tt te) (gName i)) := by
  intro pins s σ H D I h
  rw [exec_Assign_Name_used _ _ _ _ hsw]
  refine wpAny_bind (wpAny_standAt (wpAny_bind ?_))
  show wpAny _ X.A (do let _ ← comprehension (.ListComp elt [⟨.Name t px, iter, ifs, 0⟩] scope pos) scope X.env _ (newList []) false (eval iter X.env) (some (assign (.Name y py) X.env))) _ _ s
  refine wpAny_bind (thn (wpAny_comprehension_free (use := some (assign (.Name y py) X.env)) (Q := fun _ s' => SP X pins D .next s') rfl hs K.clos K.kind K.names
    (thn (hi pins s σ H _ I h) fun v s1 h1 => thn h1 fun itv s2 h2 => ?_)) fun _ s' hq => wpAny_pure (wpAny_pure hq))
  obtain ⟨it, fp, tn, J, H2, e, I2, T, st2, f2, W, ⟨m0, w0⟩, hW⟩ := h2
  subst e
  refine comp_block (RR := fun acc C => compPost (model X.prog X.w) X.A X.xe (some (assign (.Name y py) X.env)) (fun _ s' => SP X pins D .next s') acc C) K hc ht he I2 T st2 f2 w0 hW ?_
  intro DD C ys H' s' m hD I' hn hC q
  obtain ⟨c0, c1, c2, c3, c4, c5⟩ := hC
  show wpAny _ X.A (assign (.Name y py) X.env (.ref DD)) _ _ s'
  refine wpAny_assign_Name (store_ok2 (v := .ref DD) I' hN hi' hy rfl (fun s3 I3 ⟨a, hs3, ha⟩ => ?_) hf)
  have hCa : C ≠ a := by
    rcases ha with z | z
    · rw [z]; exact c1
    · exact fun w => c4 y a z w.symm
  refine ⟨m, hn.sameBut hs3 hCa, fun h' hs' => ?_⟩
  exact ⟨_, _, I3.turned (t' := s3.toks) (fun b o hb e => (hs'.2 b hb).trans e) c0 c1 c3 c4 c5, q DD hD⟩
end
theorem comp_range {caps : List (Str × Nat)} {tt : TT} {te : TE} {σ : St} {H : Hp} {lo : Int} {n : Nat} {QE : List V → Hp → Prop} (Pv : Nat → List V → Hp → Prop) (h0 : Pv 0 [] H)
    (hs : ∀ i ys H, i < n → Pv i ys H → tt (capS caps σ (some (.int (lo + i)))) H fun b H2 => if b = true then te (capS caps σ (some (.int (lo + i)))) H2 (fun y H3 => ys.length < sizeLine ∧ Pv (i + 1) (ys ++ [y]) H3) else Pv (i + 1) ys H2)
    (hd : ∀ ys H, Pv n ys H → QE ys H) : ∃ W : Nat → Nat → List V → Hp → Prop, (∃ m, W 0 m [] H) ∧ CompW caps tt te σ (Itr lo n) QE W := by
  refine ⟨fun i m ys H => m = n - i ∧ i ≤ n ∧ Pv i ys H, ⟨n, by simp, Nat.zero_le _, h0⟩, ?_⟩
  rintro i m ys H ⟨rfl, hi, p⟩
  by_cases hlt : i < n
  · refine .inr ⟨hlt, Pv (i + 1), fun ys' H' p' => ⟨n - (i + 1), by omega, rfl, hlt, p'⟩, fun x H' y => ?_⟩
    obtain ⟨e, y⟩ := y
    subst e y
    exact hs i ys _ hlt p
  · have e : i = n := by omega
    subst e
    exact .inl ⟨Nat.le_refl _, hd ys H p⟩
theorem comp_list {K : PySem.W.Frag} {a : Addr} {xs : List V} {caps : List (Str × Nat)} {tt : TT} {te : TE} {σ : St} {H : Hp} {QE : List V → Hp → Prop} (Pv : Nat → List V → Hp → Prop) (h0 : Pv 0 [] H) (hl : ∀ i ys H, i ≤ xs.length → Pv i ys H → SqL K H a xs)
    (hs : ∀ i x ys H, xs[i]? = some x → Pv i ys H → tt (capS caps σ (some x)) H fun b H2 => if b = true then te (capS caps σ (some x)) H2 (fun y H3 => ys.length < sizeLine ∧ Pv (i + 1) (ys ++ [y]) H3) else Pv (i + 1) ys H2)
    (hd : ∀ ys H, Pv xs.length ys H → QE ys H) : ∃ W : Nat → Nat → List V → Hp → Prop, (∃ m, W 0 m [] H) ∧ CompW caps tt te σ (Itl K a) QE W := by
  refine ⟨fun i m ys H => m = xs.length - i ∧ i ≤ xs.length ∧ Pv i ys H, ⟨xs.length, by simp, Nat.zero_le _, h0⟩, ?_⟩
  rintro i m ys H ⟨rfl, hi, p⟩
  have q := hl i ys H hi p
  by_cases hlt : i < xs.length
  · refine .inr ⟨⟨xs, xs[i], q, by simp [hlt]⟩, Pv (i + 1), fun ys' H' p' => ⟨xs.length - (i + 1), by omega, rfl, hlt, p'⟩, fun x H' y => ?_⟩
    obtain ⟨e, y⟩ := y
    subst e
    exact hs i x ys _ (y xs q) p
  · have e : i = xs.length := by omega
    subst e
    exact .inl ⟨⟨xs, q, Nat.le_refl _⟩, hd ys H p⟩
/-- .. without tests -/
theorem comp_range0 {caps : List (Str × Nat)} {te : TE} {σ : St} {H : Hp} {lo : Int} {n : Nat} {QE : List V → Hp → Prop} (Pv : Nat → List V → Hp → Prop) (h0 : Pv 0 [] H)
    (hs : ∀ i ys H, i < n → Pv i ys H → te (capS caps σ (some (.int (lo + i)))) H (fun y H3 => ys.length < sizeLine ∧ Pv (i + 1) (ys ++ [y]) H3))
    (hd : ∀ ys H, Pv n ys H → QE ys H) : ∃ W : Nat → Nat → List V → Hp → Prop, (∃ m, W 0 m [] H) ∧ CompW caps tYes te σ (Itr lo n) QE W :=
  comp_range Pv h0 (fun i ys H hi p => by
    show if true = true then _ else Pv (i + 1) ys H
    rw [if_pos rfl]
    exact hs i ys H hi p) hd
end L2

namespace L2
open PySem PySem.Spec PyProof.Rows

theorem bt_list : bootBuiltins "list" = some (.type "list") := by decide +kernel
theorem bt_int : bootBuiltins "int" = some (.type "int") := by decide +kernel
theorem bt_bool : bootBuiltins "bool" = some (.type "bool") := by decide +kernel
theorem bt_max : bootBuiltins "max" = some (.builtin "max") := by decide +kernel
theorem bt_isinstance : bootBuiltins "isinstance" = some (.builtin "isinstance") := by decide +kernel
section
variable {X : Cx}
def rIndex : V → List V → Hp → VK → Prop := fun x vs H Q => ∃ (l : Addr) (ns : List Int) (k : Int), x = .ref l ∧ vs = [.int k] ∧ H l = some (.lst (ns.map V.int)) ∧ k ∈ ns ∧ Q (.int (ns.idxOf k : Nat)) H
theorem mt_index : MtM X "list.index" rIndex := by
  intro pins s σ H x vs v us Q I rx rv h
  obtain ⟨l, ns, k, rfl, rfl, hH, hk, q⟩ := h
  cases rx
  obtain ⟨u, rfl, ru⟩ := rv.one
  obtain ⟨t, rfl⟩ := ru
  obtain ⟨z, its, n, r, hl, e⟩ := I.lstM hH
  have hi := intsAre_of r
  have hlen := hi.length
  rw [List.length_map] at hl z
  have hs : sizeLine = 16777216 := sizeLine_eq
  have hj : ns.idxOf k < ns.length := List.idxOf_lt_length_iff.mpr hk
  refine call_meets PySem.F.slot_list_index ⟨_, e, rfl⟩ PySem.F.entry_list_index (PySem.F.args_list_index_2 _ _)
    (SeqAt.list_indexAt l its.toArray n none #[] (.int k t) (isInt k) (ns.idxOf k) (by simpa [hlen] using hj) (by omega) ?_ ?_) ⟨e, fun y hy => (eq_isInt k t hi y (by simpa using hy)).at _ _, ⟨.int (ns.idxOf k : Nat), H, I.tok _, ⟨_, rfl⟩, q⟩⟩
  · show isInt k its[ns.idxOf k] = true
    rw [isInt_at k hi _ (by omega) hj]
    simpa using List.getElem_idxOf hj
  · intro j hjs hlt
    show isInt k its[j] = false
    rw [isInt_at k hi j (by simpa using hjs) (by omega)]
    exact ne_of_lt_idxOf hlt _
def rCount : V → List V → Hp → VK → Prop := fun x vs H Q => ∃ (l : Addr) (ns : List Int) (k : Int), x = .ref l ∧ vs = [.int k] ∧ H l = some (.lst (ns.map V.int)) ∧ Q (.int (ns.count k : Nat)) H
theorem mt_count : MtM X "list.count" rCount := by
  intro pins s σ H x vs v us Q I rx rv h
  obtain ⟨l, ns, k, rfl, rfl, hH, q⟩ := h
  cases rx
  obtain ⟨u, rfl, ru⟩ := rv.one
  obtain ⟨t, rfl⟩ := ru
  obtain ⟨z, its, n, r, hl, e⟩ := I.lstM hH
  exact count_list_ints (PySem.IsL.isList e) (intsAre_of r) ⟨.int (ns.count k : Nat), H, I.tok _, ⟨_, rfl⟩, q⟩
end

def eqLV : List V → List V → Bool
  | [], [] => true
  | x :: xs, y :: ys => eqV x y && eqLV xs ys
  | _, _ => false
theorem eqLV_len : ∀ {xs ys : List V}, xs.length ≠ ys.length → eqLV xs ys = false
  | [], [], h => absurd rfl h
  | [], _ :: _, _ => rfl
  | _ :: _, [], _ => rfl
  | x :: xs, y :: ys, h => by
    have ih := eqLV_len (xs := xs) (ys := ys) fun e => h (by simp [e])
    show (eqV x y && eqLV xs ys) = false
    rw [ih, Bool.and_false]
theorem eqLV_range : ∀ {xs ys : List V}, xs.length = ys.length → (List.range xs.length).all (fun j => eqV (xs.getD j .non) (ys.getD j .non)) = eqLV xs ys
  | [], [], _ => rfl
  | x :: xs, y :: ys, h => by
    have ih := eqLV_range (xs := xs) (ys := ys) (by simpa using h)
    rw [List.length_cons, List.range_succ_eq_map, List.all_cons, List.all_map]
    show (eqV x y && _) = (eqV x y && eqLV xs ys)
    rw [← ih]
    rfl
  | [], _ :: _, h => by simp at h
  | _ :: _, [], h => by simp at h
theorem eqV_int (a b : Int) : eqV (.int a) (.int b) = decide (a = b) := by
  show (a == b) = _
  rw [Bool.beq_eq_decide_eq]
theorem eqLV_ints : ∀ (xs ys : List Int), eqLV (xs.map V.int) (ys.map V.int) = decide (xs = ys)
  | [], [] => rfl
  | [], _ :: _ => rfl
  | _ :: _, [] => rfl
  | x :: xs, y :: ys => by
    have ih := eqLV_ints xs ys
    show (eqV (.int x) (.int y) && eqLV (xs.map V.int) (ys.map V.int)) = _
    rw [ih, eqV_int]
    by_cases h1 : x = y
    · by_cases h2 : xs = ys
      · simp [h1, h2]
      · simp [h1, h2]
    · simp [h1]
theorem flat_ints (xs : List Int) : (xs.map V.int).all flatV = true := by
  rw [List.all_map]
  exact List.all_eq_true.mpr fun _ _ => rfl
section
variable {X : Cx}
def rEqL (K : PySem.W.Frag) : R2 := fun x y H Q => ∃ p q xs ys, x = .ref p ∧ y = .ref q ∧ SqL K H p xs ∧ SqL K H q ys ∧ xs.all flatV = true ∧ ys.all flatV = true ∧ Q (.bl (eqLV xs ys)) H
theorem op_eqL (hu : X.A.units < cLine) : OpR X (compareOp .Eq) (rEqL X.K) := by
  intro pins s σ H x y v u Q I rx ry h
  obtain ⟨p, q, xs, ys, rfl, rfl, hx, hy, fx, fy, hq⟩ := h
  cases rx
  cases ry
  obtain ⟨its, r, pl, hz⟩ := I.list hx
  obtain ⟨its2, r2, pl2, hz2⟩ := I.list hy
  have hl := r.length
  have hl2 := r2.length
  by_cases e : xs.length = ys.length
  · refine SeqAt.eq_listAt (e := fun j => eqV (xs.getD j .non) (ys.getD j .non)) pl.isList pl2.isList (by rw [List.size_toArray, List.size_toArray]; omega) hu (fun j h1 h2 => ?_) ⟨.bl (eqLV xs ys), H, I, ?_, hq⟩
    · have j1 : j < xs.length := by rw [List.size_toArray] at h1; omega
      have j2 : j < ys.length := by omega
      obtain ⟨a, ea, ra⟩ := r.get (i := j) (x := xs[j]) (by simp [j1])
      obtain ⟨b, eb, rb⟩ := r2.get (i := j) (x := ys[j]) (by simp [j2])
      obtain ⟨_, ea'⟩ := List.getElem?_eq_some_iff.mp ea
      obtain ⟨_, eb'⟩ := List.getElem?_eq_some_iff.mp eb
      have g1 : xs.getD j .non = xs[j] := by simp [j1]
      have g2 : ys.getD j .non = ys[j] := by simp [j2]
      show SeqAt.EqAt _ _ its.toArray[j] its2.toArray[j] (eqV (xs.getD j .non) (ys.getD j .non))
      rw [g1, g2]
      have f1 : flatV xs[j] = true := List.all_eq_true.mp fx _ (List.getElem_mem j1)
      have f2 : flatV ys[j] = true := List.all_eq_true.mp fy _ (List.getElem_mem j2)
      have z := eqAt_V (A := X.A.in1) (s := s) ra rb f1 f2
      have a1 : its.toArray[j] = a := by simpa using ea'
      have a2 : its2.toArray[j] = b := by simpa using eb'
      rw [a1, a2]
      exact z
    · show Value.bool _ = Value.bool _
      rw [List.size_toArray, ← hl, eqLV_range e]
  · refine SeqAt.eq_list_lengthsAt pl.isList pl2.isList ?_ hu ⟨.bl (eqLV xs ys), H, I, ?_, hq⟩
    · rw [List.size_toArray, List.size_toArray, ← hl, ← hl2]
      exact bne_iff_ne.mpr e
    · show Value.bool _ = Value.bool _
      rw [eqLV_len e]

/-- xs[i] by values, as an augmented store asks it -/
theorem get_list : PGet X (rIxL X.K) := by
  intro pins s σ H o i ov iv Q I ro ri h
  obtain ⟨p, xs, k, z, rfl, rfl, hq, he, q⟩ := h
  cases ro
  obtain ⟨t, rfl⟩ := ri
  obtain ⟨its, r, pl, hz⟩ := I.list hq
  obtain ⟨j, h1, h2, h3, h4, h5⟩ := atI_get he
  obtain ⟨w, ew, rw'⟩ := r.get h2
  have hl := r.length
  have hn := line63
  have fin : EP X pins σ Q w s := ⟨z, H, I, rw', q⟩
  by_cases h0 : 0 ≤ k
  · have hj : k.toNat = j := by
      rw [seqIndex_of h0 h5] at h1
      exact Option.some.inj h1
    exact wpAny_getItem_list pl.isList h0 (by omega) (by rw [hj]; simpa using ew) fin
  · have hj : (k + (its.toArray.size : Int)).toNat = j := by
      rw [seqIndex_neg (by omega) h4] at h1
      rw [List.size_toArray, ← hl]
      exact Option.some.inj h1
    exact wpAny_getItem_list_neg pl.isList (by omega) (by rw [List.size_toArray] <;> omega) (by omega) (by rw [hj]; simpa using ew) fin
theorem call_isi : CallR X (.builtin "isinstance") (fun xs H Q => ∃ x n t b, xs = [x, .ty n] ∧ TyOf X.K H x t ∧ PySem.W.kitOne X.K t (.type n) = some b ∧ Q (.bl b) H) := by
  intro pins s σ H xs us Q I r h
  obtain ⟨x, n, t, b, rfl, ty, e, q⟩ := h
  obtain ⟨u, c, rfl, ru, rc⟩ := vals2 r
  obtain rfl : c = Value.type n := rc
  exact isinst_ok I ru ty e fun tk => ⟨.bl b, H, I.tok _, rfl, q⟩
theorem kit_ii (K : PySem.W.Frag) : PySem.W.kitOne K (.type "int") (.type "int") = some true := rfl
theorem kit_ll (K : PySem.W.Frag) : PySem.W.kitOne K (.type "list") (.type "list") = some true := rfl
theorem kit_ib (K : PySem.W.Frag) : PySem.W.kitOne K (.type "int") (.type "bool") = some false := by with_unfolding_all rfl
end
end L2

namespace L2
open PySem PySem.Spec PyProof.Rows
section
variable {X : Cx}
end
end L2

namespace PySem.W
open PySem PySem.Spec PySem.Calls PyProof.Rows Builtin Builtin.ObjectAttr Builtin.Getset_descriptor

section
variable {prog : Program} {w : World} {A : Around} {E : Value → Shared → Prop} {s : Shared} {K : Frag} {x C : Addr}
theorem lx_find {M : Model} {h : Heap} {v a g : Value} {name : Str} (X : K.In h) (ha : findIn K (.ref C) name = some (some a)) (hg : specialIn K a "__get__" = some (some g)) (ht : takesIn K a = some true) :
    Looks M h (find v (.ref C) name) (.bind g a) := by
  have L1 := looks_findIn (M := M) X ha
  have L2 : Looks M h (getOf (some a)) (some g) := looks_specialIn X hg
  have L3 := looks_takesIn (M := M) X ht
  exact L1.andThen (L2.andThen ((show Looks M h (dataDescriptor? (some a) (some g)) (some (g, a)) from L3.andThen .now).andThen (Looks.tag .now)))
theorem lx_class_get {R : Result → Shared → Prop} {tp : Value} (X : K.In s.heap) (L0 : Looks (model prog w) s.heap (typeOf (.ref x)) (.ref C)) (hm : mroIn K C (.type "object") = some true)
    (h : R (.ok (.ret (.ref C))) s) : codeAny (model prog w) A (.call (.builtin "getset_descriptor.__get__") ⟨[.builtin "object.__class__", .ref x, tp], []⟩) R s := by
  obtain ⟨hh, g, dr, t, os⟩ := s
  have L1 := looks_mroIn (M := model prog w) X hm
  refine codeAny_call_builtin KF.slot_gs.plain KF.entry_gs (KF.slot_gs.check _ _ _ _ _ _ _ _ KF.type_class (KF.args_gs _ _ _) ?_)
  unfold Builtin.«getset_descriptor.__get__» descrGet
  rw [dga_obj]
  refine wpAny_bind (wpAny_pure ?_)
  unfold descrGetter descrCheckInstance descrNameAndClass isInstance
  simp only [KF.owner_class]
  repeat lk
  refine ⟨Code.quiet_builtin _ (by decide +kernel), codeAny_builtin KF.entry_class ?_⟩
  unfold Builtin.«object.__class__» shownTypeOf
  repeat lk
  exact h
theorem lx_entry {tk : Tok} {Q : Fin → Shared → Prop} (X : K.In s.heap) (L0 : Looks (model prog w) s.heap (typeOf (.ref x)) (.ref C)) (hm : mroIn K C (.type "object") = some true)
    (ha : findIn K (.ref C) "__class__" = some (some (.builtin "object.__class__"))) (hn : specialIn K (.builtin "object.__class__") "__get__" = some (some (.builtin "getset_descriptor.__get__"))) (htk : takesIn K (.builtin "object.__class__") = some true)
    (h : Q (.done (.ret (.ref C))) s) : wpAny (model prog w) A (Builtin.«object.__getattribute__» ⟨[.ref x, .str "__class__" tk], []⟩) Q E s := by
  obtain ⟨hh, g, dr, t, os⟩ := s
  have L1 := lx_find (M := model prog w) (v := .ref x) X ha hn htk
  refine wpAny_bind (wpAny_pure (wpAny_bind (wpAny_pure (wpAny_bind (L0.at (wpAny_bind (L1.at ?_)))))))
  show wpAny _ _ (holding [.builtin "object.__class__"] (call (.builtin "getset_descriptor.__get__") [.builtin "object.__class__", .ref x, .ref C]) >>= ret) _ _ _
  exact wpAny_bind (wpAny_holding (wpAny_call (lx_class_get X L0 hm (wpAny_pure h))))
theorem bexc_bind (self : Value) : bindSpecial (.builtin "BaseException.__getattribute__") self = pure (.builtin "BaseException.__getattribute__", [self]) := F.excAttr_ValueError.ga.bind self
theorem bexc_check {M : Model} {Q : Unit → Shared → Prop} (X : K.In s.heap) (L0 : Looks M s.heap (typeOf (.ref x)) (.ref C)) (hb : mroIn K C (.type "BaseException") = some true) (b : Value)
    (hQ : Q () s) : wpAny M A (checkBuiltinCall "BaseException.__getattribute__" ⟨[.ref x, b], []⟩) Q E s := by
  obtain ⟨hh, g, dr, t, os⟩ := s
  have L1 := looks_mroIn (M := M) X hb
  have hk : builtinKind "BaseException.__getattribute__" = some .slot := by decide +kernel
  have hsplit : splitId "BaseException.__getattribute__" = some ("BaseException", "__getattribute__") := by decide +kernel
  have ha := F.args_bexc_ga (.ref x) b
  simp only [checkBuiltinCall, hk, hsplit]
  unfold isInstance
  repeat lk
  exact hQ
theorem lx_class_by {tk : Tok} {Q : Value → Shared → Prop} (X : K.In s.heap) (L0 : Looks (model prog w) s.heap (typeOf (.ref x)) (.ref C)) (hm : mroIn K C (.type "object") = some true) (hb : mroIn K C (.type "BaseException") = some true)
    (hga : findIn K (.ref C) "__getattribute__" = some (some (.builtin "BaseException.__getattribute__"))) (hgb : findIn K (.ref C) "__getattr__" = some none)
    (ha : findIn K (.ref C) "__class__" = some (some (.builtin "object.__class__"))) (hn : specialIn K (.builtin "object.__class__") "__get__" = some (some (.builtin "getset_descriptor.__get__"))) (htk : takesIn K (.builtin "object.__class__") = some true)
    (h : Q (.ref C) s) : wpAny (model prog w) A (getAttrBy (.ref x) (.str "__class__" tk) false) Q E s := by
  obtain ⟨hh, g, dr, t, os⟩ := s
  have L1 := looks_findIn (M := model prog w) X hga
  have L2 := looks_findIn (M := model prog w) X hgb
  unfold getAttrBy
  refine wpAny_holding (wpAny_bind (L0.at (wpAny_bind (L1.at ?_))))
  show wpAny _ _ (getAttrByItsOwn _ _ _ _ _ _) _ _ _
  unfold getAttrByItsOwn
  refine wpAny_bind (show wpAny _ _ (typeLookup (.ref C) "__getattr__") _ _ _ from L2.at (wpAny_bind (wpAny_attempt (wpAny_holding ?_))))
  show wpAny _ _ (boundAndCalled _ _ _) _ _ _
  unfold boundAndCalled
  rw [bexc_bind]
  refine wpAny_bind (wpAny_pure ?_)
  show wpAny _ _ (call (.builtin "BaseException.__getattribute__") [.ref x, .str "__class__" tk]) _ _ _
  refine wpAny_call (codeAny_call_builtin F.excAttr_ValueError.ga.plain F.entry_bexc_ga (bexc_check X L0 hb _ (lx_entry X L0 hm ha hn htk ?_)))
  exact wpAny_pure h
theorem lx_class {Q : Option Value → Shared → Prop} (X : K.In s.heap) (L0 : Looks (model prog w) s.heap (typeOf (.ref x)) (.ref C)) (hm : mroIn K C (.type "object") = some true) (hb : mroIn K C (.type "BaseException") = some true)
    (hga : findIn K (.ref C) "__getattribute__" = some (some (.builtin "BaseException.__getattribute__"))) (hgb : findIn K (.ref C) "__getattr__" = some none)
    (ha : findIn K (.ref C) "__class__" = some (some (.builtin "object.__class__"))) (hn : specialIn K (.builtin "object.__class__") "__get__" = some (some (.builtin "getset_descriptor.__get__"))) (htk : takesIn K (.builtin "object.__class__") = some true)
    (h : Q (some (.ref C)) { s with toks := s.toks + 1 }) : wpAny (model prog w) A (getAttr? (.ref x) "__class__") Q E s := by
  unfold getAttr? getAttrBy?
  refine wpAny_bind (wpAny_mkText (wpAny_bind (wpAny_attempt (lx_class_by (s := { s with toks := s.toks + 1 }) X L0 hm hb hga hgb ha hn htk (wpAny_pure h)))))
end
/-- what of the text an own exception's class must have -/
structure XCls (K : Frag) (C : Addr) : Prop where
  ob : mroIn K C (.type "object") = some true
  be : mroIn K C (.type "BaseException") = some true
  ga : findIn K (.ref C) "__getattribute__" = some (some (.builtin "BaseException.__getattribute__"))
  gb : findIn K (.ref C) "__getattr__" = some none
  cc : findIn K (.ref C) "__class__" = some (some (.builtin "object.__class__"))
  cg : specialIn K (.builtin "object.__class__") "__get__" = some (some (.builtin "getset_descriptor.__get__"))
  ct : takesIn K (.builtin "object.__class__") = some true
theorem XCls.cl {K : Frag} {C : Addr} (c : XCls K C) : (clsIn K C).isSome = true := by
  obtain ⟨cd, h, _⟩ := Option.bind_eq_some_iff.mp c.ob
  rw [h]; rfl
theorem kitx_exc {K : Frag} {x C : Addr} (c : XCls K C) : KitX K (.ref x) (.ref C) (fun h => ∃ o, h.get? x = some o ∧ o.cls = .ref C) where
  ty := fun M h _ ⟨o, h1, h2⟩ => h2 ▸ (Looks.ld h1).andThen .now
  it := fun _ _ X _ => by
    obtain ⟨cdD, hcD⟩ := Option.isSome_iff_exists.mp c.cl
    unfold clsIn at hcD
    split at hcD
    · rename_i c' d' cd' sl' ho
      intro A' Q' E' s' k q
      unfold isType loadHead
      exact wpAny_bind (wpAny_loadPart (k _ _ (X _ _ ho)) (wpAny_pure q))
    · cases hcD
  ne := fun h tp dd its n sl X htp => by
    obtain ⟨cdD, hcD⟩ := Option.isSome_iff_exists.mp c.cl
    refine Bool.eq_false_iff.mpr fun q => ?_
    have e : C = tp := Value.ref.inj (beq_iff_eq.mp q)
    subst e
    unfold clsIn at hcD
    split at hcD
    · rename_i c' d' cd' sl' ho
      have z := (X _ _ ho).symm.trans htp
      cases z
    · cases hcD
  ca := fun X ⟨o, h1, h2⟩ k => lx_class X (h2 ▸ (Looks.ld h1).andThen .now) c.ob c.be c.ga c.gb c.cc c.cg c.ct k
end PySem.W
namespace L2
open PySem PySem.Spec PyProof.Rows PySem.W
/-- a caught exception -/
def xo (e : Addr) (cls : Value) : HO := .ext fun h => ∃ o, h.get? e = some o ∧ o.cls = cls
theorem xo_ok {P : Program} {w : World} {H : Hp} {h : Heap} {e : Addr} {cls : Value} (x : ∃ o, h.get? e = some o ∧ o.cls = cls) : ObjOk P w H h e (xo e cls) :=
  ⟨x, let ⟨o, e1, _⟩ := x; ⟨o, e1⟩, fun h1 h2 ⟨o, e1, e2⟩ k => ⟨o, k o e1, e2⟩⟩
/-- isinstance(e, C) of a caught exception -/
theorem call_isx {X : Cx} : CallR X (.builtin "isinstance") (fun xs H Q => ∃ (e C : Addr) (c : V) (cv : Value) (b : Bool), xs = [.ref e, c] ∧ ((∃ D, c = .ref D ∧ cv = .ref D) ∨ ∃ n, c = .ty n ∧ cv = .type n) ∧ XCls X.K C ∧ H e = some (xo e (.ref C)) ∧ kitOne X.K (.ref C) cv = some b ∧ Q (.bl b) H) := by
  intro pins s σ H xs us Q I r h
  obtain ⟨e, C, c, cv, b, rfl, hc, xc, he, hk, q⟩ := h
  obtain ⟨u, u2, rfl, ru, rc⟩ := vals2 r
  obtain rfl : u = Value.ref e := ru
  have ec : u2 = cv := by
    rcases hc with ⟨D, rfl, rfl⟩ | ⟨n, rfl, rfl⟩
    · exact rc
    · exact rc
  subst ec
  obtain ⟨p, _⟩ := (show ObjOk X.prog X.w H s.heap e (xo e (.ref C)) from I.hok e _ he)
  exact kia_one (kitx_exc xc) I.kIn p hk (fun z => nomatch z) fun tk => ⟨.bl b, H, I.tok _, rfl, q⟩
end L2

namespace L2
open PySem PySem.Spec PyProof.Rows

/-- a new exception that no frame has noted -/
def MadeW (B : Heap) (l : List Env) (e : Addr) (cls a0 : Value) (h : Heap) : Prop :=
  B.StaysIn h ∧ B.get? e = none ∧ h.FunFrames B l ∧ ∃ oe vs, h.get? e = some oe ∧ oe.cls = cls ∧ oe.data = .fields vs ∧ vs[0]? = some a0 ∧ vs[1]? = some .none
/-- any heap that keeps B, and all else up to slots, bears the state -/
def Bears (X : Cx) (pins : List (Addr × Obj)) (σ : St) (H : Hp) (B : Heap) (s : Shared) : Prop :=
  ∀ (h' : Heap) (tk : Nat), B.StaysIn h' → s.heap.UpToSlots h' → Inv X pins σ H { s with heap := h', toks := tk }
structure NewTo (X : Cx) (pins : List (Addr × Obj)) (H : Hp) (e : Addr) : Prop where
  old : X.s₀.heap.get? e = none
  loc : e ≠ X.env.locals
  fs : e ∉ X.fs
  cell : ∀ x c, X.env.cells.lookup x = some c → c ≠ e
  pin : ∀ p ∈ X.pn ++ pins, p.1 ≠ e
  free : H e = none
abbrev XR := St → Value → Hp → Prop
/-- an exception that comes up in a body -/
def XP (X : Cx) (pins : List (Addr × Obj)) (R : XR) (x : Value) (s' : Shared) : Prop :=
  ∃ (e : Addr) (cls a0 : Value) (B : Heap) (σ : St) (H : Hp), x = .ref e ∧ (MadeW B X.stack e cls a0 s'.heap ∨ Heap.FlyingW B X.stack e cls a0 s'.heap) ∧ Bears X pins σ H B s' ∧ NewTo X pins H e ∧ R σ cls H
/-- an exception behind a call -/
def CXO (P : Program) (w : World) : CXT := fun outer H s E x s' =>
  ∃ (e : Addr) (cls a0 : Value) (B : Heap) (H' : Hp), x = .ref e ∧ s'.os = s.os ∧ AllBare s'.gens ∧ s.heap.get? e = none ∧ H' e = none ∧ Heap.FlyingW B outer e cls a0 s'.heap ∧
    (∀ h', B.StaysIn h' → s'.heap.UpToSlots h' → Un (frs outer) [] H H' s.heap h' ∧ HOk P w H' h') ∧ E cls none H'
theorem pass1 {P : Program} {w : World} {X : Cx} : Passes (CXO P w) X E0 := fun _ _ _ _ _ _ _ ⟨_, _, _, _, _, _, _, _, _, _, _, _, h⟩ => h.elim
section
variable {X : Cx} {pins : List (Addr × Obj)} {σ : St} {H H' : Hp} {s s' : Shared}
theorem Inv.newTo (I : Inv X pins σ H s) (hex : X.ex = []) {e : Addr} (h : s.heap.get? e = none) (hn : H' e = none) : NewTo X pins H' e := by
  have old : X.s₀.heap.get? e = none := by
    cases q : X.s₀.heap.get? e with
    | none => rfl
    | some o =>
      obtain ⟨o', z⟩ := I.base.there e o q (by rw [hex]; simp)
      rw [h] at z; cases z
  refine ⟨old, fun z => ?_, fun z => ?_, fun x c q z => ?_, fun p hp z => ?_, hn⟩
  · obtain ⟨m, ⟨o, _, _, ho, _⟩, _⟩ := I.loc
    rw [← z, h] at ho; cases ho
  · obtain ⟨_, o, ho, _⟩ := I.ok.funs.mem z
    rw [old] at ho; cases ho
  · obtain ⟨v, o, ho, _⟩ := I.cell x c q
    rw [z, h] at ho; cases ho
  · have := (I.pin p hp).1
    rw [z, h] at this; cases this
/-- an exception of a callee comes up -/
theorem Inv.comes {E : XK} {x : Value} (I : Inv X pins σ H s) (hex : X.ex = []) (h : CXO X.prog X.w X.stack H s E x s') : XP X pins (fun σ' cls H' => σ' = σ ∧ E cls none H') x s' := by
  obtain ⟨e, cls, a0, B, H', rfl, os, bare, new, free, fl, keep, q⟩ := h
  refine ⟨e, cls, a0, B, σ, H', rfl, .inr fl, fun h' tk k u => ?_, I.newTo hex new free, rfl, q⟩
  obtain ⟨un, hok⟩ := keep h' k u
  exact I.call' (s' := { s' with heap := h', toks := tk }) (ch := []) os un hok bare (fun b z => absurd z (by simp))
theorem XP.imp {R R' : XR} {x : Value} (h : XP X pins R x s') (hR : ∀ σ cls H, R σ cls H → R' σ cls H) : XP X pins R' x s' := by
  obtain ⟨e, cls, a0, B, σ, H, e1, e2, e3, e4, q⟩ := h
  exact ⟨e, cls, a0, B, σ, H, e1, e2, e3, e4, hR _ _ _ q⟩
/-- the state itself -/
theorem Bears.now {B : Heap} (b : Bears X pins σ H B s) (k : B.StaysIn s.heap) : Inv X pins σ H s := b s.heap s.toks k (Heap.UpToSlots.refl _)
end

abbrev TEX := St → Hp → VK → (Value → Hp → Prop) → Prop
abbrev TSX := Ends → XR → St → Hp → Prop
def PEX (X : Cx) (e : Expr) (t : TEX) : Prop :=
  ∀ (pins : List (Addr × Obj)) (s : Shared) (σ : St) (H : Hp) (Q : VK) (R : Value → Hp → Prop), Inv X pins σ H s → t σ H Q R →
    wpAny (model X.prog X.w) X.A (eval e X.env) (EP X pins σ Q) (XP X pins fun σ' cls H' => σ' = σ ∧ R cls H') s
def PSX (X : Cx) (st : Stmt) (t : TSX) : Prop :=
  ∀ (pins : List (Addr × Obj)) (s : Shared) (σ : St) (H : Hp) (D : Ends) (R : XR), Inv X pins σ H s → t D R σ H → wpAny (model X.prog X.w) X.A (exec st X.env) (SP X pins D) (XP X pins R) s
def PSsX (X : Cx) (st : List Stmt) (t : TSX) : Prop :=
  ∀ (pins : List (Addr × Obj)) (s : Shared) (σ : St) (H : Hp) (D : Ends) (R : XR), Inv X pins σ H s → t D R σ H → wpAny (model X.prog X.w) X.A (execs st X.env) (SP X pins D) (XP X pins R) s

section
variable {X : Cx} {e : Expr} {te : TE} {tx : TEX} {t : TS} {ts us : TSX} {st : Stmt} {sts rest : List Stmt} {pos : Pos}
theorem pssx_of (h : PSs X.nox sts t) : PSsX X sts (fun D _ σ H => t D σ H) := fun pins s σ H D R I q =>
  wpAny_mono (h pins s σ H D (I.wish _) q) (fun _ _ z => z.unwish) fun _ _ z => z.elim
def txSeq (t u : TSX) : TSX := fun D R σ H => t { D with nx := u D R } R σ H
theorem pssx_cons (h1 : PSX X st ts) (h2 : PSsX X rest us) : PSsX X (st :: rest) (txSeq ts us) := by
  intro pins s σ H D R I h
  refine wpAny_execs_cons (thn (h1 pins s σ H _ R I h) fun f s1 hq => ?_)
  cases f with
  | next =>
    obtain ⟨σ', H', I', q⟩ := hq
    exact h2 pins s1 σ' H' D R I' q
  | brk => exact hq
  | cont => exact hq
  | ret u => exact hq
theorem pssx_one (h1 : PSX X st ts) : PSsX X [st] ts := by
  intro pins s σ H D R I h
  refine wpAny_execs_cons (thn (h1 pins s σ H D R I h) fun f s1 q => ?_)
  cases f with
  | next => exact wpAny_execs_nil q
  | ret v => exact q
  | brk => exact q
  | cont => exact q
def txNext : TSX := fun D _ σ H => D.nx σ H
theorem pssx_nil : PSsX X [] txNext := fun _ _ σ H _ _ I h => wpAny_execs_nil ⟨σ, H, I, h⟩
theorem nx {α : Type} {M : Model} {A : Around} {tr : Sem α} {Q Q' : α → Shared → Prop} {E : Value → Shared → Prop} {s : Shared} (h : wpAny M A tr Q (fun _ _ => False) s) (hQ : ∀ a s, Q a s → Q' a s) : wpAny M A tr Q' E s :=
  wpAny_mono h hQ fun _ _ z => z.elim
def txDrop (te : TEX) : TSX := fun D R σ H => te σ H (fun _ H1 => D.nx σ H1) (R σ)
theorem XP.at {pins : List (Addr × Obj)} {σ : St} {R : XR} {x : Value} {s' : Shared} (h : XP X pins (fun σ' cls H' => σ' = σ ∧ R σ cls H') x s') : XP X pins R x s' := h.imp fun _ _ _ ⟨e, q⟩ => e ▸ q
theorem psx_expr (he : PEX X e tx) (hs : swapsWith e none pos.line X.env = pure false := by rfl) : PSX X (.Expr e pos) (txDrop tx) := by
  intro pins s σ H D R I h
  exact wpAny_Expr_any (wpAny_mono (he pins s σ H _ _ I h) (fun v s1 ⟨x, H1, I1, r1, q1⟩ => ⟨σ, H1, I1, q1⟩) fun _ _ z => z.at) I.quiet hs
def txRet (te : TEX) : TSX := fun D R σ H => te σ H D.rt (R σ)
theorem psx_ret (he : PEX X e tx) : PSX X (.Return (some e) pos) (txRet tx) := by
  intro pins s σ H D R I h
  exact wpAny_Return_some (wpAny_mono (he pins s σ H _ _ I h) (fun v s1 ⟨x, H1, I1, r1, q1⟩ => ⟨x, σ, H1, I1, r1, q1⟩) fun _ _ z => z.at)
def txIf (c : TT) (t u : TSX) : TSX := fun D R σ H => c σ H fun b H1 => if b = true then t D R σ H1 else u D R σ H1
theorem psx_if {c : Expr} {a b : List Stmt} {tc : TT} (hc : PT X.nox c tc) (ha : PSsX X a ts) (hb : PSsX X b us) : PSX X (.If c a b pos) (txIf tc ts us) := by
  intro pins s σ H D R I h
  refine wpAny_If (nx (hc pins s σ H _ (I.wish _) h) fun d s1 ⟨H1, I1, q1⟩ => ?_)
  cases d with
  | true => exact ha pins s1 σ H1 D R I1.unwish q1
  | false => exact hb pins s1 σ H1 D R I1.unwish q1
end

section
variable {X : Cx} {k : Nat} {f C : Addr} {fd : FuncData} {ps : List Str} {sp : Sp} {dvs : List V} {ds : List Value} {x m : Str} {p pos apos : Pos} {e o : Expr} {es : List Expr} {ta : TE} {t : TA}
theorem run_fnx {pins : List (Addr × Obj)} {σ : St} {H : Hp} {s : Shared} {Q : VK} {R : Value → Hp → Prop} {us : List Value} {vs : List V} (F : FnOk X.prog X.w X.K X.mg X.base (CXO X.prog X.w) k f fd ps sp) (hr : Room k X.A) (hb : Binds X.K fd ps ds) (hd : Vals dvs ds) (hex : X.ex = [])
    (I : Inv X pins σ H s) (r : Vals vs us) (h : sp (vs ++ dvs) H Q fun cls _ H' => R cls H') : wpAny (model X.prog X.w) X.A (call (.ref f) us) (EP X pins σ Q) (XP X pins fun σ' cls H' => σ' = σ ∧ R cls H') s := by
  have r2 : Vals (vs ++ dvs) (us ++ ds) := r.append hd
  have hl : (us ++ ds).length = ps.length := by rw [← r2.length]; exact F.len _ _ _ _ h
  refine wpAny_call (codeAny_mono (F.run X.A X.stack s H ⟨us, []⟩ (us ++ ds) (vs ++ dvs) Q _ hr I.env0 (hb s us I.kIn hl) r2 h) fun r s' hq => ?_)
  cases r with
  | error e => exact I.comes (E := fun cls _ H' => R cls H') hex (show CXO X.prog X.w X.stack H s (fun cls _ H' => R cls H') e s' from hq)
  | ok fl =>
    cases fl with
    | ret u => exact I.after hq
    | next => exact False.elim hq
    | brk => exact False.elim hq
    | cont => exact False.elim hq
def txCall (sp : Sp) (dvs : List V) (t : TA) : TEX := fun σ H Q R => t σ H fun vs H1 => sp (vs ++ dvs) H1 Q fun cls _ H' => R cls H'
def txMeth (C : Addr) (m : Str) (sp : Sp) (dvs : List V) (ta : TE) (t : TA) : TEX := fun σ H Q R => ta σ H fun x H1 => ∃ a dx fs, x = .ref a ∧ H1 a = some (.ins C dx fs) ∧ fs.lookup m = none ∧
  t σ H1 fun vs H2 => sp (x :: (vs ++ dvs)) H2 Q fun cls _ H' => R cls H'
theorem pex_call (F : FnOk X.prog X.w X.K X.mg X.base (CXO X.prog X.w) k f fd ps sp) (hr : Room k X.A) (hex : X.ex = []) (hg : Gl X x) (hm : X.mg x = some (.ref f)) (hk : PySem.W.keepIn X.K (.ref f) = true) (hb : Binds X.K fd ps ds) (hd : Vals dvs ds)
    (ha : PA X.nox (e :: es) t) (hdb : (x == ("__debug__" : Str)) = false := by decide) (he : starEach (e :: es) X.env = (false, eval e X.env) :: starEach es X.env := by rfl) (hpl : (backTo pos (starEach es X.env)).any (·.1) = false := by rfl) :
    PEX X (.Call (.Name x p) (e :: es) [] pos) (txCall sp dvs t) := by
  intro pins s σ H Q R I h
  refine wpAny_Call_Name_kw (ld_glob I hg hm ?_ hdb)
  refine PySem.W.callWith_K (h₀ := X.base) I.ok.mod.kin hk (nx (ha pos pins s σ H _ (I.wish _) h) fun us s1 ⟨vs, H1, I1, r, q⟩ => ⟨I1.unwish.kIn, ?_⟩) he hpl
  exact run_fnx F hr hb hd hex I1.unwish r q
theorem pex_meth {pl : Sem Bool} (he : PE X.nox o ta) (c : Cls X.K C) (hm : Meth X.K C m f) (F : FnOk X.prog X.w X.K X.mg X.base (CXO X.prog X.w) k f fd ps sp) (hr : Room k X.A) (hex : X.ex = []) (hb : Binds X.K fd ps ds) (hd : Vals dvs ds) (ha : PA X.nox (e :: es) t)
    (hst : starEach (e :: es) X.env = (false, eval e X.env) :: starEach es X.env := by rfl) (hpl : (backTo pos (starEach es X.env)).any (·.1) = false := by rfl)
    (ht : eval (.Call (.Attribute o m apos) (e :: es) [] pos) X.env = (do
      let ov ← eval o X.env
      standAt apos.atName
      let (f, first) ← holding [ov] (getMethod ov m pl)
      callWith pos f first (backTo pos (starEach (e :: es) X.env)) (backToKw pos (keywordEach [] X.env))) := by rfl) :
    PEX X (.Call (.Attribute o m apos) (e :: es) [] pos) (txMeth C m sp dvs ta t) := by
  intro pins s σ H Q R I h
  refine PySem.W.methodCall_KW (pl := pl) (nx (he pins s σ H _ (I.wish _) h) fun u s1 ⟨x, H1, I1, rx, a, dx, fs, ex, ea, l, q⟩ => ?_) ht
  subst ex
  obtain rfl : u = Value.ref a := rx
  refine getmeth_ok I1.unwish ea c hm l ?_
  refine PySem.W.callWith_K (first := [.ref a]) (h₀ := X.base) I.ok.mod.kin hm.kp (nx (ha pos pins s1 σ H1 _ I1 q) fun us s2 ⟨vs, H2, I2, r, q2⟩ => ⟨I2.unwish.kIn, ?_⟩) hst hpl
  exact run_fnx (us := .ref a :: us) (vs := .ref a :: vs) F hr hb hd hex I2.unwish (.cons rfl r) q2
end

def veMro : List Value := [.type "ValueError", .type "Exception", .type "BaseException", .type "object"]
theorem exc_obj {K : PySem.W.Frag} {h : Heap} {C : Addr} {bmB : List Value} {newId : String} (X : K.In h) (q : PySem.W.excIn K C bmB newId = true) :
    ∃ bm N nm q bs hdct sn sub ab col dd k0 k1 k2 k3 k5 mN, h.get? C = some (excClassObj nm q C N bs bm hdct sn sub ab col dd k0 k1 k2 k3 k5 newId) ∧ h.Ns N mN ∧ mN "__init__" = none ∧ OwnTail h bmB bm := by
  unfold PySem.W.excIn at q
  split at q
  · rename_i dd cd sl ho
    split at q
    · rename_i C' bm k0 k1 k2 k3 n k5 hm hs
      simp only [Bool.and_eq_true, beq_iff_eq, Bool.not_eq_true'] at q
      obtain ⟨⟨⟨⟨⟨rfl, rfl⟩, hdel⟩, ht⟩, hok⟩, hni⟩ := q
      obtain ⟨nm, bs, mro, ns, qn, hd, sn, sub, ab, col, del⟩ := cd
      dsimp only at hm hdel hok hni
      subst hm hdel
      have hsl : sl = #[k0, k1, k2, k3, some (.builtin n), k5] := by
        obtain ⟨l⟩ := sl
        simp only at hs
        rw [hs]
      subst hsl
      exact ⟨bm, ns, nm, qn, bs, hd, sn, sub, ab, col, dd, k0, k1, k2, k3, k5, _, X _ _ ho, .of_isNs (PySem.W.isNs_of_in X hok), PySem.W.nsMap_none_of_in X hok hni, PySem.W.tail_of_in X ht⟩
    · cases q
  · cases q
theorem objOk_there {P : Program} {w : World} {H : Hp} {h : Heap} {a : Addr} {o : HO} (x : ObjOk P w H h a o) : ∃ ob, h.get? a = some ob := by
  cases o with
  | lst xs => obtain ⟨_, _, _, _, e⟩ := x; exact ⟨_, e⟩
  | tup xs => obtain ⟨_, _, _, p⟩ := x; obtain ⟨o, e, _⟩ := p; exact ⟨_, e⟩
  | dK kvs => obtain ⟨_, _, _, _, o, _, _, e, _⟩ := x; exact ⟨_, e⟩
  | dT kvs => obtain ⟨_, _, _, _, o, _, _, e, _⟩ := x; exact ⟨_, e⟩
  | set S n => obtain ⟨o, _, _, _, e, _⟩ := x; exact ⟨_, e⟩
  | ins C dx fs => obtain ⟨_, _, _, e, _⟩ := x; exact ⟨_, e⟩
  | own y => obtain ⟨_, e⟩ := x; exact ⟨_, e⟩
  | xd fs => obtain ⟨_, ⟨_, _, _, e, _⟩, _⟩ := x; exact ⟨_, e⟩
  | rng lo hi => obtain ⟨_, _, _, e⟩ := x; exact ⟨_, e⟩
  | frz ob u => obtain ⟨e, _⟩ := x; exact ⟨_, e⟩
  | tbl ps => exact ⟨_, (show h.get? a = some _ from x)⟩
  | met f y => exact ⟨_, (show h.get? a = some _ from x)⟩
  | ext φ => obtain ⟨_, e, _⟩ := x; exact e
section
variable {X : Cx} {pins : List (Addr × Obj)} {σ : St} {H : Hp} {s : Shared}
/-- a new exception: what it leaves as it was -/
theorem Inv.raised {h' : Heap} {e : Addr} {cls : Value} {vs : List Value} (I : Inv X pins σ H s) (hex : X.ex = []) (hx : Heap.MadeExcOf s.heap h' e cls vs) : XP X pins (fun σ' c H' => σ' = σ ∧ c = cls ∧ H' = H) (.ref e) { s with heap := h' } := by
  obtain ⟨t, he, htn, ht⟩ := hx.there
  have hin : ∀ env ∈ X.stack, ∀ a, env.frame = some a → a ∈ frs X.stack := fun env he a hf => List.mem_filterMap.mpr ⟨env, he, hf⟩
  have nf : ∀ b u, H b = some u → b ∉ frs X.stack := fun b u q z => by rw [I.stkFree b z] at q; cases q
  have hB : ∀ b, s.heap.get? b = none → (PySem.W.hideAll s.heap (frs X.stack)).get? b = none := fun b q => by
    cases z : (PySem.W.hideAll s.heap (frs X.stack)).get? b with
    | none => rfl
    | some o => rw [PySem.W.of_hideAll _ z] at q; cases q
  refine ⟨e, cls, .ref t, PySem.W.hideAll s.heap (frs X.stack), σ, H, rfl, .inl ⟨fun b o q => hx.keeps b o (PySem.W.of_hideAll _ q), hB e hx.new, ?_, _, _, he, rfl, rfl, rfl, rfl⟩, fun h'' tk k u => ?_, I.newTo hex hx.new ?_, rfl, rfl, rfl⟩
  · exact (PySem.W.funFrames_hide I.stack hin).of_keeps fun b o q _ => ⟨o, hx.keeps b o q, rfl⟩
  · have kp : ∀ b o, s.heap.get? b = some o → b ∉ frs X.stack → h''.get? b = some o := fun b o q nb => k b o (PySem.W.hideAll_get _ q nb)
    have sl : ∀ b o, s.heap.get? b = some o → b ∈ frs X.stack → ∃ sl, h''.get? b = some { o with slots := sl } := fun b o q hb => by
      obtain ⟨_, o', ho', hd⟩ := I.stack.mem hb
      rw [q] at ho'; cases ho'
      exact u b o (hx.keeps b o q) hd
    refine I.call' (s' := { s with heap := h'', toks := tk }) (ch := []) rfl ⟨fun b o q n hb _ => kp b o q hb, fun b o q n hb _ => sl b o q hb, fun b o q n _ => n, fun b o q _ => ?_, fun b xs q => q, fun b o u q => q, fun b ps q => ⟨#[], by rw [q]; simp⟩⟩ (fun a o q => ?_) I.bare (fun b z => absurd z (by simp))
    · by_cases hb : b ∈ frs X.stack
      · obtain ⟨sl', q'⟩ := sl b o q hb
        exact ⟨_, q'⟩
      · exact ⟨o, kp b o q hb⟩
    · refine (I.hok a o q).stay (fun c v hc qc => kp c v qc ?_) (fun _ z => z) fun _ _ z => z
      rcases hc with z | z
      · rw [z]; exact nf a o q
      · exact nf c _ z
  · cases z : H e with
    | none => rfl
    | some o =>
      obtain ⟨ob, hob⟩ := objOk_there (I.hok e o z)
      rw [hx.new] at hob; cases hob
end
end L2

namespace L2
open PySem PySem.Spec PyProof.Rows

abbrev TJ := Str → St → Hp → (Str → Hp → Prop) → Prop
def PJ (X : Cx) (vs : List Expr) (t : TJ) : Prop :=
  ∀ (pins : List (Addr × Obj)) (s : Shared) (σ : St) (H : Hp) (acc : Str) (Q : Str → Hp → Prop), Inv X pins σ H s → t acc σ H Q → Joins (model X.prog X.w) X.A X.xe (evalEach vs X.env) acc (fun out s1 => ∃ H', Inv X pins σ H' s1 ∧ Q out H') s
section
variable {X : Cx} {v v2 : Expr} {vs : List Expr} {te : TE} {t : TJ} {pos : Pos}
def tjNil : TJ := fun acc _ H Q => Q acc H
def tjCons (te : TE) (t : TJ) : TJ := fun acc σ H Q => te σ H fun x H1 => ∃ y, x = .str y ∧ (acc ++ y).length ≤ sizeLine ∧ t (acc ++ y) σ H1 Q
theorem pj_nil : PJ X [] tjNil := fun _ s _ H _ _ I h => show ∃ H', _ from ⟨H, I, h⟩
theorem pj_cons (he : PE X v te) (hr : PJ X vs t) : PJ X (v :: vs) (tjCons te t) := by
  intro pins s σ H acc Q I h
  show wpAny _ _ (eval v X.env) _ _ s
  refine thn (he pins s σ H _ I h) fun u s1 ⟨x, H1, I1, r1, y, ex, hl, q⟩ => ?_
  subst ex
  obtain ⟨tk, rfl⟩ := r1
  exact ⟨y, tk, rfl, hl, hr pins s1 σ H1 _ Q I1 q⟩
theorem pe_join (h : PJ X (v :: v2 :: vs) t) : PE X (.JoinedStr (v :: v2 :: vs) pos) (fun σ H Q => t Str.empty σ H fun out H' => out.length ≤ sizeLine ∧ Q (.str out) H') := by
  intro pins s σ H Q I q
  refine wpAny_JoinedStr ?_
  have z := h pins s σ H Str.empty _ I q
  have go : ∀ (l : List (Sem Value)) (acc : Str) (s : Shared), Joins (model X.prog X.w) X.A X.xe l acc (fun out s1 => ∃ H', Inv X pins σ H' s1 ∧ out.length ≤ sizeLine ∧ Q (.str out) H') s →
      Joins (model X.prog X.w) X.A X.xe l acc (fun out s1 => out.length ≤ sizeLine ∧ EP X pins σ Q (.str out s1.toks) { s1 with toks := s1.toks + 1 }) s := by
    intro l
    induction l with
    | nil =>
      intro acc s ⟨H', I', hl, q'⟩
      exact ⟨hl, .str acc, H', I'.tok _, ⟨_, rfl⟩, q'⟩
    | cons a r ih =>
      intro acc s hj
      exact thn hj fun u s1 ⟨y, tk, e, hl, q'⟩ => ⟨y, tk, e, hl, ih _ _ q'⟩
  exact go _ _ _ z
/-- {e} of an int -/
theorem pe_fv (he : PE X v te) : PE X (.FormattedValue v (-1) none pos) (fun σ H Q => te σ H fun x H1 => ∃ i : Int, x = .int i ∧ i.natAbs.log2 < 1920 ∧ Q (.str (toString i)) H1) := by
  intro pins s σ H Q I h
  refine wpAny_FormattedValue_plain (thn (he pins s σ H _ I h) fun u s1 ⟨x, H1, I1, r1, i, ex, hl, q⟩ => ?_)
  subst ex
  obtain ⟨tk, rfl⟩ := r1
  exact wpAny_formatField_int hl ⟨.str (toString i), H1, I1.tok _, ⟨_, rfl⟩, q⟩
end
theorem len_app (a b : Str) : (a ++ b).length = a.length + b.length := strLen_append a b
theorem len_int {i : Int} (h : i.natAbs.log2 < 1920) : (toString i : Str).length ≤ 1921 := by
  have e := int_text_length_le (k := 1920) (by decide) h
  show (Str.ofString (toString i)).length ≤ 1921
  rw [PySem.ofString_length]
  exact e

section
variable {X : Cx} {C : Addr} {x : Str} {np cpos pos : Pos} {e₀ : Expr} {es : List Expr} {t : TA}
theorem psx_raise (hg : Gl X x) (hm : X.mg x = some (.ref C)) (hq : PySem.W.excIn X.K C veMro "ValueError.__new__" = true) (hc : X.calm = true) (hex : X.ex = []) (ha : PA X.nox (e₀ :: es) t)
    (he : starEach (e₀ :: es) X.env = (false, eval e₀ X.env) :: starEach es X.env := by rfl) (hpl : (backTo cpos (starEach es X.env)).any (·.1) = false := by rfl) (hd : (x == ("__debug__" : Str)) = false := by decide) :
    PSX X (.Raise (some (.Call (.Name x np) (e₀ :: es) [] cpos)) none pos) (fun D R σ H => t σ H fun vs H1 => vs.length ≤ sizeLine ∧ R σ (.ref C) H1) := by
  intro pins s σ H D R I h
  obtain ⟨tl, N, nm, q, bs, hdct, sn, sub, ab, col, dd, k0, k1, k2, k3, k5, mN, hC, hN, hni, T⟩ := exc_obj I.ok.mod.kin hq
  refine wpAny_Raise_call_subT (C := C) (nm := nm) (q := q) (N := N) (bs := bs) (bm := tl) (hdct := hdct) (sn := sn) (sub := sub) (ab := ab) (col := col) (dd := dd) (k0 := k0) (k1 := k1) (k2 := k2) (k3 := k3) (k5 := k5)
    F.excBase_ValueError (mN := mN) (T.hasType F.excBase_ValueError.hasBase) (I.ok.hd hc) (by rw [he]; show (false || (backTo cpos (starEach es X.env)).any (·.1)) = false; rw [hpl]; rfl) hni (ld_glob I hg hm ⟨rfl, ?_⟩ hd)
  have h2 := ha cpos pins s σ H _ (I.wish _) h
  rw [he] at h2 ⊢
  refine Calls.evalArgs_plain (nx h2 fun us s2 ⟨vs, H1, I1, r, hl, q1⟩ => ⟨rfl, ?_, I1.unwish.bk _ _ hC, hN.keeps I1.unwish.bk, T.keeps I1.unwish.bk, fun h' e hx => ?_⟩)
  · show us.length ≤ sizeLine
    rw [← r.length]; exact hl
  · exact (I1.unwish.raised hex hx).imp fun _ _ _ ⟨a, b, c⟩ => by subst a b c; exact q1
end

section
variable {P : Program} {w : World} {K : PySem.W.Frag} {mg : Str → Option Value} {base : Heap}
theorem made_leaves {M : Model} {A : Around} {E : Value → Shared → Prop} {s : Shared} {B : Heap} {env : Env} {outer : List Env} {L e : Addr} {cls a0 : Value} {Q : Unit → Shared → Prop}
    (hfr : A.frames = some (env :: outer)) (hf : env.frame = some L) (h : MadeW B (env :: outer) e cls a0 s.heap ∨ Heap.FlyingW B (env :: outer) e cls a0 s.heap)
    (hQ : ∀ h', Heap.FlyingW B outer e cls a0 h' → s.heap.UpToSlots h' → Q () { s with heap := h' }) : wpAny M A (leaving env (.ref e)) Q E s := by
  rcases h with ⟨h1, h2, h3, oe, vs, he, hc, hd, h0, h1'⟩ | h
  · subst hc
    refine wpAny_leaving_firstW hfr h3 hf he h1 h2 hd h1' h0 fun h' ⟨k1, ⟨_, _, k2⟩, k3, k4⟩ => hQ h' ⟨k1, h2, k2, k3⟩ k4
  · exact wpAny_leaves_onW hfr hf h hQ
theorem Fun.okx {x qual : Str} {st : Stmt} {f : Addr} {fd : FuncData} {N ps : List Str} {k : Nat} {sp : Sp} (F : Fun K x qual st f fd) (S : FnScope N ps (defScope st)) (len : ∀ vs H Q E, sp vs H Q E → vs.length = ps.length)
    (hbody : ∀ (cdv : Value) (A : Around) (outer : List Env) (s : Shared) (H : Hp) (vs : List V) (Q : VK) (E : XK), Room k (A.deeper (envOfC qual (defScope st) s.heap.objs.size f cdv)) → sp vs H Q E →
      ∃ t, PSsX (cxOf (CXO P w) P w K mg base N qual (defScope st) f cdv A outer s H E) (defBody st) t ∧ t { nx := fun _ H' => Q .non H', rt := Q } (fun _ cls H' => E cls none H') (start N vs) H) : FnOk P w K mg base (CXO P w) (k + 1) f fd ps sp := by
  obtain ⟨oc, od, kV, doc, pm, an, cdv, ct, osl, rfl, lk, hcd⟩ := F.ex
  refine fn_of lk hcd S len fun A outer s H vs Q E hr hsp => ?_
  obtain ⟨t, h, q⟩ := hbody cdv A outer s H vs Q E hr hsp
  refine ⟨fun D σ H' => t D (fun _ cls H' => E cls none H') σ H', fun pins s1 σ H1 D I q1 => ?_, q⟩
  refine wpAny_mono (h pins s1 σ H1 D _ I q1) (fun _ _ z => z) fun v s2 hx => ?_
  obtain ⟨e, cls, a0, B, σ2, H2, rfl, fl, be, new, hE⟩ := hx
  have stay : B.StaysIn s2.heap := by
    rcases fl with z | z
    · exact z.1
    · exact z.1
  have I2 := be.now stay
  refine made_leaves (L := s.heap.objs.size) I2.ok.frames rfl fl fun h' fl' up => ?_
  exact ⟨e, cls, a0, B, H2, rfl, I2.os, I2.bare, new.old, new.free, fl', fun h'' k u => (fun J => ⟨J.base, J.hok⟩) (be h'' s2.toks k (up.trans u)), hE⟩
end

/-- the context of an except suite -/
abbrev Cx.hand (X : Cx) (e : Addr) : Cx := { X with A := X.A.mark (some (.ref e)), calm := false }
section
variable {X : Cx} {pins : List (Addr × Obj)} {σ : St} {H : Hp} {s : Shared}
theorem Cx.Ok.hand (ok : X.Ok) (e : Addr) : (X.hand e).Ok :=
  ⟨ok.mod, ok.kind, ok.glob, ok.blt, ok.above, ok.inj, ok.has, ok.cab, (fun z => Bool.noConfusion z), ok.frames, ok.stk, ok.exf, ok.bs, ok.bsz, ok.noex, ok.exfs, ok.funs, ok.frf⟩
theorem Inv.hand (I : Inv X pins σ H s) (e : Addr) : Inv (X.hand e) pins σ H s := ⟨I.ok.hand e, I.os, I.bare, I.base, I.loc, I.cell, I.free, I.freeC, I.pin, I.hok, I.len⟩
theorem Inv.unhand {e : Addr} (I : Inv (X.hand e) pins σ H s) (ok : X.Ok) : Inv X pins σ H s := ⟨ok, I.os, I.bare, I.base, I.loc, I.cell, I.free, I.freeC, I.pin, I.hok, I.len⟩
/-- the caught exception is tracked from now on -/
theorem Inv.trackX {e : Addr} {cls : Value} (I : Inv X pins σ H s) (n : NewTo X pins H e) (x : ∃ o, s.heap.get? e = some o ∧ o.cls = cls) : Inv X pins σ (upd H e (xo e cls)) s := by
  have ne : ∀ b o, H b = some o → b ≠ e := fun b o q => ne_of_none q n.free
  refine ⟨I.ok, I.os, I.bare, ⟨I.base.keep, I.base.slot, fun b o q nn hx => ?_, I.base.there, fun b xs q => ?_, fun b o u q => ?_, fun b ps q => ?_⟩, I.loc, I.cell, ?_, fun y c q => ?_, fun p hp => ?_, fun b u q => ?_, I.len⟩
  · rw [upd_ne (fun z => by rw [z, n.old] at q; cases q)]; exact I.base.free b o q nn hx
  · have z := I.base.tups b xs q
    rw [upd_ne (ne _ _ z)]; exact z
  · have z := I.base.frzs b o u q
    rw [upd_ne (ne _ _ z)]; exact z
  · obtain ⟨more, z⟩ := I.base.tbls b ps q
    exact ⟨more, by rw [upd_ne (ne _ _ z)]; exact z⟩
  · rw [upd_ne (Ne.symm n.loc)]; exact I.free
  · rw [upd_ne (n.cell y c q)]; exact I.freeC y c q
  · obtain ⟨a1, a2, a3⟩ := I.pin p hp
    exact ⟨a1, by rw [upd_ne (n.pin p hp)]; exact a2, a3⟩
  · by_cases hb : b = e
    · subst hb
      rw [upd_same] at q
      cases q
      exact xo_ok x
    · rw [upd_ne hb] at q
      exact (I.hok b u q).stay (fun _ _ _ z => z) (fun c z => by rw [upd_ne (ne _ _ z)]; exact z) fun c xs z => by rw [upd_ne (ne _ _ z)]; exact z
/-- a local name goes -/
theorem Inv.unset {i : Nat} {n : Str} {m : Str → Option Value} {h' : Heap} {v : Option Value} {tk : Nat} (I : Inv X pins σ H s) (hN : X.N.Nodup) (hi : X.N[i]? = some n) (hl : X.env.kindOf n = some .local)
    (hm : s.heap.Ns X.env.locals m) (hl' : ∀ (i : Nat) (x : Str) (v : V), X.N[i]? = some x → σ[i]? = some (some v) → Vis X.env.scope x → ∃ u, RelV v u ∧ Look X.env s.heap m x u)
    (hn : h'.Ns X.env.locals (fun x => if x = n then v else m x)) (hs : Heap.SameBut X.env.locals s.heap h') : Inv X pins (σ.set i none) H { s with heap := h', toks := tk } := by
  have hiσ : i < σ.length := by rw [I.len]; exact (List.getElem?_eq_some_iff.mp hi).1
  have cne := I.cne
  have neL : ∀ b o, X.s₀.heap.get? b = some o → b ≠ X.env.locals := fun b o e => Nat.ne_of_lt (Nat.lt_of_lt_of_le (Heap.lt_size e) I.ok.above)
  refine ⟨I.ok, I.os, I.bare, ⟨fun b o e n hb hx => ?_, fun b o e n hb hx => ?_, I.base.free, fun b o e hx => ?_, I.base.tups, I.base.frzs, I.base.tbls⟩, ⟨_, hn, fun j y v' e1 e2 e3 => ?_⟩, fun y c e => ?_, I.free, I.freeC, fun p hp => ?_, fun b ob e => ?_, by simpa using I.len⟩
  · exact (hs.2 b (neL b o e)).trans (I.base.keep b o e n hb hx)
  · obtain ⟨sl, e1⟩ := I.base.slot b o e n hb hx
    exact ⟨sl, (hs.2 b (neL b o e)).trans e1⟩
  · obtain ⟨o', e1⟩ := I.base.there b o e hx
    exact ⟨o', (hs.2 b (neL b o e)).trans e1⟩
  · by_cases hj : j = i
    · subst hj
      rw [List.getElem?_set_self hiσ] at e2
      cases e2
    · rw [List.getElem?_set_ne (Ne.symm hj)] at e2
      obtain ⟨u', r', q⟩ := hl' j y v' e1 e2 e3
      refine ⟨u', r', ?_⟩
      rcases q with ⟨k, e⟩ | ⟨k, c, e, z⟩
      · refine .inl ⟨k, ?_⟩
        have : y ≠ n := fun e => hj (nodup_ix hN e1 (e ▸ hi))
        simp [this, e]
      · exact .inr ⟨k, c, e, z.sameBut hs (cne y c e)⟩
  · obtain ⟨w', z⟩ := I.cell y c e
    exact ⟨w', z.sameBut hs (cne y c e)⟩
  · obtain ⟨e, n, ne, nf, d⟩ := I.pin p hp
    exact ⟨(hs.2 p.1 ne).trans e, n, ne, nf, d⟩
  · refine (I.hok b ob e).stay (fun c w' hc q => (hs.2 c ?_).trans q) (fun _ q => q) fun _ _ q => q
    rintro rfl
    rcases hc with hc | hc
    · rw [← hc, I.free] at e; cases e
    · rw [I.free] at hc; cases hc
end
theorem made_looks {M : Model} {A : Around} {E : Value → Shared → Prop} {s : Shared} {B : Heap} {env : Env} {outer : List Env} {L e : Addr} {cls a0 : Value} {Q : Unit → Shared → Prop}
    (hfr : A.frames = some (env :: outer)) (hf : env.frame = some L) (h : MadeW B (env :: outer) e cls a0 s.heap ∨ Heap.FlyingW B (env :: outer) e cls a0 s.heap)
    (hQ : ∀ h', Heap.HeldW B (env :: outer) e cls a0 L h' → s.heap.UpToSlots h' → Q () { s with heap := h' }) : wpAny M A (noteFrame (.ref e) env) Q E s := by
  rcases h with ⟨h1, h2, h3, oe, vs, he, hc, hd, h0, h1'⟩ | h
  · subst hc
    unfold noteFrame
    simp only [hf]
    refine wpAny_bind (wpAny_field he hd h1' ?_)
    rw [if_neg (by decide)]
    exact wpAny_entryW hfr h3 hf he h1 h2 hd (Array.getElem?_eq_some_iff.mp h1').1 h0 fun h' ⟨k1, k2, k3, k4⟩ => hQ h' ⟨k1, h2, k2, k3⟩ k4
  · exact wpAny_looks_onW hfr hf h hQ
def goneE (i : Nat) (D : Ends) : Ends := { nx := fun σ H => D.nx (σ.set i none) H, rt := D.rt, bk := fun σ H => D.bk (σ.set i none) H, ct := fun σ H => D.ct (σ.set i none) H }
def tTry (K : PySem.W.Frag) (C : Addr) (i : Nat) (tb : TSX) (ts : TS) : TS := fun D σ H => tb D (fun σ' cls H' => PySem.W.exmOne K cls (.ref C) = some true ∧ ∀ e, H' e = none → ts (goneE i D) (σ'.set i (some (.ref e))) (upd H' e (xo e cls))) σ H
section
variable {X : Cx} {C : Addr} {i : Nat} {x n : Str} {np hpos pos : Pos} {body suite : List Stmt} {b₀ : Stmt} {tb : TSX} {ts : TS}
theorem ps_try (hex : X.ex = []) (hst : X.stack = X.env :: X.outer) (hf : X.env.frame = some X.env.locals) (hg : Gl X x) (hm : X.mg x = some (.ref C)) (hN : X.N.Nodup) (hi : X.N[i]? = some n) (hl : X.env.scope.names.lookup n = some .local)
    (hb : PSsX X body tb) (hs : ∀ e, PSs (X.hand e).nox (b₀ :: suite) ts) (hd : (x == ("__debug__" : Str)) = false := by decide) :
    PS X (.Try body [.ExceptHandler (some (.Name x np)) (some n) (b₀ :: suite) hpos] [] [] pos) (tTry X.K C i tb ts) := by
  intro pins s σ H D I h
  refine wpAny_Try_except (wpAny_mono (hb pins s σ H D _ I h) (fun f s1 q => ?_) fun v s1 hx => ?_)
  · cases f with
    | next => exact wpAny_execs_nil q
    | ret v => exact q
    | brk => exact q
    | cont => exact q
  obtain ⟨e, cls, a0, B, σ1, H1, rfl, fl, be, new, hmt, hk⟩ := hx
  have stay : B.StaysIn s1.heap := by
    rcases fl with z | z
    · exact z.1
    · exact z.1
  have I1 := be.now stay
  have hfr := I1.ok.frames
  rw [hst] at fl hfr
  have okX := I1.ok
  refine made_looks hfr hf fl fun h4 held up4 => ?_
  refine wpAny_landsW held fun h5 fl5 up5 => ?_
  have up5' := up4.trans up5
  have I5 := (be h5 s1.toks fl5.1 up5').hand e
  obtain ⟨ob, hob, hobc⟩ := fl5.there
  refine wpAny_handleBy_cons (codeAny_handlers_test (ld_glob (X := X.hand e) I5 hg hm ?_ hd)) (by intro q; cases q)
  have LT : PySem.W.Looks (model X.prog X.w) h5 (typeOf (.ref e)) cls := hobc ▸ (PySem.W.Looks.ld hob).andThen .now
  refine (PySem.W.exm_one I5.kIn LT hmt).here (s := { s1 with heap := h5 }) ?_
  refine codeAny_handlers_suite_as ?_
  refine lands_againW fl5 fun h6 fl6 up6 => ?_
  have I6 := be h6 s1.toks fl6.1 (up5'.trans up6)
  have I6' := (I6.trackX (cls := cls) new fl6.there).hand e
  refine store_ok (X := X.hand e) (v := .ref e) I6' hN hi (.inl hl) rfl (fun s7 I7 => ?_) (.inr hl)
  refine nx (hs e pins s7 _ _ _ (I7.wish _) (hk e new.free)) fun f s8 hq => ?_
  have fin : ∀ {σ8 : St} {H8 : Hp} {Q : Shared → Prop}, Inv (X.hand e).nox pins σ8 H8 s8 → (∀ s9, Inv X pins (σ8.set i none) H8 s9 → Q s9) →
      wpAny (model X.prog X.w) X.A (do bindName X.env n .none; unbindBehindTheSuite X.env n hpos) (fun _ s9 => Q s9) X.xe s8 := fun {σ8 H8 Q} I8 k => by
    have I8' : Inv X pins σ8 H8 s8 := (I8.unwish).unhand okX
    obtain ⟨m, hn, hl'⟩ := I8'.loc
    exact wpAny_nameGoes_keeps hl hn (by rw [I8'.ok.kind]; rfl) fun h' v hn' hs' => k _ (I8'.unset hN hi hl hn hl' hn' hs')
  cases f with
  | next =>
    obtain ⟨σ8, H8, I8, q⟩ := hq
    exact fin I8 fun s9 I9 => ⟨_, _, I9, q⟩
  | brk =>
    obtain ⟨σ8, H8, I8, q⟩ := hq
    exact fin I8 fun s9 I9 => ⟨_, _, I9, q⟩
  | cont =>
    obtain ⟨σ8, H8, I8, q⟩ := hq
    exact fin I8 fun s9 I9 => ⟨_, _, I9, q⟩
  | ret u =>
    obtain ⟨v, σ8, H8, I8, rv, q⟩ := hq
    exact fin I8 fun s9 I9 => ⟨v, _, _, I9, rv, q⟩
end
end L2

namespace St
open PySem L2
def top (i : Nat) : Stmt := PySem.Challenge.pw_ownroom_k01_stores_deed_by_deed.main.body.getD i (.Pass ⟨0, 0, 0, 0⟩)
abbrev sInit : Stmt := inClass (top 30) 0
abbrev sTake : Stmt := inClass (top 30) 1
abbrev sLess : Stmt := inClass (top 30) 3
abbrev sCount : Stmt := inClass (top 30) 4
abbrev sCells : Stmt := inClass (top 30) 5
abbrev sPut : Stmt := inClass (top 30) 6
abbrev sMore : Stmt := inClass (top 30) 2
abbrev sFree : Stmt := inClass (top 30) 7
abbrev sRefuse : Stmt := inClass (top 30) 8
theorem kc : ¬ (("owners" : Str) = "contents") := by decide +kernel
def flds (ow co : Addr) : List (Str × V) := putF "contents" (.ref co) (putF "owners" (.ref ow) [])
theorem flds_ow (ow co : Addr) : (flds ow co).lookup ("owners" : Str) = some (.ref ow) := by
  unfold flds
  rw [lookup_putF, if_neg kc, lookup_putF, if_pos rfl]
theorem flds_co (ow co : Addr) : (flds ow co).lookup ("contents" : Str) = some (.ref co) := by
  unfold flds
  rw [lookup_putF, if_pos rfl]
theorem flds_no (ow co : Addr) {m : Str} (h1 : ¬ m = "contents") (h2 : ¬ m = "owners") : (flds ow co).lookup m = none := by
  unfold flds
  rw [lookup_putF, if_neg h1, lookup_putF, if_neg h2]
  all_goals rfl
/-- what stands at a page: None, or a list of ints that nothing changes in place -/
def CellAt (H : Hp) (M : Addr → Prop) : V → Option (List Int) → Prop
  | .non, none => True
  | .ref a, some ns => ¬ M a ∧ H a = some (.lst (ns.map V.int))
  | _, _ => False
structure StoreAt (C : Addr) (H : Hp) (M : Addr → Prop) (p ow co : Addr) (os : List Int) (pg : List (Option (List Int))) : Prop where
  ob : ∃ dx, H p = some (.ins C dx (flds ow co))
  hw : H ow = some (.lst (os.map V.int))
  hc : ∃ cs, H co = some (.lst cs) ∧ Paired (CellAt H M) cs pg
/-- all is kept but what B names -/
def Off (B : Addr → Prop) (H H' : Hp) : Prop := ∀ b o, H b = some o → ¬ B b → H' b = some o
theorem CellAt.off {B M : Addr → Prop} {H H' : Hp} (h : Off B H H') (hB : ∀ b, B b → M b) : ∀ {v : V} {x : Option (List Int)}, CellAt H M v x → CellAt H' M v x
  | .non, none, _ => trivial
  | .ref a, some ns, ⟨h1, h2⟩ => ⟨h1, h a _ h2 fun z => h1 (hB a z)⟩
theorem cells_off {B M : Addr → Prop} {H H' : Hp} (h : Off B H H') (hB : ∀ b, B b → M b) {cs : List V} {pg : List (Option (List Int))} (q : Paired (CellAt H M) cs pg) : Paired (CellAt H' M) cs pg :=
  Paired.mapP q fun _ _ z => z.off h hB
theorem paired_get {α β : Type} {F : α → β → Prop} : ∀ {xs : List α} {ys : List β} {i : Nat} {y : β}, Paired F xs ys → ys[i]? = some y → ∃ x, xs[i]? = some x ∧ F x y
  | _, _, _, _, .nil, e => by simp at e
  | _, _, 0, _, .cons r _, e => by simp at e; subst e; exact ⟨_, rfl, r⟩
  | _, _, i + 1, y, .cons _ t, e => by
    obtain ⟨u, h1, h2⟩ := paired_get (i := i) (y := y) t (by simpa using e)
    exact ⟨u, by simpa using h1, h2⟩
theorem paired_set {α β : Type} {F : α → β → Prop} {x : α} {y : β} (r : F x y) : ∀ {xs : List α} {ys : List β} (i : Nat), Paired F xs ys → Paired F (xs.set i x) (ys.set i y)
  | _, _, _, .nil => .nil
  | _, _, 0, .cons _ t => .cons r t
  | _, _, i + 1, .cons q t => .cons q (paired_set r i t)
theorem paired_rep {α β : Type} {F : α → β → Prop} {x : α} {y : β} (r : F x y) : ∀ n : Nat, Paired F (List.replicate n x) (List.replicate n y)
  | 0 => .nil
  | n + 1 => .cons r (paired_rep r n)
/-- the class as the top has made it -/
structure Txt (K : PySem.W.Frag) (mg : Str → Option Value) (C : Addr) : Prop where
  cl : Cls K C
  nO : NoAttr K C "owners"
  nC : NoAttr K C "contents"
  len : mg "len" = none
  list : mg "list" = none
  pc : ∃ u, mg "PAGE_CELLS" = some u ∧ RelV (.int 8) u
def spInit (C : Addr) : Sp := fun vs H Q _ => ∃ (p dx : Addr) (n : Nat), vs = [.ref p, .int n] ∧ n ≤ 60 ∧ H p = some (.ins C dx []) ∧
  ∀ (ow co : Addr) (H' : Hp), H ow = none → H co = none → ow ≠ co → (∀ M, StoreAt C H' M p ow co (List.replicate n 0) (List.replicate n none)) → Off (· = p) H H' → Q .non H'
def cntOf (os : List Int) (n : Int) : Int := if n < 0 ∨ (os.length : Int) ≤ n then 0 else os.getD n.toNat 0
theorem cnt_pos {os : List Int} {n : Int} (h : cntOf os n ≠ 0) : 0 ≤ n ∧ n.toNat < os.length ∧ n < os.length ∧ n = (n.toNat : Int) := by
  unfold cntOf at h
  by_cases z : n < 0 ∨ (os.length : Int) ≤ n
  · rw [if_pos z] at h; exact absurd rfl h
  · omega
theorem cnt_in {os : List Int} {j : Nat} (h : j < os.length) : cntOf os (j : Int) = os.getD j 0 := by
  unfold cntOf
  rw [if_neg (by omega)]
  simp
def spCount (C : Addr) : Sp := fun vs H Q _ => ∃ (p ow co : Addr) (M : Addr → Prop) (os : List Int) (pg : List (Option (List Int))) (n : Int), vs = [.ref p, .int n] ∧ StoreAt C H M p ow co os pg ∧ os.length ≤ 60 ∧ Q (.int (cntOf os n)) H
def spRefuse (C CN : Addr) : Sp := fun vs H Q E => ∃ (p ow co : Addr) (M : Addr → Prop) (os : List Int) (pg : List (Option (List Int))) (n : Int), vs = [.ref p, .int n] ∧ StoreAt C H M p ow co os pg ∧ os.length ≤ 60 ∧ n.natAbs.log2 < 1920 ∧ (cntOf os n ≠ 0 → Q .non H) ∧ (cntOf os n = 0 → E (.ref CN) none H)
def spTake (C : Addr) : Sp := fun vs H Q _ => ∃ (p ow co : Addr) (M : Addr → Prop) (os : List Int) (pg : List (Option (List Int))), vs = [.ref p] ∧ StoreAt C H M p ow co os pg ∧ M ow ∧ M co ∧ (∀ b, M b → H b ≠ none) ∧ ow ≠ co ∧ os.length = pg.length ∧ os.length ≤ 60 ∧
  (¬ (0 : Int) ∈ os → Q .non H) ∧ ((0 : Int) ∈ os → ∀ H', StoreAt C H' M p ow co (os.set (os.idxOf 0) 1) (pg.set (os.idxOf 0) (some (List.replicate 8 0))) → Off (fun b => b = ow ∨ b = co) H H' → Q (.int (os.idxOf 0 : Nat)) H')
def spLess (C CN : Addr) : Sp := fun vs H Q E => ∃ (p ow co : Addr) (M : Addr → Prop) (os : List Int) (pg : List (Option (List Int))) (n : Int), vs = [.ref p, .int n] ∧ StoreAt C H M p ow co os pg ∧ M ow ∧ M co ∧ ow ≠ co ∧ os.length ≤ 60 ∧ n.natAbs.log2 < 1920 ∧
  (cntOf os n ≠ 0 → ∀ H', StoreAt C H' M p ow co (os.set n.toNat (cntOf os n - 1)) pg → Off (fun b => b = ow ∨ b = co) H H' → Q .non H') ∧ (cntOf os n = 0 → E (.ref CN) none H)
def spMore (C CN : Addr) : Sp := fun vs H Q E => ∃ (p ow co : Addr) (M : Addr → Prop) (os : List Int) (pg : List (Option (List Int))) (n : Int), vs = [.ref p, .int n] ∧ StoreAt C H M p ow co os pg ∧ M ow ∧ M co ∧ ow ≠ co ∧ os.length ≤ 60 ∧ n.natAbs.log2 < 1920 ∧
  (cntOf os n ≠ 0 → ∀ H', StoreAt C H' M p ow co (os.set n.toNat (cntOf os n + 1)) pg → Off (fun b => b = ow ∨ b = co) H H' → Q .non H') ∧ (cntOf os n = 0 → E (.ref CN) none H)
def spCells (C CN : Addr) : Sp := fun vs H Q E => ∃ (p ow co : Addr) (M : Addr → Prop) (os : List Int) (pg : List (Option (List Int))) (n : Int), vs = [.ref p, .int n] ∧ StoreAt C H M p ow co os pg ∧ os.length ≤ 60 ∧ n.natAbs.log2 < 1920 ∧
  (cntOf os n ≠ 0 → ∃ ns, pg[n.toNat]? = some (some ns) ∧ ∀ l, H l = none → Q (.ref l) (upd H l (.lst (ns.map V.int)))) ∧ (cntOf os n = 0 → E (.ref CN) none H)
def spPut (K : PySem.W.Frag) (C CN : Addr) : Sp := fun vs H Q E => ∃ (p ow co c : Addr) (M : Addr → Prop) (os : List Int) (pg : List (Option (List Int))) (n : Int) (ns : List Int), vs = [.ref p, .int n, .ref c] ∧ StoreAt C H M p ow co os pg ∧ M ow ∧ M co ∧ (∀ b, M b → H b ≠ none) ∧ ow ≠ co ∧ os.length = pg.length ∧ os.length ≤ 60 ∧ n.natAbs.log2 < 1920 ∧
  SqL K H c (ns.map V.int) ∧ (cntOf os n ≠ 0 → ∀ H', StoreAt C H' M p ow co os (pg.set n.toNat (some ns)) → Off (fun b => b = ow ∨ b = co) H H' → Q .non H') ∧ (cntOf os n = 0 → E (.ref CN) none H)
def spFree (C : Addr) : Sp := fun vs H Q _ => ∃ (p ow co : Addr) (M : Addr → Prop) (os : List Int) (pg : List (Option (List Int))), vs = [.ref p] ∧ StoreAt C H M p ow co os pg ∧ Q (.int (os.count 0 : Nat)) H
structure XTxt (K : PySem.W.Frag) (mg : Str → Option Value) (CN : Addr) : Prop where
  mgN : mg "NoOwner" = some (.ref CN)
  exN : PySem.W.excIn K CN veMro "ValueError.__new__" = true
theorem fits2 {i : Int} {t : Str} (h : i.natAbs.log2 < 1920) (ht : t.length ≤ 1000) : (Str.empty ++ (toString i : Str)).length ≤ sizeLine ∧ ((Str.empty ++ (toString i : Str)) ++ t).length ≤ sizeLine := by
  have h1 := len_int h
  have h0 : Str.empty.length = 0 := rfl
  have hs : sizeLine = 16777216 := sizeLine_eq
  rw [len_app, len_app, len_app]
  omega
section
variable {P : Program} {w : World} {K : PySem.W.Frag} {mg : Str → Option Value} {base : Heap}
theorem rep1 {α : Type} (x : α) (n : Nat) : (List.replicate n [x]).flatten = List.replicate n x := by
  induction n with
  | zero => rfl
  | succ n ih => rw [List.replicate_succ, List.flatten_cons, ih, List.replicate_succ]; rfl
theorem scI : FnScope ["self", "many"] ["self", "many"] (defScope sInit) := ⟨rfl, rfl, rfl, by decide +kernel, rfl, by decide +kernel, by decide +kernel⟩
theorem ok_init {f C : Addr} {fd : FuncData} (F : Fun K "__init__" "Store.__init__" sInit f fd) (T : Txt K mg C) : FnOk P w K mg base CX0 1 f fd ["self", "many"] (spInit C) := by
  refine F.ok scI (fun vs H Q E h => ?_) (fun cdv A outer s H vs Q E hr h => ?_)
  · obtain ⟨p, dx, n, rfl, _⟩ := h
    rfl
  · obtain ⟨p, dx, n, rfl, hn, hp, k⟩ := h
    refine ⟨_, pss_cons (ps_fld (pv 0) (pe_op op_rep (pe_lst (pa_cons pe_int pa_nil)) (pv 1)) rfl) (pss_one (ps_fld (pv 0) (pe_op op_rep (pe_lst (pa_cons pe_non pa_nil)) (pv 1)) rfl)), ?_⟩
    have hs : sizeLine = 16777216 := sizeLine_eq
    refine ⟨by decide, fun l1 hl1 => ?_⟩
    have np1 : p ≠ l1 := ne_of_none hp hl1
    refine ⟨_, rfl, l1, n, _, rfl, rfl, upd_same, by omega, by omega, by rw [List.length_singleton]; omega, fun ow how => ?_⟩
    have how1 : ow ≠ l1 := fun z => by rw [z, upd_same] at how; cases how
    rw [upd_ne how1] at how
    have npo : p ≠ ow := ne_of_none hp how
    refine ⟨_, rfl, p, C, dx, [], rfl, by rw [upd_ne npo, upd_ne np1]; exact hp, T.cl, T.nO, by decide, ?_⟩
    refine ⟨by decide, fun l2 hl2 => ?_⟩
    have l2p : l2 ≠ p := fun z => by rw [z, upd_same] at hl2; cases hl2
    rw [upd_ne l2p] at hl2
    have l2o : l2 ≠ ow := fun z => by rw [z, upd_same] at hl2; cases hl2
    rw [upd_ne l2o] at hl2
    have l21 : l2 ≠ l1 := fun z => by rw [z, upd_same] at hl2; cases hl2
    rw [upd_ne l21] at hl2
    refine ⟨_, rfl, l2, n, _, rfl, rfl, upd_same, by omega, by omega, by rw [List.length_singleton]; omega, fun co hco => ?_⟩
    have co2 : co ≠ l2 := fun z => by rw [z, upd_same] at hco; cases hco
    rw [upd_ne co2] at hco
    have cop : co ≠ p := fun z => by rw [z, upd_same] at hco; cases hco
    rw [upd_ne cop] at hco
    have coo : co ≠ ow := fun z => by rw [z, upd_same] at hco; cases hco
    rw [upd_ne coo] at hco
    have co1 : co ≠ l1 := fun z => by rw [z, upd_same] at hco; cases hco
    rw [upd_ne co1] at hco
    refine ⟨_, rfl, p, C, dx, _, rfl, by rw [upd_ne (Ne.symm cop), upd_ne (Ne.symm l2p), upd_same], T.cl, T.nC, by show 1 < 1000; decide, ?_⟩
    rw [show ((n : Int)).toNat = n by omega, rep1, rep1]
    refine k ow co _ how hco (Ne.symm coo) (fun M => ⟨⟨dx, upd_same⟩, ?_, ⟨_, ?_, paired_rep (show CellAt _ M .non none from trivial) n⟩⟩) fun b o e hb => ?_
    · rw [upd_ne (Ne.symm npo), upd_ne (Ne.symm coo), upd_ne (Ne.symm l2o), upd_ne (Ne.symm npo), upd_same, List.map_replicate]
    · rw [upd_ne cop, upd_same]
    · have hbp : b ≠ p := hb
      rw [upd_ne hbp, upd_ne (ne_of_none e hco), upd_ne (ne_of_none e hl2), upd_ne hbp, upd_ne (ne_of_none e how), upd_ne (ne_of_none e hl1)]
      exact e
theorem scC : FnScope ["self", "n"] ["self", "n"] (defScope sCount) := ⟨rfl, rfl, rfl, by decide +kernel, rfl, by decide +kernel, by decide +kernel⟩
theorem ok_count {f C : Addr} {fd : FuncData} (F : Fun K "count" "Store.count" sCount f fd) (T : Txt K mg C) : FnOk P w K mg base CX0 1 f fd ["self", "n"] (spCount C) := by
  refine F.ok scC (fun vs H Q E h => ?_) (fun cdv A outer s H vs Q E hr h => ?_)
  · obtain ⟨p, ow, co, M, os, pg, n, rfl, _⟩ := h
    rfl
  · obtain ⟨p, ow, co, M, os, pg, n, rfl, S, hl, k⟩ := h
    obtain ⟨⟨dx, h1⟩, hw, _⟩ := id S
    refine ⟨_, pss_cons (ps_if (pw_or (pt_cmpR op_lt (pv 1) pe_int (nomark _)) (pw_or1 (pt_cmpR op_ge (pv 1) (pe_callB call_len_seq (by rfl) T.len PySem.boot_len (pa_cons (pe_fld (pv 0) rfl) pa_nil)) (nomark _)))).pt (pss_one (ps_ret pe_int)) pss_nil)
      (pss_one (ps_ret (pe_ix ix_list (pe_fld (pv 0) rfl) (pv 1) (fun _ _ => rfl)))), ?_⟩
    refine ⟨_, rfl, _, _, rfl, rfl, _, rfl, ?_⟩
    refine ite2 (fun c => ?_) (fun c => ?_)
    · refine iteT ?_
      have c' : n < 0 := by simpa using c
      unfold cntOf at k
      rw [if_pos (.inl c')] at k
      exact k
    · have c' : ¬ n < 0 := by simpa using c
      refine ⟨_, rfl, _, rfl, p, C, dx, _, _, rfl, h1, T.cl, T.nO, flds_ow _ _, ow, _, rfl, .inl (SqL.of hw), _, _, rfl, rfl, _, rfl, ?_⟩
      refine ite2 (fun d => ?_) (fun d => ?_)
      · have d' : (os.length : Int) ≤ n := by simpa using d
        unfold cntOf at k
        rw [if_pos (.inr d')] at k
        exact k
      · have d' : ¬ (os.length : Int) ≤ n := by simpa using d
        obtain ⟨j, rfl⟩ : ∃ j : Nat, n = j := ⟨n.toNat, by omega⟩
        have hj : j < os.length := by omega
        rw [cnt_in hj] at k
        refine ⟨_, rfl, p, C, dx, _, _, rfl, h1, T.cl, T.nO, flds_ow _ _, _, rfl, ow, _, j, .int (os.getD j 0), rfl, rfl, SqL.of hw, atI_nat ?_, k⟩
        rw [List.getElem?_map, List.getElem?_eq_getElem hj]
        simp [hj]
theorem scR : FnScope ["self", "n"] ["self", "n"] (defScope sRefuse) := ⟨rfl, rfl, rfl, by decide +kernel, rfl, by decide +kernel, by decide +kernel⟩
theorem ok_refuse {f g C CN : Addr} {fd gd : FuncData} (F : Fun K "refuse_free" "Store.refuse_free" sRefuse f fd) (T : Txt K mg C) (XT : XTxt K mg CN) (GG : FnOk P w K mg base CX0 1 g gd ["self", "n"] (spCount C)) (bG : Binds K gd ["self", "n"] []) (mG : Meth K C "count" g) :
    FnOk P w K mg base (CXO P w) 2 f fd ["self", "n"] (spRefuse C CN) := by
  refine F.okx scR (fun vs H Q E h => ?_) (fun cdv A outer s H vs Q E hr h => ?_)
  · obtain ⟨p, ow, co, M, os, pg, n, rfl, _⟩ := h
    rfl
  · obtain ⟨p, ow, co, M, os, pg, n, rfl, S, hl, hb, k, kE⟩ := h
    obtain ⟨⟨dx, h1⟩, hw, _⟩ := id S
    refine ⟨_, pssx_one (psx_if (pt_cmpR op_eq (pe_meth (pv 0) T.cl mG GG hr bG .nil pass0 (pa_cons (pv 1) pa_nil)) pe_int (nomark _)) (pssx_one (psx_raise rfl XT.mgN XT.exN rfl rfl (pa_cons (pe_join (pj_cons (pe_fv (pv 1)) (pj_cons pe_str pj_nil))) pa_nil))) pssx_nil), ?_⟩
    refine ⟨_, rfl, p, dx, _, rfl, h1, flds_no _ _ (by decide +kernel) (by decide +kernel), _, rfl, p, ow, co, M, os, pg, n, rfl, S, hl, rfl, _, rfl, ?_⟩
    refine ite2 (fun c => ?_) (fun c => ?_)
    · have c' : cntOf os n = 0 := by simpa using c
      obtain ⟨f1, f2⟩ := fits2 (i := n) (t := " is no taken page") hb (by decide +kernel)
      exact ⟨_, rfl, n, rfl, hb, _, rfl, f1, _, rfl, f2, f2, (by show 1 ≤ sizeLine; decide), kE c'⟩
    · have c' : ¬ cntOf os n = 0 := by simpa using c
      exact k c'
theorem scL : FnScope ["self", "n"] ["self", "n"] (defScope sLess) := ⟨rfl, rfl, rfl, by decide +kernel, rfl, by decide +kernel, by decide +kernel⟩
theorem cells_upd {H : Hp} {M : Addr → Prop} {a : Addr} {o : HO} {cs : List V} {pg : List (Option (List Int))} (ha : M a) (q : Paired (CellAt H M) cs pg) : Paired (CellAt (upd H a o) M) cs pg :=
  cells_off (B := (· = a)) (fun b u e hb => by rw [upd_ne (show b ≠ a from hb)]; exact e) (fun b z => by rw [show b = a from z]; exact ha) q
theorem cells_new {H : Hp} {M : Addr → Prop} {a : Addr} {o : HO} {cs : List V} {pg : List (Option (List Int))} (ha : H a = none) (q : Paired (CellAt H M) cs pg) : Paired (CellAt (upd H a o) M) cs pg :=
  cells_off (B := fun _ => False) (fun b u e _ => by rw [upd_ne (ne_of_none e ha)]; exact e) (fun b z => z.elim) q
theorem ins_lst {H : Hp} {p a C dx : Addr} {fs : List (Str × V)} {xs : List V} (h : H p = some (.ins C dx fs)) (h' : H a = some (.lst xs)) : p ≠ a := ne_of h h' (by intro z; cases z)
theorem ok_less {f g C CN : Addr} {fd gd : FuncData} (F : Fun K "less" "Store.less" sLess f fd) (T : Txt K mg C) (GG : FnOk P w K mg base (CXO P w) 2 g gd ["self", "n"] (spRefuse C CN)) (bG : Binds K gd ["self", "n"] []) (mG : Meth K C "refuse_free" g) :
    FnOk P w K mg base (CXO P w) 3 f fd ["self", "n"] (spLess C CN) := by
  refine F.okx scL (fun vs H Q E h => ?_) (fun cdv A outer s H vs Q E hr h => ?_)
  · obtain ⟨p, ow, co, M, os, pg, n, rfl, _⟩ := h
    rfl
  · obtain ⟨p, ow, co, M, os, pg, n, rfl, S, mw, mc, hne, hl, hb, k, kE⟩ := h
    obtain ⟨⟨dx, h1⟩, hw, cs, hcs, hp⟩ := id S
    refine ⟨_, pssx_cons (psx_expr (pex_meth (pv 0) T.cl mG GG hr rfl bG .nil (pa_cons (pv 1) pa_nil)))
      (pssx_of (pss_one (ps_augS (pe_fld (pv 0) rfl) (pv 1) (get_list) pe_int ip_sub set_list))), ?_⟩
    refine ⟨_, rfl, p, dx, _, rfl, h1, flds_no _ _ (by decide +kernel) (by decide +kernel), _, rfl, p, ow, co, M, os, pg, n, rfl, S, hl, hb, fun hc => ?_, kE⟩
    replace k := k hc
    obtain ⟨h0, hj, hn, en⟩ := cnt_pos hc
    generalize n.toNat = j at *
    subst en
    refine ⟨_, rfl, p, C, dx, _, _, rfl, h1, T.cl, T.nO, flds_ow _ _, _, rfl, ow, _, j, .int (os.getD j 0), rfl, rfl, SqL.of hw, atI_nat (by rw [List.getElem?_map, List.getElem?_eq_getElem hj]; simp [hj]), _, _, rfl, rfl, ow, _, j, j, rfl, rfl, hw, ?_, ?_⟩
    · unfold ixN
      rw [List.length_map, if_pos (by omega), if_pos (by omega)]
      simp
    · rw [cnt_in hj] at k
      refine k _ ⟨⟨dx, by rw [upd_ne (ins_lst h1 hw)]; exact h1⟩, ?_, ⟨cs, by rw [upd_ne (Ne.symm hne)]; exact hcs, cells_upd mw hp⟩⟩ fun b o e hb => ?_
      · rw [upd_same, List.map_set]
      · rw [upd_ne (fun z => hb (.inl z))]
        exact e
theorem scE : FnScope ["self", "n"] ["self", "n"] (defScope sCells) := ⟨rfl, rfl, rfl, by decide +kernel, rfl, by decide +kernel, by decide +kernel⟩
theorem ok_cells {f g C CN : Addr} {fd gd : FuncData} (F : Fun K "cells" "Store.cells" sCells f fd) (T : Txt K mg C) (GG : FnOk P w K mg base (CXO P w) 2 g gd ["self", "n"] (spRefuse C CN)) (bG : Binds K gd ["self", "n"] []) (mG : Meth K C "refuse_free" g) :
    FnOk P w K mg base (CXO P w) 3 f fd ["self", "n"] (spCells C CN) := by
  refine F.okx scE (fun vs H Q E h => ?_) (fun cdv A outer s H vs Q E hr h => ?_)
  · obtain ⟨p, ow, co, M, os, pg, n, rfl, _⟩ := h
    rfl
  · obtain ⟨p, ow, co, M, os, pg, n, rfl, S, hl, hb, k, kE⟩ := h
    obtain ⟨⟨dx, h1⟩, hw, cs, hcs, hp⟩ := id S
    refine ⟨_, pssx_cons (psx_expr (pex_meth (pv 0) T.cl mG GG hr rfl bG .nil (pa_cons (pv 1) pa_nil)))
      (pssx_of (pss_one (ps_ret (pe_callTy call_list_of (by rfl) T.list bt_list (pa_cons (pe_ix ix_list (pe_fld (pv 0) rfl) (pv 1) (fun _ _ => rfl)) pa_nil))))), ?_⟩
    refine ⟨_, rfl, p, dx, _, rfl, h1, flds_no _ _ (by decide +kernel) (by decide +kernel), _, rfl, p, ow, co, M, os, pg, n, rfl, S, hl, hb, fun hc => ?_, kE⟩
    replace k := k hc
    obtain ⟨ns, hg, k⟩ := k
    obtain ⟨h0, hj, hn, en⟩ := cnt_pos hc
    generalize n.toNat = j at *
    subst en
    obtain ⟨v, hv, cv⟩ := paired_get hp hg
    obtain ⟨a, rfl, ha⟩ : ∃ a, v = .ref a ∧ H a = some (.lst (ns.map V.int)) := by
      cases v with
      | ref a => exact ⟨a, rfl, cv.2⟩
      | _ => exact False.elim cv
    refine ⟨_, rfl, p, C, dx, _, _, rfl, h1, T.cl, T.nC, flds_co _ _, _, rfl, co, cs, j, _, rfl, rfl, SqL.of hcs, atI_nat hv, a, _, rfl, .inl (SqL.of ha), k⟩
theorem scP : FnScope ["self", "n", "cells"] ["self", "n", "cells"] (defScope sPut) := ⟨rfl, rfl, rfl, by decide +kernel, rfl, by decide +kernel, by decide +kernel⟩
theorem paired_len {α β : Type} {F : α → β → Prop} : ∀ {xs : List α} {ys : List β}, Paired F xs ys → xs.length = ys.length
  | _, _, .nil => rfl
  | _, _, .cons _ t => by rw [List.length_cons, List.length_cons, paired_len t]
theorem ok_put {f g C CN : Addr} {fd gd : FuncData} (F : Fun K "put" "Store.put" sPut f fd) (T : Txt K mg C) (GG : FnOk P w K mg base (CXO P w) 2 g gd ["self", "n"] (spRefuse C CN)) (bG : Binds K gd ["self", "n"] []) (mG : Meth K C "refuse_free" g) :
    FnOk P w K mg base (CXO P w) 3 f fd ["self", "n", "cells"] (spPut K C CN) := by
  refine F.okx scP (fun vs H Q E h => ?_) (fun cdv A outer s H vs Q E hr h => ?_)
  · obtain ⟨p, ow, co, c, M, os, pg, n, ns, rfl, _⟩ := h
    rfl
  · obtain ⟨p, ow, co, c, M, os, pg, n, ns, rfl, S, mw, mc, mt, hne, hlp, hl, hb, hq, k, kE⟩ := h
    obtain ⟨⟨dx, h1⟩, hw, cs, hcs, hp⟩ := id S
    refine ⟨_, pssx_cons (psx_expr (pex_meth (pv 0) T.cl mG GG hr rfl bG .nil (pa_cons (pv 1) pa_nil)))
      (pssx_of (pss_one (ps_asg (pe_callTy call_list_of (by rfl) T.list bt_list (pa_cons (pv 2) pa_nil)) (pg_sub (pe_fld (pv 0) rfl) (pv 1) set_list)))), ?_⟩
    refine ⟨_, rfl, p, dx, _, rfl, h1, flds_no _ _ (by decide +kernel) (by decide +kernel), _, rfl, p, ow, co, M, os, pg, n, rfl, S, hl, hb, fun hc => ?_, kE⟩
    replace k := k hc
    obtain ⟨h0, hj, hn, en⟩ := cnt_pos hc
    generalize n.toNat = j at *
    subst en
    have hlen := paired_len hp
    refine ⟨_, rfl, c, _, rfl, .inl hq, fun l hlf => ?_⟩
    have nl : ∀ {b : Addr} {o : HO}, H b = some o → b ≠ l := fun e => ne_of_none e hlf
    refine ⟨_, rfl, p, C, dx, _, _, rfl, by rw [upd_ne (nl h1)]; exact h1, T.cl, T.nC, flds_co _ _, _, rfl, co, cs, j, j, rfl, rfl, by rw [upd_ne (nl hcs)]; exact hcs, ?_, ?_⟩
    · unfold ixN
      rw [if_pos (by omega), if_pos (by omega)]
      simp
    · have hM : ¬ M l := fun z => mt l z hlf
      refine k _ ⟨⟨dx, by rw [upd_ne (ins_lst h1 hcs), upd_ne (nl h1)]; exact h1⟩, by rw [upd_ne hne, upd_ne (nl hw)]; exact hw, ⟨_, upd_same, cells_upd mc (paired_set ⟨hM, upd_same⟩ j (cells_new hlf hp))⟩⟩ fun b o e hb => ?_
      rw [upd_ne (fun z => hb (.inr z)), upd_ne (nl e)]
      exact e
theorem scT : FnScope ["self", "n"] ["self"] (defScope sTake) := ⟨rfl, rfl, rfl, by decide +kernel, rfl, by decide +kernel, by decide +kernel⟩
theorem in0 (os : List Int) : inV (.int 0) (os.map V.int) = decide ((0 : Int) ∈ os) := by
  unfold inV
  rw [List.any_map, Bool.eq_iff_iff, List.any_eq_true, decide_eq_true_iff]
  constructor
  · rintro ⟨x, hx, e⟩
    have e' : x = 0 := by
      have : (x == (0 : Int)) = true := e
      simpa using this
    subst e'
    exact hx
  · intro h
    exact ⟨0, h, rfl⟩
theorem ok_take {f C : Addr} {fd : FuncData} (F : Fun K "take" "Store.take" sTake f fd) (T : Txt K mg C) : FnOk P w K mg base CX0 1 f fd ["self"] (spTake C) := by
  refine F.ok scT (fun vs H Q E h => ?_) (fun cdv A outer s H vs Q E hr h => ?_)
  · obtain ⟨p, ow, co, M, os, pg, rfl, _⟩ := h
    rfl
  · obtain ⟨p, ow, co, M, os, pg, rfl, S, mw, mc, mt, hne, hlp, hl, k0, k1⟩ := h
    obtain ⟨⟨dx, h1⟩, hw, cs, hcs, hp⟩ := id S
    obtain ⟨u8, m8, r8⟩ := T.pc
    have hs : sizeLine = 16777216 := sizeLine_eq
    refine ⟨_, pss_cons (ps_if (pt_cmpR op_notIn_seq pe_int (pe_fld (pv 0) rfl) (by with_unfolding_all rfl)) (pss_one (ps_ret pe_non)) pss_nil)
      (pss_cons (ps_set (i := 1) scT.nd rfl (Or.inl rfl) (pe_bm PySem.F.plainAttrs_list PySem.F.slot_list_index PySem.F.type_list_index mt_index (pe_fld (pv 0) rfl) (pa_cons pe_int pa_nil)))
      (pss_cons (ps_asg pe_int (pg_sub (pe_fld (pv 0) rfl) (pv 1) set_list))
      (pss_cons (ps_asg (pe_op op_rep (pe_lst (pa_cons pe_int pa_nil)) (pe_glob (by rfl) m8 r8)) (pg_sub (pe_fld (pv 0) rfl) (pv 1) set_list))
      (pss_one (ps_ret (pv 1)))))), ?_⟩
    refine ⟨_, rfl, p, C, dx, _, _, rfl, h1, T.cl, T.nO, flds_ow _ _, ow, _, rfl, .inl (SqL.of hw), rfl, flat_ints _, _, rfl, ?_⟩
    show if (!inV (.int 0) (os.map V.int)) = true then _ else _
    rw [in0]
    by_cases c : (0 : Int) ∈ os
    · rw [decide_eq_true c]
      refine iteF ?_
      have hj : os.idxOf 0 < os.length := List.idxOf_lt_length_iff.mpr c
      have hlen := paired_len hp
      refine ⟨_, rfl, p, C, dx, _, _, rfl, h1, T.cl, T.nO, flds_ow _ _, .inl ⟨rfl, _, SqL.of hw⟩, ow, os, 0, rfl, rfl, hw, c, ?_⟩
      have k2 := k1 c
      generalize os.idxOf 0 = j at *
      refine ⟨_, rfl, p, C, dx, _, _, rfl, h1, T.cl, T.nO, flds_ow _ _, _, rfl, ow, _, j, j, rfl, rfl, hw, ?_, ?_⟩
      · unfold ixN
        rw [List.length_map, if_pos (by omega), if_pos (by omega)]
        simp
      · refine ⟨by decide, fun l hl1 => ?_⟩
        have lw : l ≠ ow := fun z => by rw [z, upd_same] at hl1; cases hl1
        rw [upd_ne lw] at hl1
        refine ⟨l, 8, _, rfl, rfl, upd_same, by omega, by omega, by rw [List.length_singleton]; omega, fun q hq => ?_⟩
        have ql : q ≠ l := fun z => by rw [z, upd_same] at hq; cases hq
        rw [upd_ne ql] at hq
        have qw : q ≠ ow := fun z => by rw [z, upd_same] at hq; cases hq
        rw [upd_ne qw] at hq
        have nl : ∀ {b : Addr} {o : HO}, H b = some o → b ≠ l := fun e => ne_of_none e hl1
        have nq : ∀ {b : Addr} {o : HO}, H b = some o → b ≠ q := fun e => ne_of_none e hq
        refine ⟨_, rfl, p, C, dx, _, _, rfl, by rw [upd_ne (nq h1), upd_ne (nl h1), upd_ne (ins_lst h1 hw)]; exact h1, T.cl, T.nC, flds_co _ _, _, rfl, co, cs, j, j, rfl, rfl, by rw [upd_ne (nq hcs), upd_ne (nl hcs), upd_ne (Ne.symm hne)]; exact hcs, ?_, ?_⟩
        · unfold ixN
          rw [if_pos (by omega), if_pos (by omega)]
          simp
        · refine ⟨_, rfl, ?_⟩
          have hM : ¬ M q := fun z => mt q z hq
          refine k2 _ ⟨⟨dx, by rw [upd_ne (ins_lst h1 hcs), upd_ne (nq h1), upd_ne (nl h1), upd_ne (ins_lst h1 hw)]; exact h1⟩, ?_, ⟨_, upd_same, cells_upd mc (paired_set ⟨hM, by rw [upd_same]; rfl⟩ j (cells_new (by rw [upd_ne ql, upd_ne qw]; exact hq) (cells_new (by rw [upd_ne lw]; exact hl1) (cells_upd mw hp))))⟩⟩ fun b o e hb => ?_
          · rw [upd_ne hne, upd_ne (nq hw), upd_ne (nl hw), upd_same, List.map_set]
          · rw [upd_ne (fun z => hb (.inr z)), upd_ne (nq e), upd_ne (nl e), upd_ne (fun z => hb (.inl z))]
            exact e
    · rw [decide_eq_false c]
      exact k0 c
theorem scMo : FnScope ["self", "n"] ["self", "n"] (defScope sMore) := ⟨rfl, rfl, rfl, by decide +kernel, rfl, by decide +kernel, by decide +kernel⟩
theorem ok_more {f g C CN : Addr} {fd gd : FuncData} (F : Fun K "more" "Store.more" sMore f fd) (T : Txt K mg C) (GG : FnOk P w K mg base (CXO P w) 2 g gd ["self", "n"] (spRefuse C CN)) (bG : Binds K gd ["self", "n"] []) (mG : Meth K C "refuse_free" g) :
    FnOk P w K mg base (CXO P w) 3 f fd ["self", "n"] (spMore C CN) := by
  refine F.okx scMo (fun vs H Q E h => ?_) (fun cdv A outer s H vs Q E hr h => ?_)
  · obtain ⟨p, ow, co, M, os, pg, n, rfl, _⟩ := h
    rfl
  · obtain ⟨p, ow, co, M, os, pg, n, rfl, S, mw, mc, hne, hl, hb, k, kE⟩ := h
    obtain ⟨⟨dx, h1⟩, hw, cs, hcs, hp⟩ := id S
    refine ⟨_, pssx_cons (psx_expr (pex_meth (pv 0) T.cl mG GG hr rfl bG .nil (pa_cons (pv 1) pa_nil)))
      (pssx_of (pss_one (ps_augS (pe_fld (pv 0) rfl) (pv 1) (get_list) pe_int ip_add set_list))), ?_⟩
    refine ⟨_, rfl, p, dx, _, rfl, h1, flds_no _ _ (by decide +kernel) (by decide +kernel), _, rfl, p, ow, co, M, os, pg, n, rfl, S, hl, hb, fun hc => ?_, kE⟩
    replace k := k hc
    obtain ⟨h0, hj, hn, en⟩ := cnt_pos hc
    generalize n.toNat = j at *
    subst en
    refine ⟨_, rfl, p, C, dx, _, _, rfl, h1, T.cl, T.nO, flds_ow _ _, _, rfl, ow, _, j, .int (os.getD j 0), rfl, rfl, SqL.of hw, atI_nat (by rw [List.getElem?_map, List.getElem?_eq_getElem hj]; simp [hj]), _, _, rfl, rfl, ow, _, j, j, rfl, rfl, hw, ?_, ?_⟩
    · unfold ixN
      rw [List.length_map, if_pos (by omega), if_pos (by omega)]
      simp
    · rw [cnt_in hj] at k
      refine k _ ⟨⟨dx, by rw [upd_ne (ins_lst h1 hw)]; exact h1⟩, ?_, ⟨cs, by rw [upd_ne (Ne.symm hne)]; exact hcs, cells_upd mw hp⟩⟩ fun b o e hb => ?_
      · rw [upd_same, List.map_set]
      · rw [upd_ne (fun z => hb (.inl z))]
        exact e
theorem scFr : FnScope ["self"] ["self"] (defScope sFree) := ⟨rfl, rfl, rfl, by decide +kernel, rfl, by decide +kernel, by decide +kernel⟩
theorem ok_free {f C : Addr} {fd : FuncData} (F : Fun K "free" "Store.free" sFree f fd) (T : Txt K mg C) : FnOk P w K mg base CX0 1 f fd ["self"] (spFree C) := by
  refine F.ok scFr (fun vs H Q E h => ?_) (fun cdv A outer s H vs Q E hr h => ?_)
  · obtain ⟨p, ow, co, M, os, pg, rfl, _⟩ := h
    rfl
  · obtain ⟨p, ow, co, M, os, pg, rfl, S, k⟩ := h
    obtain ⟨⟨dx, h1⟩, hw, _⟩ := id S
    refine ⟨_, pss_one (ps_ret (pe_bm PySem.F.plainAttrs_list PySem.F.slot_list_count PySem.F.type_list_count mt_count (pe_fld (pv 0) rfl) (pa_cons pe_int pa_nil))), ?_⟩
    exact ⟨_, rfl, p, C, dx, _, _, rfl, h1, T.cl, T.nO, flds_ow _ _, .inl ⟨rfl, _, SqL.of hw⟩, ow, os, 0, rfl, rfl, hw, k⟩
end
end St

namespace St
open PySem L2
abbrev sWhole : Stmt := top 32
abbrev sCellAt : Stmt := top 33
abbrev sMix : Stmt := top 34
abbrev sNumbers : Stmt := top 35
abbrev sOnly : Stmt := top 36
abbrev sDeedsBy : Stmt := top 37
abbrev sIs : Stmt := top 38
abbrev sTakenDown : Stmt := top 39
abbrev sDone : Stmt := top 40
abbrev sRefused : Stmt := top 41
abbrev sDeed : Stmt := top 42
abbrev sLaw : Stmt := top 43
structure LTxt (mg : Str → Option Value) : Prop where
  isi : mg "isinstance" = none
  int : mg "int" = none
  bool : mg "bool" = none
  list : mg "list" = none
  len : mg "len" = none
  range : mg "range" = none
  max : mg "max" = none
/-- a def of the law, by its name -/
structure Def (K : PySem.W.Frag) (mg : Str → Option Value) (x : Str) (f : Addr) (fd : FuncData) (ps : List Str) : Prop where
  mg : mg x = some (.ref f)
  kp : PySem.W.keepIn K (.ref f) = true
  b : Binds K fd ps []
def spWhole : Sp := fun vs H Q _ => ∃ i, vs = [.int i] ∧ Q (.bl true) H
def spCellAt (K : PySem.W.Frag) : Sp := fun vs H Q _ => ∃ (a : Addr) (ns : List Int) (k : Nat), vs = [.ref a, .int k] ∧ SqL K H a (ns.map V.int) ∧ Q (.int (ns.getD k 0)) H
def spMix : Sp := fun vs H Q _ => ∃ (c f p : Int), vs = [.int c, .int f, .int p] ∧ -(2 ^ 64) < f ∧ f < 2 ^ 64 ∧ 0 < p ∧ Q (.int (c * f % p)) H
def spNumbers (K : PySem.W.Frag) : Sp := fun vs H Q _ => ∃ (a b : Addr) (xs ys : List Int), vs = [.ref a, .ref b] ∧ H a = some (.lst (xs.map V.int)) ∧ SqL K H b (ys.map V.int) ∧ Q (.bl (decide (xs = ys))) H
section
variable {P : Program} {w : World} {K : PySem.W.Frag} {mg : Str → Option Value} {base : Heap}
theorem scW : FnScope ["_law_found"] ["_law_found"] (defScope sWhole) := ⟨rfl, rfl, rfl, by decide +kernel, rfl, by decide +kernel, by decide +kernel⟩
theorem ok_whole {f : Addr} {fd : FuncData} (F : Fun K "_law_whole" "_law_whole" sWhole f fd) (T : LTxt mg) : FnOk P w K mg base CX0 1 f fd ["_law_found"] spWhole := by
  refine F.ok scW (fun vs H Q E h => ?_) (fun cdv A outer s H vs Q E hr h => ?_)
  · obtain ⟨i, rfl, _⟩ := h
    rfl
  · obtain ⟨i, rfl, k⟩ := h
    refine ⟨_, pss_one (ps_ret (pe_and (pe_callB call_isi (by rfl) T.isi bt_isinstance (pa_cons (pv 0) (pa_cons (pe_bltn (v := .ty "int") (by rfl) T.int bt_int rfl) pa_nil)))
      (pe_one (pe_not (pe_callB call_isi (by rfl) T.isi bt_isinstance (pa_cons (pv 0) (pa_cons (pe_bltn (v := .ty "bool") (by rfl) T.bool bt_bool rfl) pa_nil))))))), ?_⟩
    refine ⟨_, rfl, .int i, "int", _, true, rfl, .int i, kit_ii _, true, rfl, iteT ?_⟩
    exact ⟨_, rfl, .int i, "bool", _, false, rfl, .int i, kit_ib _, false, rfl, k⟩
theorem scA : FnScope ["_law_script", "_law_k"] ["_law_script", "_law_k"] (defScope sCellAt) := ⟨rfl, rfl, rfl, by decide +kernel, rfl, by decide +kernel, by decide +kernel⟩
theorem ok_cellAt {f : Addr} {fd : FuncData} (F : Fun K "_law_cell_at" "_law_cell_at" sCellAt f fd) (T : LTxt mg) : FnOk P w K mg base CX0 1 f fd ["_law_script", "_law_k"] (spCellAt K) := by
  refine F.ok scA (fun vs H Q E h => ?_) (fun cdv A outer s H vs Q E hr h => ?_)
  · obtain ⟨a, ns, j, rfl, _⟩ := h
    rfl
  · obtain ⟨a, ns, j, rfl, hq, k⟩ := h
    refine ⟨_, pss_cons (ps_if (pt_cmpR op_lt (pv 1) (pe_callB call_len_seq (by rfl) T.len PySem.boot_len (pa_cons (pv 0) pa_nil)) (nomark _)) (pss_one (ps_ret (pe_ix ix_list (pv 0) (pv 1) (fun _ _ => rfl)))) pss_nil) (pss_one (ps_ret pe_int)), ?_⟩
    refine ⟨_, rfl, _, rfl, a, _, rfl, .inl hq, _, _, rfl, rfl, _, rfl, ?_⟩
    refine ite2 (fun c => ?_) (fun c => ?_)
    · have c' : j < ns.length := by simpa using c
      refine ⟨_, rfl, _, rfl, a, _, j, .int (ns.getD j 0), rfl, rfl, hq, atI_nat ?_, k⟩
      rw [List.getElem?_map, List.getElem?_eq_getElem c']
      simp [c']
    · have c' : ns.length ≤ j := by simpa using c
      have e : ns.getD j 0 = 0 := by simp [c']
      rw [e] at k
      exact k
theorem scM : FnScope ["_law_cell", "_law_factor", "_law_prime"] ["_law_cell", "_law_factor", "_law_prime"] (defScope sMix) := ⟨rfl, rfl, rfl, by decide +kernel, rfl, by decide +kernel, by decide +kernel⟩
theorem ok_mix {f : Addr} {fd : FuncData} (F : Fun K "_law_mix" "_law_mix" sMix f fd) : FnOk P w K mg base CX0 1 f fd ["_law_cell", "_law_factor", "_law_prime"] spMix := by
  refine F.ok scM (fun vs H Q E h => ?_) (fun cdv A outer s H vs Q E hr h => ?_)
  · obtain ⟨c, g, p, rfl, _⟩ := h
    rfl
  · obtain ⟨c, g, p, rfl, h1, h2, h3, k⟩ := h
    refine ⟨_, pss_one (ps_ret (pe_op op_mod (pe_op op_mul (pv 0) (pv 1)) (pv 2))), ?_⟩
    exact ⟨_, rfl, _, rfl, _, _, rfl, rfl, .inr ⟨h1, h2⟩, _, rfl, _, _, rfl, rfl, h3, k⟩
theorem scN : FnScope ["_law_found", "_law_due", "_law_number"] ["_law_found", "_law_due"] (defScope sNumbers) := ⟨rfl, rfl, rfl, by decide +kernel, rfl, by decide +kernel, by decide +kernel⟩
theorem ok_numbers {f g : Addr} {fd gd : FuncData} (F : Fun K "_law_numbers" "_law_numbers" sNumbers f fd) (T : LTxt mg) (GG : FnOk P w K mg base CX0 1 g gd ["_law_found"] spWhole) (D : Def K mg "_law_whole" g gd ["_law_found"]) :
    FnOk P w K mg base CX0 2 f fd ["_law_found", "_law_due"] (spNumbers K) := by
  refine F.ok scN (fun vs H Q E h => ?_) (fun cdv A outer s H vs Q E hr h => ?_)
  · obtain ⟨a, b, xs, ys, rfl, _⟩ := h
    rfl
  · obtain ⟨a, b, xs, ys, rfl, ha, hb, k⟩ := h
    refine ⟨_, pss_cons (ps_if (pw_or (pt_not (pt_val (pe_callB call_isi (by rfl) T.isi bt_isinstance (pa_cons (pv 0) (pa_cons (pe_bltn (v := .ty "list") (by rfl) T.list bt_list rfl) pa_nil)))))
        (pw_or1 (pt_cmpR op_ne (pe_callB call_len_seq (by rfl) T.len PySem.boot_len (pa_cons (pv 0) pa_nil)) (pe_callB call_len_seq (by rfl) T.len PySem.boot_len (pa_cons (pv 1) pa_nil)) (nomark _)))).pt (pss_one (ps_ret pe_bl)) pss_nil)
      (pss_cons (ps_for PassesOwn.never rfl (pi_list (pv 0)) (pg_name (i := 2) scN.nd rfl (Or.inl rfl)) (pss_one (ps_if (pt_not (pt_val (pe_call GG hr rfl D.mg D.kp D.b .nil pass0 (pa_cons (pv 2) pa_nil)))) (pss_one (ps_ret pe_bl)) pss_nil)))
      (pss_one (ps_ret (pe_cmpR (op_eqL hr.units0) (pv 0) (pv 1) (nomark _))))), ?_⟩
    refine ⟨_, rfl, .ref a, "list", _, true, rfl, .lst ha, kit_ll _, true, rfl, iteF ?_⟩
    refine ⟨_, rfl, a, _, rfl, .inl (SqL.of ha), _, rfl, b, _, rfl, .inl hb, rfl, _, rfl, ?_⟩
    refine ite2 (fun c => ?_) (fun c => ?_)
    · have c' : ¬ xs.length = ys.length := by
        have z : ¬ (xs.length : Int) = ys.length := by simpa using c
        omega
      have e : decide (xs = ys) = false := decide_eq_false fun z => c' (by rw [z])
      rw [e] at k
      exact k
    · refine ⟨_, rfl, a, rfl, ⟨_, SqL.of ha⟩, for_list (K := K) (a := a) (xs := xs.map V.int) (fun i σ H2 => ∃ v, σ = [some (.ref a), some (.ref b), v] ∧ H2 = H) ⟨_, rfl, rfl⟩ (fun i σ H2 _ ⟨_, _, e⟩ => by rw [e]; exact SqL.of ha) ?_ ?_⟩
      · rintro i y σ H2 hi ⟨v, rfl, rfl⟩
        obtain ⟨z, rfl⟩ : ∃ z, y = V.int z := by
          rw [List.getElem?_map] at hi
          cases e : xs[i]? with
          | none => rw [e] at hi; cases hi
          | some z => rw [e] at hi; exact ⟨z, (Option.some.inj hi).symm⟩
        exact ⟨_, rfl, z, rfl, true, rfl, iteF ⟨_, rfl, rfl⟩⟩
      · rintro σ H2 ⟨v, rfl, rfl⟩
        refine ⟨_, rfl, _, rfl, a, b, _, _, rfl, rfl, SqL.of ha, hb, flat_ints _, flat_ints _, ?_⟩
        rw [eqLV_ints]
        exact k
end
end St

namespace St
open PySem L2
def DeedAt (H : Hp) (many : Nat) (x : V) : Prop := ∃ (t : Addr) (w p v : Int), x = .ref t ∧ H t = some (.tup [.int w, .int p, .int v]) ∧ 0 ≤ w ∧ w < 7 ∧ -1 ≤ p ∧ p ≤ many + 1 ∧ 0 ≤ v ∧ v < 256
theorem DeedAt.off {H H' : Hp} {d : Addr} {xs : List V} {many : Nat} {x : V} (h : DeedAt H many x) (hd : H d = some (.lst xs)) (o : Off (· = d) H H') : DeedAt H' many x := by
  obtain ⟨t, w, p, v, e, ht, r⟩ := h
  exact ⟨t, w, p, v, e, o t _ ht (ne_of ht hd (by intro z; cases z)), r⟩
theorem DeedAt.same {H H' : Hp} {many : Nat} {x : V} (h : DeedAt H many x) (o : Same H H') : DeedAt H' many x := by
  obtain ⟨t, w, p, v, e, ht, r⟩ := h
  exact ⟨t, w, p, v, e, o t _ ht, r⟩
def spDeedsBy (K : PySem.W.Frag) : Sp := fun vs H Q _ => ∃ (sc : Addr) (ns : List Int) (many : Nat), vs = [.ref sc, .int many] ∧ SqL K H sc (ns.map V.int) ∧ ns.length ≤ 63 ∧ many ≤ 60 ∧
  ∀ l H' xs, H l = none → Same H H' → H' l = some (.lst xs) → xs.length ≤ 300 → (∀ x ∈ xs, DeedAt H' many x) → Q (.ref l) H'
def DW (many i : Nat) (sc d : Addr) (H1 : Hp) (dg : Bool) (z : Int) (m : Nat) (σ : St) (H2 : Hp) : Prop := ∃ (left : Int) (tn : Nat) (pv : Option V) (xs : List V), σ = [some (.ref sc), some (.int many), some (.ref d), some (.bl dg), some (.int z), some (.int left), some (.int tn), pv] ∧
  m = 60 - tn ∧ tn ≤ 60 ∧ H2 d = some (.lst xs) ∧ xs.length ≤ 60 * i + tn ∧ (∀ x ∈ xs, DeedAt H2 many x) ∧ Off (· = d) H1 H2
theorem cut300 (xs : List V) : (cutV xs none (some 300)).length ≤ 300 ∧ ∀ x ∈ cutV xs none (some 300), x ∈ xs := by
  unfold cutV
  constructor
  · rw [List.length_take, List.length_drop]
    have h : HT.sIx xs.length xs.length (some 300) ≤ 300 := by
      unfold HT.sIx
      dsimp only
      split <;> omega
    omega
  · intro x hx
    exact List.mem_of_mem_drop (List.mem_of_mem_take hx)
theorem cut_ints (ns : List Int) (lo hi : Option Int) : ∃ ms : List Int, cutV (ns.map V.int) lo hi = ms.map V.int ∧ ms.length ≤ ns.length := by
  unfold cutV
  rw [← List.map_drop, ← List.map_take]
  refine ⟨_, rfl, ?_⟩
  rw [List.length_take, List.length_drop]
  omega
section
variable {P : Program} {w : World} {K : PySem.W.Frag} {mg : Str → Option Value} {base : Heap}
theorem scD : FnScope ["_law_script", "_law_many", "_law_deeds", "_law_digits", "_law_cell", "_law_left", "_law_turns", "_law_page"] ["_law_script", "_law_many"] (defScope sDeedsBy) := ⟨rfl, rfl, rfl, by decide +kernel, rfl, by decide +kernel, by decide +kernel⟩
set_option maxHeartbeats 4000000 in
theorem ok_deedsBy {f fA fM : Addr} {fd dA dM : FuncData} (F : Fun K "_law_deeds_by" "_law_deeds_by" sDeedsBy f fd) (T : LTxt mg)
    (GA : FnOk P w K mg base CX0 1 fA dA ["_law_script", "_law_k"] (spCellAt K)) (DA : Def K mg "_law_cell_at" fA dA ["_law_script", "_law_k"])
    (GM : FnOk P w K mg base CX0 1 fM dM ["_law_cell", "_law_factor", "_law_prime"] spMix) (DM : Def K mg "_law_mix" fM dM ["_law_cell", "_law_factor", "_law_prime"]) :
    FnOk P w K mg base CX0 2 f fd ["_law_script", "_law_many"] (spDeedsBy K) := by
  refine F.ok scD (fun vs H Q E h => ?_) (fun cdv A outer s H vs Q E hr h => ?_)
  · obtain ⟨sc, ns, many, rfl, _⟩ := h
    rfl
  · obtain ⟨sc, ns, many, rfl, hsc, hns, hm, k⟩ := h
    have hs : sizeLine = 16777216 := sizeLine_eq
    refine ⟨_, (pss_cons (ps_set (i := 2) scD.nd rfl (Or.inl rfl) (pe_lst pa_nil))
      (pss_cons (ps_set (i := 3) scD.nd rfl (Or.inl rfl) (pe_cmpR op_eq (pe_op op_mod (pe_call GA hr rfl DA.mg DA.kp DA.b .nil pass0 (pa_cons (pv 0) (pa_cons pe_int pa_nil))) pe_int) pe_int (nomark _)))
      (pss_cons (ps_for PassesOwn.never rfl (pi_list (pe_slice sl_list (pv 0) (po_some pe_int) po_none)) (pg_name (i := 4) scD.nd rfl (Or.inl rfl)) (pss_cons (ps_set (i := 5) scD.nd rfl (Or.inl rfl) (pe_callB (call_max2 rfl) (by rfl) T.max bt_max (pa_cons (pv 4) (pa_cons (pe_un un_neg (pv 4)) pa_nil))))
      (pss_cons (ps_if (pt_not (pt_val (pv 3))) (pss_one (ps_set (i := 5) scD.nd rfl (Or.inl rfl) (pe_call GM hr rfl DM.mg DM.kp DM.b .nil pass0 (pa_cons (pe_op op_add (pe_call GM hr rfl DM.mg DM.kp DM.b .nil pass0 (pa_cons (pv 4) (pa_cons pe_int (pa_cons pe_int pa_nil)))) pe_int) (pa_cons pe_int (pa_cons pe_int pa_nil)))))) pss_nil)
      (pss_cons (ps_set (i := 6) scD.nd rfl (Or.inl rfl) pe_int)
      (pss_one (ps_while PassesOwn.never (PW.pt (pw_or (pt_cmpR op_eq (pv 6) pe_int (nomark _)) (pw_or1 (PW.pt (pw_and (pt_val (pv 3)) (pw_and (pt_cmpR op_gt (pv 5) pe_int (nomark _)) (pw_and1 (pt_cmpR op_lt (pv 6) pe_int (nomark _))))))))) (pss_cons (ps_set (i := 7) scD.nd rfl (Or.inl rfl) (pe_op op_sub (pe_op op_mod (pe_op op_fdiv (pv 5) pe_int) (pe_op op_add (pv 1) pe_int)) pe_int))
      (pss_cons (ps_expr (pe_bm PySem.F.plainAttrs_list PySem.F.slot_list_append PySem.F.type_list_append mt_append (pv 2) (pa_cons (pe_tup (pa_cons (pe_op op_mod (pv 5) pe_int) (pa_cons (pv 7) (pa_cons (pe_op op_mod (pe_op op_fdiv (pe_op op_fdiv (pv 5) pe_int) (pe_op op_add (pv 1) pe_int)) pe_int) pa_nil)))) pa_nil)))
      (pss_cons (ps_set (i := 5) scD.nd rfl (Or.inl rfl) (pe_op op_fdiv (pe_op op_fdiv (pe_op op_fdiv (pv 5) pe_int) (pe_op op_add (pv 1) pe_int)) pe_int))
      (pss_one (ps_aug (i := 6) scD.nd rfl (Or.inl rfl) pe_int ip_add)))))))))))
      (pss_one (ps_ret (pe_slice sl_list (pv 2) po_none (po_some pe_int))))))), ?_⟩
    refine ⟨by decide, fun d hd => ?_⟩
    have sd : ∀ X : HO, Same H (upd H d X) := fun X b o e => by rw [upd_ne (ne_of_none e hd)]; exact e
    refine ⟨_, rfl, sc, ns, 0, rfl, (sd _).seq hsc, _, _, rfl, rfl, (by show (0 : Int) < 2; decide), rfl, ?_⟩
    dsimp only
    generalize decide (V.int (ns.getD 0 0 % 2) = V.int 0) = dg
    obtain ⟨ms, em, hml⟩ := cut_ints ns (some 1) none
    refine ⟨_, rfl, 1, rfl, sc, _, rfl, (sd _).seq hsc, fun sl hsl => ?_⟩
    rw [em]
    have sld : sl ≠ d := fun z => by rw [z, upd_same] at hsl; cases hsl
    rw [upd_ne sld] at hsl
    refine ⟨sl, rfl, ⟨_, SqL.of upd_same⟩, for_list (K := K) (a := sl) (xs := ms.map V.int) (fun i σ H2 => ∃ (v4 v5 v6 v7 : Option V) (xs : List V), σ = [some (.ref sc), some (.int many), some (.ref d), some (.bl dg), v4, v5, v6, v7] ∧
      H2 d = some (.lst xs) ∧ xs.length ≤ 60 * i ∧ (∀ x ∈ xs, DeedAt H2 many x) ∧ Off (· = d) (upd (upd H d (.lst [])) sl (.lst (ms.map V.int))) H2)
      ⟨_, _, _, _, [], rfl, by rw [upd_ne (Ne.symm sld), upd_same], Nat.zero_le _, (fun x hx => by cases hx), fun b o e _ => e⟩
      (fun i σ H2 _ ⟨_, _, _, _, _, _, _, _, _, o⟩ => SqL.of (o _ _ upd_same sld)) ?_ ?_⟩
    · rintro i y σ H2 hi ⟨v4, v5, v6, v7, xs, rfl, hx, hl, hD, o⟩
      have hil : i < ms.length := by simpa using (List.getElem?_eq_some_iff.mp hi).1
      obtain ⟨z, rfl⟩ : ∃ z, y = V.int z := by
        rw [List.getElem?_map] at hi
        cases e : ms[i]? with
        | none => rw [e] at hi; cases hi
        | some z => rw [e] at hi; exact ⟨z, (Option.some.inj hi).symm⟩
      refine ⟨_, rfl, _, rfl, z, rfl, z, -z, rfl, ?_⟩
      have rest : ∀ (left : Int) (m : Nat) (σ : St) (H3 : Hp), DW many i sc d (upd (upd H d (.lst [])) sl (.lst (ms.map V.int))) dg z m σ H3 → True := fun _ _ _ _ _ => trivial
      refine ⟨_, rfl, dg, rfl, ?_⟩
      refine ite2 (fun c => ?A) (fun c => ?B)
      case' A => refine ⟨_, rfl, z, 48271, 2147483647, rfl, by decide, by decide, by decide, _, _, rfl, rfl, _, 69621, 2147483629, rfl, by decide, by decide, by decide, ?_⟩
      case A =>
        refine ⟨DW many i sc d (upd (upd H d (.lst [])) sl (.lst (ms.map V.int))) dg z, ⟨60, _, 0, _, xs, rfl, rfl, by omega, hx, by omega, hD, o⟩, ?_⟩
        rintro m σ H3 ⟨left, tn, pv, xs3, rfl, rfl, htn, hx3, hl3, hD3, o3⟩
        have fin : ∀ b : Bool, DW many i sc d (upd (upd H d (.lst [])) sl (.lst (ms.map V.int))) dg z (60 - tn) [some (.ref sc), some (.int many), some (.ref d), some (.bl dg), some (.int z), some (.int left), some (.int tn), pv] H3 →
            ∃ (v4 v5 v6 v7 : Option V) (xs : List V), [some (V.ref sc), some (.int many), some (.ref d), some (.bl dg), some (.int z), some (.int left), some (.int tn), pv] = [some (V.ref sc), some (.int many), some (.ref d), some (.bl dg), v4, v5, v6, v7] ∧
            H3 d = some (.lst xs) ∧ xs.length ≤ 60 * (i + 1) ∧ (∀ x ∈ xs, DeedAt H3 many x) ∧ Off (· = d) (upd (upd H d (.lst [])) sl (.lst (ms.map V.int))) H3 := fun _ _ => ⟨_, _, _, _, xs3, rfl, hx3, by omega, hD3, o3⟩
        have hm3 : (0 : Int) < (many : Int) + 3 := by omega
        refine ⟨_, rfl, rfl, _, rfl, ?_⟩
        refine ite2 (fun c1 => ?C1) (fun c1 => ?D1)
        case' C1 => have hlt : tn < 60 := by
                     have z : (tn : Int) = 0 := by simpa using c1
                     omega
        case' D1 =>
          refine ⟨_, rfl, dg, rfl, ?_⟩
          refine ite2 (fun c2 => ?E1) (fun c2 => iteF (fin true ⟨left, tn, pv, xs3, rfl, rfl, htn, hx3, hl3, hD3, o3⟩))
          case' E1 =>
            refine ⟨_, rfl, _, _, rfl, rfl, _, rfl, ?_⟩
            refine ite2 (fun c3 => ?G1) (fun c3 => iteF (fin true ⟨left, tn, pv, xs3, rfl, rfl, htn, hx3, hl3, hD3, o3⟩))
            case' G1 =>
              refine ⟨_, rfl, _, _, rfl, rfl, _, rfl, ?_⟩
              refine ite2 (fun c4 => ?I1) (fun c4 => (fin true ⟨left, tn, pv, xs3, rfl, rfl, htn, hx3, hl3, hD3, o3⟩))
              case' I1 => have hlt : tn < 60 := by
                           have z : (tn : Int) < 60 := by simpa using c4
                           omega
        all_goals
          refine ⟨fun σ' H' => ∃ m', m' < 60 - tn ∧ DW many i sc d (upd (upd H d (.lst [])) sl (.lst (ms.map V.int))) dg z m' σ' H', fun σ' H' h => h, ?_⟩
          refine ⟨_, rfl, _, _, rfl, rfl, ⟨by decide, by decide⟩, _, rfl, _, _, rfl, rfl, _, _, rfl, rfl, hm3, _, _, rfl, rfl, ?_⟩
          refine ⟨_, rfl, .inl ⟨rfl, _, SqL.of hx3⟩, _, rfl, _, _, rfl, rfl, (by show (0 : Int) < 7; decide), _, rfl, _, rfl, _, _, rfl, rfl, ⟨by decide, by decide⟩, _, rfl, _, _, rfl, rfl, _, _, rfl, rfl, ⟨hm3, by show (many : Int) + 3 < 1073741824; omega⟩, _, _, rfl, rfl, (by show (0 : Int) < 256; decide),
            (by show 3 ≤ sizeLine; decide), fun t ht => ⟨d, xs3, _, rfl, rfl, by rw [upd_ne (ne_of_none hx3 ht)]; exact hx3, by omega, ?_⟩⟩
          refine ⟨_, rfl, _, _, rfl, rfl, ⟨by decide, by decide⟩, _, rfl, _, _, rfl, rfl, _, _, rfl, rfl, ⟨hm3, by show (many : Int) + 3 < 1073741824; omega⟩, _, _, rfl, rfl, ⟨by decide, by decide⟩, ?_⟩
          refine ⟨_, rfl, _, _, rfl, rfl, 60 - (tn + 1), by omega, _, tn + 1, _, xs3 ++ [.ref t], rfl, rfl, by omega, upd_same, by rw [List.length_append, List.length_singleton]; omega, fun x hx' => ?_, fun b u e hb => ?_⟩
          · have td : t ≠ d := fun z => by rw [z, hx3] at ht; cases ht
            rcases List.mem_append.mp hx' with h | h
            · refine (hD3 x h).off hx3 fun b u e hb => ?_
              rw [upd_ne (show b ≠ d from hb), upd_ne (ne_of_none e ht)]
              exact e
            · have e := List.mem_singleton.mp h
              subst e
              refine ⟨t, _, _, _, rfl, by rw [upd_ne td, upd_same], ?_⟩
              have g1 := Int.emod_nonneg (left / 7) (show (many : Int) + 3 ≠ 0 by omega)
              have g2 := Int.emod_lt_of_pos (left / 7) hm3
              refine ⟨Int.emod_nonneg _ (by decide), Int.emod_lt_of_pos _ (by decide), ?_, ?_, Int.emod_nonneg _ (by decide), Int.emod_lt_of_pos _ (by decide)⟩
              · show (-1 : Int) ≤ left / 7 % ((many : Int) + 3) - 1
                omega
              · show left / 7 % ((many : Int) + 3) - 1 ≤ (many : Int) + 1
                omega
          · have e3 := o3 b u e hb
            rw [upd_ne (show b ≠ d from hb), upd_ne (ne_of_none e3 ht)]
            exact e3
      case B =>
        refine ⟨DW many i sc d (upd (upd H d (.lst [])) sl (.lst (ms.map V.int))) dg z, ⟨60, _, 0, _, xs, rfl, rfl, by omega, hx, by omega, hD, o⟩, ?_⟩
        rintro m σ H3 ⟨left, tn, pv, xs3, rfl, rfl, htn, hx3, hl3, hD3, o3⟩
        have fin : ∀ b : Bool, DW many i sc d (upd (upd H d (.lst [])) sl (.lst (ms.map V.int))) dg z (60 - tn) [some (.ref sc), some (.int many), some (.ref d), some (.bl dg), some (.int z), some (.int left), some (.int tn), pv] H3 →
            ∃ (v4 v5 v6 v7 : Option V) (xs : List V), [some (V.ref sc), some (.int many), some (.ref d), some (.bl dg), some (.int z), some (.int left), some (.int tn), pv] = [some (V.ref sc), some (.int many), some (.ref d), some (.bl dg), v4, v5, v6, v7] ∧
            H3 d = some (.lst xs) ∧ xs.length ≤ 60 * (i + 1) ∧ (∀ x ∈ xs, DeedAt H3 many x) ∧ Off (· = d) (upd (upd H d (.lst [])) sl (.lst (ms.map V.int))) H3 := fun _ _ => ⟨_, _, _, _, xs3, rfl, hx3, by omega, hD3, o3⟩
        have hm3 : (0 : Int) < (many : Int) + 3 := by omega
        refine ⟨_, rfl, rfl, _, rfl, ?_⟩
        refine ite2 (fun c1 => ?C2) (fun c1 => ?D2)
        case' C2 => have hlt : tn < 60 := by
                     have z : (tn : Int) = 0 := by simpa using c1
                     omega
        case' D2 =>
          refine ⟨_, rfl, dg, rfl, ?_⟩
          refine ite2 (fun c2 => ?E2) (fun c2 => iteF (fin true ⟨left, tn, pv, xs3, rfl, rfl, htn, hx3, hl3, hD3, o3⟩))
          case' E2 =>
            refine ⟨_, rfl, _, _, rfl, rfl, _, rfl, ?_⟩
            refine ite2 (fun c3 => ?G2) (fun c3 => iteF (fin true ⟨left, tn, pv, xs3, rfl, rfl, htn, hx3, hl3, hD3, o3⟩))
            case' G2 =>
              refine ⟨_, rfl, _, _, rfl, rfl, _, rfl, ?_⟩
              refine ite2 (fun c4 => ?I2) (fun c4 => (fin true ⟨left, tn, pv, xs3, rfl, rfl, htn, hx3, hl3, hD3, o3⟩))
              case' I2 => have hlt : tn < 60 := by
                           have z : (tn : Int) < 60 := by simpa using c4
                           omega
        all_goals
          refine ⟨fun σ' H' => ∃ m', m' < 60 - tn ∧ DW many i sc d (upd (upd H d (.lst [])) sl (.lst (ms.map V.int))) dg z m' σ' H', fun σ' H' h => h, ?_⟩
          refine ⟨_, rfl, _, _, rfl, rfl, ⟨by decide, by decide⟩, _, rfl, _, _, rfl, rfl, _, _, rfl, rfl, hm3, _, _, rfl, rfl, ?_⟩
          refine ⟨_, rfl, .inl ⟨rfl, _, SqL.of hx3⟩, _, rfl, _, _, rfl, rfl, (by show (0 : Int) < 7; decide), _, rfl, _, rfl, _, _, rfl, rfl, ⟨by decide, by decide⟩, _, rfl, _, _, rfl, rfl, _, _, rfl, rfl, ⟨hm3, by show (many : Int) + 3 < 1073741824; omega⟩, _, _, rfl, rfl, (by show (0 : Int) < 256; decide),
            (by show 3 ≤ sizeLine; decide), fun t ht => ⟨d, xs3, _, rfl, rfl, by rw [upd_ne (ne_of_none hx3 ht)]; exact hx3, by omega, ?_⟩⟩
          refine ⟨_, rfl, _, _, rfl, rfl, ⟨by decide, by decide⟩, _, rfl, _, _, rfl, rfl, _, _, rfl, rfl, ⟨hm3, by show (many : Int) + 3 < 1073741824; omega⟩, _, _, rfl, rfl, ⟨by decide, by decide⟩, ?_⟩
          refine ⟨_, rfl, _, _, rfl, rfl, 60 - (tn + 1), by omega, _, tn + 1, _, xs3 ++ [.ref t], rfl, rfl, by omega, upd_same, by rw [List.length_append, List.length_singleton]; omega, fun x hx' => ?_, fun b u e hb => ?_⟩
          · have td : t ≠ d := fun z => by rw [z, hx3] at ht; cases ht
            rcases List.mem_append.mp hx' with h | h
            · refine (hD3 x h).off hx3 fun b u e hb => ?_
              rw [upd_ne (show b ≠ d from hb), upd_ne (ne_of_none e ht)]
              exact e
            · have e := List.mem_singleton.mp h
              subst e
              refine ⟨t, _, _, _, rfl, by rw [upd_ne td, upd_same], ?_⟩
              have g1 := Int.emod_nonneg (left / 7) (show (many : Int) + 3 ≠ 0 by omega)
              have g2 := Int.emod_lt_of_pos (left / 7) hm3
              refine ⟨Int.emod_nonneg _ (by decide), Int.emod_lt_of_pos _ (by decide), ?_, ?_, Int.emod_nonneg _ (by decide), Int.emod_lt_of_pos _ (by decide)⟩
              · show (-1 : Int) ≤ left / 7 % ((many : Int) + 3) - 1
                omega
              · show left / 7 % ((many : Int) + 3) - 1 ≤ (many : Int) + 1
                omega
          · have e3 := o3 b u e hb
            rw [upd_ne (show b ≠ d from hb), upd_ne (ne_of_none e3 ht)]
            exact e3
    · rintro σ H2 ⟨v4, v5, v6, v7, xs, rfl, hx, hl, hD, o⟩
      refine ⟨_, rfl, 300, rfl, d, xs, rfl, SqL.of hx, fun q hq => ?_⟩
      obtain ⟨c1, c2⟩ := cut300 xs
      have s2 : Same H H2 := fun b u e => o b u (by rw [upd_ne (ne_of_none e hsl), upd_ne (ne_of_none e hd)]; exact e) (ne_of_none e hd)
      have hqH : H q = none := s2.free hq
      refine k q _ _ hqH (fun b u e => by rw [upd_ne (ne_of_none e hqH)]; exact s2 b u e) upd_same c1 fun x hx' => (hD x (c2 x hx')).same fun b u e => by rw [upd_ne (ne_of_none e hq)]; exact e
end
end St

namespace St
open PySem L2
theorem same_new {H : Hp} {l : Addr} {X : HO} (h : H l = none) : Same H (upd H l X) := fun b o e => by rw [upd_ne (ne_of_none e h)]; exact e
theorem bt_VE : bootBuiltins "ValueError" = some (.type "ValueError") := by decide +kernel
/-- the classes of the refusals -/
structure OTxt (K : PySem.W.Frag) (mg : Str → Option Value) (CN : Addr) : Prop where
  xc : PySem.W.XCls K CN
  ve : mg "ValueError" = none
  kv : PySem.W.kitOne K (.ref CN) (.type "ValueError") = some true
  ke : ∃ D, mg "KernelError" = some (.ref D) ∧ PySem.W.kitOne K (.ref CN) (.ref D) = some true
  xAgain : ∃ D, mg "Again" = some (.ref D) ∧ PySem.W.kitOne K (.ref CN) (.ref D) = some false
  xBadCall : ∃ D, mg "BadCall" = some (.ref D) ∧ PySem.W.kitOne K (.ref CN) (.ref D) = some false
  xBadMode : ∃ D, mg "BadMode" = some (.ref D) ∧ PySem.W.kitOne K (.ref CN) (.ref D) = some false
  xBadName : ∃ D, mg "BadName" = some (.ref D) ∧ PySem.W.kitOne K (.ref CN) (.ref D) = some false
  xBadRow : ∃ D, mg "BadRow" = some (.ref D) ∧ PySem.W.kitOne K (.ref CN) (.ref D) = some false
  xBroken : ∃ D, mg "Broken" = some (.ref D) ∧ PySem.W.kitOne K (.ref CN) (.ref D) = some false
  xFallen : ∃ D, mg "Fallen" = some (.ref D) ∧ PySem.W.kitOne K (.ref CN) (.ref D) = some false
  xInside : ∃ D, mg "Inside" = some (.ref D) ∧ PySem.W.kitOne K (.ref CN) (.ref D) = some false
  xIsDir : ∃ D, mg "IsDir" = some (.ref D) ∧ PySem.W.kitOne K (.ref CN) (.ref D) = some false
  xNoBlock : ∃ D, mg "NoBlock" = some (.ref D) ∧ PySem.W.kitOne K (.ref CN) (.ref D) = some false
  xNoChild : ∃ D, mg "NoChild" = some (.ref D) ∧ PySem.W.kitOne K (.ref CN) (.ref D) = some false
  xNoHandle : ∃ D, mg "NoHandle" = some (.ref D) ∧ PySem.W.kitOne K (.ref CN) (.ref D) = some false
  xNoName : ∃ D, mg "NoName" = some (.ref D) ∧ PySem.W.kitOne K (.ref CN) (.ref D) = some false
  xNoNode : ∃ D, mg "NoNode" = some (.ref D) ∧ PySem.W.kitOne K (.ref CN) (.ref D) = some false
  xNoOwner : ∃ D, mg "NoOwner" = some (.ref D) ∧ PySem.W.kitOne K (.ref CN) (.ref D) = some true
  xNoPage : ∃ D, mg "NoPage" = some (.ref D) ∧ PySem.W.kitOne K (.ref CN) (.ref D) = some false
  xNoRoom : ∃ D, mg "NoRoom" = some (.ref D) ∧ PySem.W.kitOne K (.ref CN) (.ref D) = some false
  xNoSpace : ∃ D, mg "NoSpace" = some (.ref D) ∧ PySem.W.kitOne K (.ref CN) (.ref D) = some false
  xNoTask : ∃ D, mg "NoTask" = some (.ref D) ∧ PySem.W.kitOne K (.ref CN) (.ref D) = some false
  xNotAllowed : ∃ D, mg "NotAllowed" = some (.ref D) ∧ PySem.W.kitOne K (.ref CN) (.ref D) = some false
  xNotDir : ∃ D, mg "NotDir" = some (.ref D) ∧ PySem.W.kitOne K (.ref CN) (.ref D) = some false
  xNotEmpty : ∃ D, mg "NotEmpty" = some (.ref D) ∧ PySem.W.kitOne K (.ref CN) (.ref D) = some false
  xNotHeld : ∃ D, mg "NotHeld" = some (.ref D) ∧ PySem.W.kitOne K (.ref CN) (.ref D) = some false
  xTaken : ∃ D, mg "Taken" = some (.ref D) ∧ PySem.W.kitOne K (.ref CN) (.ref D) = some false
  xTooBig : ∃ D, mg "TooBig" = some (.ref D) ∧ PySem.W.kitOne K (.ref CN) (.ref D) = some false
  xTooMany : ∃ D, mg "TooMany" = some (.ref D) ∧ PySem.W.kitOne K (.ref CN) (.ref D) = some false
def spIs : Sp := fun vs H Q _ => ∃ (i j : Int), vs = [.int i, .int j] ∧ Q (.bl (decide (i = j))) H
def spOnly (CN : Addr) : Sp := fun vs H Q _ => ∃ (e : Addr), vs = [.ref e, .str "NoOwner"] ∧ H e = some (xo e (.ref CN)) ∧ ∀ H', Same H H' → Q (.bl true) H'
def nmsL : List Str := ["Again", "BadCall", "BadMode", "BadName", "BadRow", "Broken", "Fallen", "Inside", "IsDir", "NoBlock", "NoChild", "NoHandle", "NoName", "NoNode", "NoOwner", "NoPage", "NoRoom", "NoSpace", "NoTask", "NotAllowed", "NotDir", "NotEmpty", "NotHeld", "Taken", "TooBig", "TooMany"]
def tldL : List Bool := [false, false, false, false, false, false, false, false, false, false, false, false, false, false, true, false, false, false, false, false, false, false, false, false, false, false]
def nmT (k : Nat) : List V := ((List.range k).filter fun i => tldL.getD i false).map fun i => V.str (nmsL.getD i "")
section
variable {P : Program} {w : World} {K : PySem.W.Frag} {mg : Str → Option Value} {base : Heap}
theorem scIs : FnScope ["_law_found", "_law_due"] ["_law_found", "_law_due"] (defScope sIs) := ⟨rfl, rfl, rfl, by decide +kernel, rfl, by decide +kernel, by decide +kernel⟩
theorem ok_is {f g : Addr} {fd gd : FuncData} (F : Fun K "_law_is" "_law_is" sIs f fd) (T : LTxt mg) (GW : FnOk P w K mg base CX0 1 g gd ["_law_found"] spWhole) (DW : Def K mg "_law_whole" g gd ["_law_found"]) :
    FnOk P w K mg base CX0 2 f fd ["_law_found", "_law_due"] spIs := by
  refine F.ok scIs (fun vs H Q E h => ?_) (fun cdv A outer s H vs Q E hr h => ?_)
  · obtain ⟨i, j, rfl, _⟩ := h
    rfl
  · obtain ⟨i, j, rfl, k⟩ := h
    refine ⟨_, (pss_cons (ps_if (pt_cmpR op_isN (pv 1) pe_non (nomark _)) (pss_one (ps_ret (pe_cmpR op_isN (pv 0) pe_non (nomark _)))) pss_nil)
      (pss_one (ps_ret (pe_and (pe_call GW (hr.mono (by decide)) (by rfl) DW.mg DW.kp DW.b .nil pass0 (pa_cons (pv 0) pa_nil)) (pe_one (pe_cmpR op_eq (pv 0) (pv 1) (nomark _))))))), ?_⟩
    refine ⟨_, rfl, rfl, _, rfl, ?_⟩
    refine iteF ?_
    refine ⟨_, rfl, i, rfl, true, rfl, iteT ?_⟩
    refine ⟨_, rfl, _, rfl, rfl, ?_⟩
    have e : decide (V.int i = V.int j) = decide (i = j) := by simp
    rw [e]
    exact k
theorem scOn : FnScope ["_law_caught", "_law_due", "_law_names", "_law_told"] ["_law_caught", "_law_due"] (defScope sOnly) := ⟨rfl, rfl, rfl, by decide +kernel, rfl, by decide +kernel, by decide +kernel⟩
set_option maxHeartbeats 8000000 in
theorem ok_only {f CN : Addr} {fd : FuncData} (F : Fun K "_law_only" "_law_only" sOnly f fd) (T : LTxt mg) (OT : OTxt K mg CN) :
    FnOk P w K mg base CX0 1 f fd ["_law_caught", "_law_due"] (spOnly CN) := by
  refine F.ok scOn (fun vs H Q E h => ?_) (fun cdv A outer s H vs Q E hr h => ?_)
  · obtain ⟨e, rfl, _⟩ := h
    rfl
  · obtain ⟨e, rfl, he, k⟩ := h
    have hs : sizeLine = 16777216 := sizeLine_eq
    obtain ⟨cAgain, mAgain, kAgain⟩ := OT.xAgain
    obtain ⟨cBadCall, mBadCall, kBadCall⟩ := OT.xBadCall
    obtain ⟨cBadMode, mBadMode, kBadMode⟩ := OT.xBadMode
    obtain ⟨cBadName, mBadName, kBadName⟩ := OT.xBadName
    obtain ⟨cBadRow, mBadRow, kBadRow⟩ := OT.xBadRow
    obtain ⟨cBroken, mBroken, kBroken⟩ := OT.xBroken
    obtain ⟨cFallen, mFallen, kFallen⟩ := OT.xFallen
    obtain ⟨cInside, mInside, kInside⟩ := OT.xInside
    obtain ⟨cIsDir, mIsDir, kIsDir⟩ := OT.xIsDir
    obtain ⟨cNoBlock, mNoBlock, kNoBlock⟩ := OT.xNoBlock
    obtain ⟨cNoChild, mNoChild, kNoChild⟩ := OT.xNoChild
    obtain ⟨cNoHandle, mNoHandle, kNoHandle⟩ := OT.xNoHandle
    obtain ⟨cNoName, mNoName, kNoName⟩ := OT.xNoName
    obtain ⟨cNoNode, mNoNode, kNoNode⟩ := OT.xNoNode
    obtain ⟨cNoOwner, mNoOwner, kNoOwner⟩ := OT.xNoOwner
    obtain ⟨cNoPage, mNoPage, kNoPage⟩ := OT.xNoPage
    obtain ⟨cNoRoom, mNoRoom, kNoRoom⟩ := OT.xNoRoom
    obtain ⟨cNoSpace, mNoSpace, kNoSpace⟩ := OT.xNoSpace
    obtain ⟨cNoTask, mNoTask, kNoTask⟩ := OT.xNoTask
    obtain ⟨cNotAllowed, mNotAllowed, kNotAllowed⟩ := OT.xNotAllowed
    obtain ⟨cNotDir, mNotDir, kNotDir⟩ := OT.xNotDir
    obtain ⟨cNotEmpty, mNotEmpty, kNotEmpty⟩ := OT.xNotEmpty
    obtain ⟨cNotHeld, mNotHeld, kNotHeld⟩ := OT.xNotHeld
    obtain ⟨cTaken, mTaken, kTaken⟩ := OT.xTaken
    obtain ⟨cTooBig, mTooBig, kTooBig⟩ := OT.xTooBig
    obtain ⟨cTooMany, mTooMany, kTooMany⟩ := OT.xTooMany
    obtain ⟨cKernelError, mKernelError, kKernelError⟩ := OT.ke
    have g_isinstance : (defScope sOnly).names.lookup ("isinstance" : Str) = some NameKind.globalImplicit := by decide +kernel
    have g_BadMode : (defScope sOnly).names.lookup ("BadMode" : Str) = some NameKind.globalImplicit := by decide +kernel
    have g_BadCall : (defScope sOnly).names.lookup ("BadCall" : Str) = some NameKind.globalImplicit := by decide +kernel
    have g_Again : (defScope sOnly).names.lookup ("Again" : Str) = some NameKind.globalImplicit := by decide +kernel
    have g_Broken : (defScope sOnly).names.lookup ("Broken" : Str) = some NameKind.globalImplicit := by decide +kernel
    have g_BadRow : (defScope sOnly).names.lookup ("BadRow" : Str) = some NameKind.globalImplicit := by decide +kernel
    have g_BadName : (defScope sOnly).names.lookup ("BadName" : Str) = some NameKind.globalImplicit := by decide +kernel
    have g_IsDir : (defScope sOnly).names.lookup ("IsDir" : Str) = some NameKind.globalImplicit := by decide +kernel
    have g_Inside : (defScope sOnly).names.lookup ("Inside" : Str) = some NameKind.globalImplicit := by decide +kernel
    have g_Fallen : (defScope sOnly).names.lookup ("Fallen" : Str) = some NameKind.globalImplicit := by decide +kernel
    have g_NoHandle : (defScope sOnly).names.lookup ("NoHandle" : Str) = some NameKind.globalImplicit := by decide +kernel
    have g_NoChild : (defScope sOnly).names.lookup ("NoChild" : Str) = some NameKind.globalImplicit := by decide +kernel
    have g_NoBlock : (defScope sOnly).names.lookup ("NoBlock" : Str) = some NameKind.globalImplicit := by decide +kernel
    have g_NoOwner : (defScope sOnly).names.lookup ("NoOwner" : Str) = some NameKind.globalImplicit := by decide +kernel
    have g_NoNode : (defScope sOnly).names.lookup ("NoNode" : Str) = some NameKind.globalImplicit := by decide +kernel
    have g_NoName : (defScope sOnly).names.lookup ("NoName" : Str) = some NameKind.globalImplicit := by decide +kernel
    have g_NoSpace : (defScope sOnly).names.lookup ("NoSpace" : Str) = some NameKind.globalImplicit := by decide +kernel
    have g_NoRoom : (defScope sOnly).names.lookup ("NoRoom" : Str) = some NameKind.globalImplicit := by decide +kernel
    have g_NoPage : (defScope sOnly).names.lookup ("NoPage" : Str) = some NameKind.globalImplicit := by decide +kernel
    have g_NotDir : (defScope sOnly).names.lookup ("NotDir" : Str) = some NameKind.globalImplicit := by decide +kernel
    have g_NotAllowed : (defScope sOnly).names.lookup ("NotAllowed" : Str) = some NameKind.globalImplicit := by decide +kernel
    have g_NoTask : (defScope sOnly).names.lookup ("NoTask" : Str) = some NameKind.globalImplicit := by decide +kernel
    have g_Taken : (defScope sOnly).names.lookup ("Taken" : Str) = some NameKind.globalImplicit := by decide +kernel
    have g_NotHeld : (defScope sOnly).names.lookup ("NotHeld" : Str) = some NameKind.globalImplicit := by decide +kernel
    have g_NotEmpty : (defScope sOnly).names.lookup ("NotEmpty" : Str) = some NameKind.globalImplicit := by decide +kernel
    have g_TooMany : (defScope sOnly).names.lookup ("TooMany" : Str) = some NameKind.globalImplicit := by decide +kernel
    have g_TooBig : (defScope sOnly).names.lookup ("TooBig" : Str) = some NameKind.globalImplicit := by decide +kernel
    have g_KernelError : (defScope sOnly).names.lookup ("KernelError" : Str) = some NameKind.globalImplicit := by decide +kernel
    have g_ValueError : (defScope sOnly).names.lookup ("ValueError" : Str) = some NameKind.globalImplicit := by decide +kernel
    have g_range : (defScope sOnly).names.lookup ("range" : Str) = some NameKind.globalImplicit := by decide +kernel
    have g_len : (defScope sOnly).names.lookup ("len" : Str) = some NameKind.globalImplicit := by decide +kernel
    refine ⟨_, (pss_cons (ps_set (i := 2) scOn.nd rfl (Or.inr rfl) (pe_lst (pa_cons pe_str (pa_cons pe_str (pa_cons pe_str (pa_cons pe_str (pa_cons pe_str (pa_cons pe_str (pa_cons pe_str (pa_cons pe_str (pa_cons pe_str (pa_cons pe_str pa_nil))))))))))))
      (pss_cons (ps_set (i := 2) scOn.nd rfl (Or.inr rfl) (pe_op op_cat (pv 2) (pe_lst (pa_cons pe_str (pa_cons pe_str (pa_cons pe_str (pa_cons pe_str (pa_cons pe_str (pa_cons pe_str (pa_cons pe_str (pa_cons pe_str (pa_cons pe_str pa_nil))))))))))))
      (pss_cons (ps_set (i := 2) scOn.nd rfl (Or.inr rfl) (pe_op op_cat (pv 2) (pe_lst (pa_cons pe_str (pa_cons pe_str (pa_cons pe_str (pa_cons pe_str (pa_cons pe_str (pa_cons pe_str (pa_cons pe_str pa_nil))))))))))
      (pss_cons (ps_set (i := 3) scOn.nd rfl (Or.inr rfl) (pe_lst (pa_cons (pe_callB call_isx g_isinstance T.isi bt_isinstance (pa_cons (pv 0) (pa_cons (pe_glob (v := .ref cAgain) g_Again mAgain rfl) pa_nil))) (pa_cons (pe_callB call_isx g_isinstance T.isi bt_isinstance (pa_cons (pv 0) (pa_cons (pe_glob (v := .ref cBadCall) g_BadCall mBadCall rfl) pa_nil))) (pa_cons (pe_callB call_isx g_isinstance T.isi bt_isinstance (pa_cons (pv 0) (pa_cons (pe_glob (v := .ref cBadMode) g_BadMode mBadMode rfl) pa_nil))) pa_nil)))))
      (pss_cons (ps_set (i := 3) scOn.nd rfl (Or.inr rfl) (pe_op op_cat (pv 3) (pe_lst (pa_cons (pe_callB call_isx g_isinstance T.isi bt_isinstance (pa_cons (pv 0) (pa_cons (pe_glob (v := .ref cBadName) g_BadName mBadName rfl) pa_nil))) (pa_cons (pe_callB call_isx g_isinstance T.isi bt_isinstance (pa_cons (pv 0) (pa_cons (pe_glob (v := .ref cBadRow) g_BadRow mBadRow rfl) pa_nil))) (pa_cons (pe_callB call_isx g_isinstance T.isi bt_isinstance (pa_cons (pv 0) (pa_cons (pe_glob (v := .ref cBroken) g_Broken mBroken rfl) pa_nil))) pa_nil))))))
      (pss_cons (ps_set (i := 3) scOn.nd rfl (Or.inr rfl) (pe_op op_cat (pv 3) (pe_lst (pa_cons (pe_callB call_isx g_isinstance T.isi bt_isinstance (pa_cons (pv 0) (pa_cons (pe_glob (v := .ref cFallen) g_Fallen mFallen rfl) pa_nil))) (pa_cons (pe_callB call_isx g_isinstance T.isi bt_isinstance (pa_cons (pv 0) (pa_cons (pe_glob (v := .ref cInside) g_Inside mInside rfl) pa_nil))) (pa_cons (pe_callB call_isx g_isinstance T.isi bt_isinstance (pa_cons (pv 0) (pa_cons (pe_glob (v := .ref cIsDir) g_IsDir mIsDir rfl) pa_nil))) pa_nil))))))
      (pss_cons (ps_set (i := 3) scOn.nd rfl (Or.inr rfl) (pe_op op_cat (pv 3) (pe_lst (pa_cons (pe_callB call_isx g_isinstance T.isi bt_isinstance (pa_cons (pv 0) (pa_cons (pe_glob (v := .ref cNoBlock) g_NoBlock mNoBlock rfl) pa_nil))) (pa_cons (pe_callB call_isx g_isinstance T.isi bt_isinstance (pa_cons (pv 0) (pa_cons (pe_glob (v := .ref cNoChild) g_NoChild mNoChild rfl) pa_nil))) (pa_cons (pe_callB call_isx g_isinstance T.isi bt_isinstance (pa_cons (pv 0) (pa_cons (pe_glob (v := .ref cNoHandle) g_NoHandle mNoHandle rfl) pa_nil))) pa_nil))))))
      (pss_cons (ps_set (i := 3) scOn.nd rfl (Or.inr rfl) (pe_op op_cat (pv 3) (pe_lst (pa_cons (pe_callB call_isx g_isinstance T.isi bt_isinstance (pa_cons (pv 0) (pa_cons (pe_glob (v := .ref cNoName) g_NoName mNoName rfl) pa_nil))) (pa_cons (pe_callB call_isx g_isinstance T.isi bt_isinstance (pa_cons (pv 0) (pa_cons (pe_glob (v := .ref cNoNode) g_NoNode mNoNode rfl) pa_nil))) (pa_cons (pe_callB call_isx g_isinstance T.isi bt_isinstance (pa_cons (pv 0) (pa_cons (pe_glob (v := .ref cNoOwner) g_NoOwner mNoOwner rfl) pa_nil))) pa_nil))))))
      (pss_cons (ps_set (i := 3) scOn.nd rfl (Or.inr rfl) (pe_op op_cat (pv 3) (pe_lst (pa_cons (pe_callB call_isx g_isinstance T.isi bt_isinstance (pa_cons (pv 0) (pa_cons (pe_glob (v := .ref cNoPage) g_NoPage mNoPage rfl) pa_nil))) (pa_cons (pe_callB call_isx g_isinstance T.isi bt_isinstance (pa_cons (pv 0) (pa_cons (pe_glob (v := .ref cNoRoom) g_NoRoom mNoRoom rfl) pa_nil))) (pa_cons (pe_callB call_isx g_isinstance T.isi bt_isinstance (pa_cons (pv 0) (pa_cons (pe_glob (v := .ref cNoSpace) g_NoSpace mNoSpace rfl) pa_nil))) pa_nil))))))
      (pss_cons (ps_set (i := 3) scOn.nd rfl (Or.inr rfl) (pe_op op_cat (pv 3) (pe_lst (pa_cons (pe_callB call_isx g_isinstance T.isi bt_isinstance (pa_cons (pv 0) (pa_cons (pe_glob (v := .ref cNoTask) g_NoTask mNoTask rfl) pa_nil))) (pa_cons (pe_callB call_isx g_isinstance T.isi bt_isinstance (pa_cons (pv 0) (pa_cons (pe_glob (v := .ref cNotAllowed) g_NotAllowed mNotAllowed rfl) pa_nil))) (pa_cons (pe_callB call_isx g_isinstance T.isi bt_isinstance (pa_cons (pv 0) (pa_cons (pe_glob (v := .ref cNotDir) g_NotDir mNotDir rfl) pa_nil))) pa_nil))))))
      (pss_cons (ps_set (i := 3) scOn.nd rfl (Or.inr rfl) (pe_op op_cat (pv 3) (pe_lst (pa_cons (pe_callB call_isx g_isinstance T.isi bt_isinstance (pa_cons (pv 0) (pa_cons (pe_glob (v := .ref cNotEmpty) g_NotEmpty mNotEmpty rfl) pa_nil))) (pa_cons (pe_callB call_isx g_isinstance T.isi bt_isinstance (pa_cons (pv 0) (pa_cons (pe_glob (v := .ref cNotHeld) g_NotHeld mNotHeld rfl) pa_nil))) (pa_cons (pe_callB call_isx g_isinstance T.isi bt_isinstance (pa_cons (pv 0) (pa_cons (pe_glob (v := .ref cTaken) g_Taken mTaken rfl) pa_nil))) pa_nil))))))
      (pss_cons (ps_set (i := 3) scOn.nd rfl (Or.inr rfl) (pe_op op_cat (pv 3) (pe_lst (pa_cons (pe_callB call_isx g_isinstance T.isi bt_isinstance (pa_cons (pv 0) (pa_cons (pe_glob (v := .ref cTooBig) g_TooBig mTooBig rfl) pa_nil))) (pa_cons (pe_callB call_isx g_isinstance T.isi bt_isinstance (pa_cons (pv 0) (pa_cons (pe_glob (v := .ref cTooMany) g_TooMany mTooMany rfl) pa_nil))) pa_nil)))))
      (pss_cons (ps_if (PW.pt (pw_or (pt_not (pt_val (pe_callB call_isx g_isinstance T.isi bt_isinstance (pa_cons (pv 0) (pa_cons (pe_glob (v := .ref cKernelError) g_KernelError mKernelError rfl) pa_nil))))) (pw_or1 (pt_not (pt_val (pe_callB call_isx g_isinstance T.isi bt_isinstance (pa_cons (pv 0) (pa_cons (pe_bltn (v := .ty "ValueError") g_ValueError OT.ve bt_VE rfl) pa_nil)))))))) (pss_one (ps_ret pe_bl)) pss_nil)
      (pss_one (ps_ret (pe_cmpR (op_eqL hr.units0) (pe_comp (cl := [("_law_told", s.heap.objs.size + 2), ("_law_names", s.heap.objs.size + 1)]) (caps := [("_law_names", 2), ("_law_told", 3)]) ⟨rfl, by decide +kernel, by decide +kernel, rfl, by kernel_rfl, by intro p hp; simp only [List.mem_cons, List.not_mem_nil, or_false] at hp; rcases hp with rfl | rfl <;> first | rfl | exact ⟨rfl, .inl rfl, .inl rfl⟩ | exact ⟨rfl, .inl rfl, .inr rfl⟩, by kernel_rfl, by intro p hp; simp only [List.mem_cons, List.not_mem_nil, or_false] at hp; rcases hp with rfl | rfl <;> first | rfl | exact ⟨rfl, .inl rfl, .inl rfl⟩ | exact ⟨rfl, .inl rfl, .inr rfl⟩, by decide +kernel⟩ rfl (pi_range1 g_range T.range (pa_cons (pe_callB call_len_seq g_len T.len PySem.boot_len (pa_cons (pv 2) pa_nil)) pa_nil)) (fun _ _ _ _ => pts_one (pt_val (pe_ix (show IxR _ (rIxL K) from ix_list) (pv 2) (pv 0) (fun _ _ => rfl)))) (fun _ _ _ _ => (pe_ix (show IxR _ (rIxL K) from ix_list) (pv 1) (pv 0) (fun _ _ => rfl)))) (pe_lst (pa_cons (pv 1) pa_nil)) (nomark _))))))))))))))))), ?_⟩
    -- the names
    refine ⟨by decide, fun l1 hl1 => ?_⟩
    have s1 : Same H _ := same_new (X := .lst ((nmsL.take 10).map V.str)) hl1
    have e1 : upd H l1 (.lst ((nmsL.take 10).map V.str)) l1 = _ := upd_same
    show tSeq _ _ _ [some (V.ref e), some (.str "NoOwner"), some (.ref l1), none] (upd H l1 (.lst ((nmsL.take 10).map V.str)))
    generalize upd H l1 (.lst ((nmsL.take 10).map V.str)) = H1 at *
    refine ⟨_, rfl, by decide, fun la0 hla0 => ?_⟩
    have sla0 : Same H1 (upd H1 la0 (.lst (((nmsL.take 19).drop 10).map V.str))) := same_new hla0
    have ela0 : upd H1 la0 (.lst (((nmsL.take 19).drop 10).map V.str)) la0 = some (.lst (((nmsL.take 19).drop 10).map V.str)) := upd_same
    have ola0 := sla0 _ _ e1
    refine ⟨l1, la0, _, _, rfl, rfl, ola0, ela0, by decide, fun lb0 hlb0 => ?_⟩
    have slb0 : Same (upd H1 la0 (.lst (((nmsL.take 19).drop 10).map V.str))) (upd (upd H1 la0 (.lst (((nmsL.take 19).drop 10).map V.str))) lb0 (.lst ((nmsL.take 19).map V.str))) := same_new hlb0
    have elb0 : upd (upd H1 la0 (.lst (((nmsL.take 19).drop 10).map V.str))) lb0 (.lst ((nmsL.take 19).map V.str)) lb0 = some (.lst ((nmsL.take 19).map V.str)) := upd_same
    have tlb0 : Same H1 (upd (upd H1 la0 (.lst (((nmsL.take 19).drop 10).map V.str))) lb0 (.lst ((nmsL.take 19).map V.str))) := sla0.trans slb0
    clear sla0 slb0 ola0 ela0
    show tSeq _ _ _ [some (V.ref e), some (.str "NoOwner"), some (.ref lb0), none] (upd (upd H1 la0 (.lst (((nmsL.take 19).drop 10).map V.str))) lb0 (.lst ((nmsL.take 19).map V.str)))
    generalize upd (upd H1 la0 (.lst (((nmsL.take 19).drop 10).map V.str))) lb0 (.lst ((nmsL.take 19).map V.str)) = H2 at *
    have c2 : Same H H2 := (s1.trans tlb0)
    refine ⟨_, rfl, by decide, fun la1 hla1 => ?_⟩
    have sla1 : Same H2 (upd H2 la1 (.lst (((nmsL.take 26).drop 19).map V.str))) := same_new hla1
    have ela1 : upd H2 la1 (.lst (((nmsL.take 26).drop 19).map V.str)) la1 = some (.lst (((nmsL.take 26).drop 19).map V.str)) := upd_same
    have ola1 := sla1 _ _ elb0
    refine ⟨lb0, la1, _, _, rfl, rfl, ola1, ela1, by decide, fun lb1 hlb1 => ?_⟩
    have slb1 : Same (upd H2 la1 (.lst (((nmsL.take 26).drop 19).map V.str))) (upd (upd H2 la1 (.lst (((nmsL.take 26).drop 19).map V.str))) lb1 (.lst ((nmsL.take 26).map V.str))) := same_new hlb1
    have elb1 : upd (upd H2 la1 (.lst (((nmsL.take 26).drop 19).map V.str))) lb1 (.lst ((nmsL.take 26).map V.str)) lb1 = some (.lst ((nmsL.take 26).map V.str)) := upd_same
    have tlb1 : Same H2 (upd (upd H2 la1 (.lst (((nmsL.take 26).drop 19).map V.str))) lb1 (.lst ((nmsL.take 26).map V.str))) := sla1.trans slb1
    clear sla1 slb1 ola1 ela1
    show tSeq _ _ _ [some (V.ref e), some (.str "NoOwner"), some (.ref lb1), none] (upd (upd H2 la1 (.lst (((nmsL.take 26).drop 19).map V.str))) lb1 (.lst ((nmsL.take 26).map V.str)))
    generalize upd (upd H2 la1 (.lst (((nmsL.take 26).drop 19).map V.str))) lb1 (.lst ((nmsL.take 26).map V.str)) = H3 at *
    have c3 : Same H H3 := (c2.trans tlb1)
    -- what is told
    refine ⟨_, rfl, e, CN, _, _, false, rfl, .inl ⟨_, rfl, rfl⟩, OT.xc, (c3 _ _ he), kAgain, _, rfl, e, CN, _, _, false, rfl, .inl ⟨_, rfl, rfl⟩, OT.xc, (c3 _ _ he), kBadCall, _, rfl, e, CN, _, _, false, rfl, .inl ⟨_, rfl, rfl⟩, OT.xc, (c3 _ _ he), kBadMode, by decide, fun l2 hl2 => ?_⟩
    have s2 : Same H3 _ := same_new (X := .lst ((tldL.take 3).map V.bl)) hl2
    have e2 : upd H3 l2 (.lst ((tldL.take 3).map V.bl)) l2 = _ := upd_same
    have c4 : Same H _ := c3.trans s2
    have n4 := s2 _ _ elb1
    show tSeq _ _ _ [some (V.ref e), some (.str "NoOwner"), some (.ref lb1), some (.ref l2)] (upd H3 l2 (.lst ((tldL.take 3).map V.bl)))
    generalize upd H3 l2 (.lst ((tldL.take 3).map V.bl)) = H4 at *
    refine ⟨_, rfl, _, rfl, e, CN, _, _, false, rfl, .inl ⟨_, rfl, rfl⟩, OT.xc, (c4 _ _ he), kBadName, _, rfl, e, CN, _, _, false, rfl, .inl ⟨_, rfl, rfl⟩, OT.xc, (c4 _ _ he), kBadRow, _, rfl, e, CN, _, _, false, rfl, .inl ⟨_, rfl, rfl⟩, OT.xc, (c4 _ _ he), kBroken, by decide, fun la10 hla10 => ?_⟩
    have sla10 : Same H4 (upd H4 la10 (.lst (((tldL.take 6).drop 3).map V.bl))) := same_new hla10
    have ela10 : upd H4 la10 (.lst (((tldL.take 6).drop 3).map V.bl)) la10 = some (.lst (((tldL.take 6).drop 3).map V.bl)) := upd_same
    have ola10 := sla10 _ _ e2
    refine ⟨l2, la10, _, _, rfl, rfl, ola10, ela10, by decide, fun lb10 hlb10 => ?_⟩
    have slb10 : Same (upd H4 la10 (.lst (((tldL.take 6).drop 3).map V.bl))) (upd (upd H4 la10 (.lst (((tldL.take 6).drop 3).map V.bl))) lb10 (.lst ((tldL.take 6).map V.bl))) := same_new hlb10
    have elb10 : upd (upd H4 la10 (.lst (((tldL.take 6).drop 3).map V.bl))) lb10 (.lst ((tldL.take 6).map V.bl)) lb10 = some (.lst ((tldL.take 6).map V.bl)) := upd_same
    have tlb10 : Same H4 (upd (upd H4 la10 (.lst (((tldL.take 6).drop 3).map V.bl))) lb10 (.lst ((tldL.take 6).map V.bl))) := sla10.trans slb10
    clear sla10 slb10 ola10 ela10
    show tSeq _ _ _ [some (V.ref e), some (.str "NoOwner"), some (.ref lb1), some (.ref lb10)] (upd (upd H4 la10 (.lst (((tldL.take 6).drop 3).map V.bl))) lb10 (.lst ((tldL.take 6).map V.bl)))
    generalize upd (upd H4 la10 (.lst (((tldL.take 6).drop 3).map V.bl))) lb10 (.lst ((tldL.take 6).map V.bl)) = H5 at *
    have c5 : Same H H5 := c4.trans tlb10
    have n5 := tlb10 _ _ n4
    refine ⟨_, rfl, _, rfl, e, CN, _, _, false, rfl, .inl ⟨_, rfl, rfl⟩, OT.xc, (c5 _ _ he), kFallen, _, rfl, e, CN, _, _, false, rfl, .inl ⟨_, rfl, rfl⟩, OT.xc, (c5 _ _ he), kInside, _, rfl, e, CN, _, _, false, rfl, .inl ⟨_, rfl, rfl⟩, OT.xc, (c5 _ _ he), kIsDir, by decide, fun la11 hla11 => ?_⟩
    have sla11 : Same H5 (upd H5 la11 (.lst (((tldL.take 9).drop 6).map V.bl))) := same_new hla11
    have ela11 : upd H5 la11 (.lst (((tldL.take 9).drop 6).map V.bl)) la11 = some (.lst (((tldL.take 9).drop 6).map V.bl)) := upd_same
    have ola11 := sla11 _ _ elb10
    refine ⟨lb10, la11, _, _, rfl, rfl, ola11, ela11, by decide, fun lb11 hlb11 => ?_⟩
    have slb11 : Same (upd H5 la11 (.lst (((tldL.take 9).drop 6).map V.bl))) (upd (upd H5 la11 (.lst (((tldL.take 9).drop 6).map V.bl))) lb11 (.lst ((tldL.take 9).map V.bl))) := same_new hlb11
    have elb11 : upd (upd H5 la11 (.lst (((tldL.take 9).drop 6).map V.bl))) lb11 (.lst ((tldL.take 9).map V.bl)) lb11 = some (.lst ((tldL.take 9).map V.bl)) := upd_same
    have tlb11 : Same H5 (upd (upd H5 la11 (.lst (((tldL.take 9).drop 6).map V.bl))) lb11 (.lst ((tldL.take 9).map V.bl))) := sla11.trans slb11
    clear sla11 slb11 ola11 ela11
    show tSeq _ _ _ [some (V.ref e), some (.str "NoOwner"), some (.ref lb1), some (.ref lb11)] (upd (upd H5 la11 (.lst (((tldL.take 9).drop 6).map V.bl))) lb11 (.lst ((tldL.take 9).map V.bl)))
    generalize upd (upd H5 la11 (.lst (((tldL.take 9).drop 6).map V.bl))) lb11 (.lst ((tldL.take 9).map V.bl)) = H6 at *
    have c6 : Same H H6 := c5.trans tlb11
    have n6 := tlb11 _ _ n5
    refine ⟨_, rfl, _, rfl, e, CN, _, _, false, rfl, .inl ⟨_, rfl, rfl⟩, OT.xc, (c6 _ _ he), kNoBlock, _, rfl, e, CN, _, _, false, rfl, .inl ⟨_, rfl, rfl⟩, OT.xc, (c6 _ _ he), kNoChild, _, rfl, e, CN, _, _, false, rfl, .inl ⟨_, rfl, rfl⟩, OT.xc, (c6 _ _ he), kNoHandle, by decide, fun la12 hla12 => ?_⟩
    have sla12 : Same H6 (upd H6 la12 (.lst (((tldL.take 12).drop 9).map V.bl))) := same_new hla12
    have ela12 : upd H6 la12 (.lst (((tldL.take 12).drop 9).map V.bl)) la12 = some (.lst (((tldL.take 12).drop 9).map V.bl)) := upd_same
    have ola12 := sla12 _ _ elb11
    refine ⟨lb11, la12, _, _, rfl, rfl, ola12, ela12, by decide, fun lb12 hlb12 => ?_⟩
    have slb12 : Same (upd H6 la12 (.lst (((tldL.take 12).drop 9).map V.bl))) (upd (upd H6 la12 (.lst (((tldL.take 12).drop 9).map V.bl))) lb12 (.lst ((tldL.take 12).map V.bl))) := same_new hlb12
    have elb12 : upd (upd H6 la12 (.lst (((tldL.take 12).drop 9).map V.bl))) lb12 (.lst ((tldL.take 12).map V.bl)) lb12 = some (.lst ((tldL.take 12).map V.bl)) := upd_same
    have tlb12 : Same H6 (upd (upd H6 la12 (.lst (((tldL.take 12).drop 9).map V.bl))) lb12 (.lst ((tldL.take 12).map V.bl))) := sla12.trans slb12
    clear sla12 slb12 ola12 ela12
    show tSeq _ _ _ [some (V.ref e), some (.str "NoOwner"), some (.ref lb1), some (.ref lb12)] (upd (upd H6 la12 (.lst (((tldL.take 12).drop 9).map V.bl))) lb12 (.lst ((tldL.take 12).map V.bl)))
    generalize upd (upd H6 la12 (.lst (((tldL.take 12).drop 9).map V.bl))) lb12 (.lst ((tldL.take 12).map V.bl)) = H7 at *
    have c7 : Same H H7 := c6.trans tlb12
    have n7 := tlb12 _ _ n6
    refine ⟨_, rfl, _, rfl, e, CN, _, _, false, rfl, .inl ⟨_, rfl, rfl⟩, OT.xc, (c7 _ _ he), kNoName, _, rfl, e, CN, _, _, false, rfl, .inl ⟨_, rfl, rfl⟩, OT.xc, (c7 _ _ he), kNoNode, _, rfl, e, CN, _, _, true, rfl, .inl ⟨_, rfl, rfl⟩, OT.xc, (c7 _ _ he), kNoOwner, by decide, fun la13 hla13 => ?_⟩
    have sla13 : Same H7 (upd H7 la13 (.lst (((tldL.take 15).drop 12).map V.bl))) := same_new hla13
    have ela13 : upd H7 la13 (.lst (((tldL.take 15).drop 12).map V.bl)) la13 = some (.lst (((tldL.take 15).drop 12).map V.bl)) := upd_same
    have ola13 := sla13 _ _ elb12
    refine ⟨lb12, la13, _, _, rfl, rfl, ola13, ela13, by decide, fun lb13 hlb13 => ?_⟩
    have slb13 : Same (upd H7 la13 (.lst (((tldL.take 15).drop 12).map V.bl))) (upd (upd H7 la13 (.lst (((tldL.take 15).drop 12).map V.bl))) lb13 (.lst ((tldL.take 15).map V.bl))) := same_new hlb13
    have elb13 : upd (upd H7 la13 (.lst (((tldL.take 15).drop 12).map V.bl))) lb13 (.lst ((tldL.take 15).map V.bl)) lb13 = some (.lst ((tldL.take 15).map V.bl)) := upd_same
    have tlb13 : Same H7 (upd (upd H7 la13 (.lst (((tldL.take 15).drop 12).map V.bl))) lb13 (.lst ((tldL.take 15).map V.bl))) := sla13.trans slb13
    clear sla13 slb13 ola13 ela13
    show tSeq _ _ _ [some (V.ref e), some (.str "NoOwner"), some (.ref lb1), some (.ref lb13)] (upd (upd H7 la13 (.lst (((tldL.take 15).drop 12).map V.bl))) lb13 (.lst ((tldL.take 15).map V.bl)))
    generalize upd (upd H7 la13 (.lst (((tldL.take 15).drop 12).map V.bl))) lb13 (.lst ((tldL.take 15).map V.bl)) = H8 at *
    have c8 : Same H H8 := c7.trans tlb13
    have n8 := tlb13 _ _ n7
    refine ⟨_, rfl, _, rfl, e, CN, _, _, false, rfl, .inl ⟨_, rfl, rfl⟩, OT.xc, (c8 _ _ he), kNoPage, _, rfl, e, CN, _, _, false, rfl, .inl ⟨_, rfl, rfl⟩, OT.xc, (c8 _ _ he), kNoRoom, _, rfl, e, CN, _, _, false, rfl, .inl ⟨_, rfl, rfl⟩, OT.xc, (c8 _ _ he), kNoSpace, by decide, fun la14 hla14 => ?_⟩
    have sla14 : Same H8 (upd H8 la14 (.lst (((tldL.take 18).drop 15).map V.bl))) := same_new hla14
    have ela14 : upd H8 la14 (.lst (((tldL.take 18).drop 15).map V.bl)) la14 = some (.lst (((tldL.take 18).drop 15).map V.bl)) := upd_same
    have ola14 := sla14 _ _ elb13
    refine ⟨lb13, la14, _, _, rfl, rfl, ola14, ela14, by decide, fun lb14 hlb14 => ?_⟩
    have slb14 : Same (upd H8 la14 (.lst (((tldL.take 18).drop 15).map V.bl))) (upd (upd H8 la14 (.lst (((tldL.take 18).drop 15).map V.bl))) lb14 (.lst ((tldL.take 18).map V.bl))) := same_new hlb14
    have elb14 : upd (upd H8 la14 (.lst (((tldL.take 18).drop 15).map V.bl))) lb14 (.lst ((tldL.take 18).map V.bl)) lb14 = some (.lst ((tldL.take 18).map V.bl)) := upd_same
    have tlb14 : Same H8 (upd (upd H8 la14 (.lst (((tldL.take 18).drop 15).map V.bl))) lb14 (.lst ((tldL.take 18).map V.bl))) := sla14.trans slb14
    clear sla14 slb14 ola14 ela14
    show tSeq _ _ _ [some (V.ref e), some (.str "NoOwner"), some (.ref lb1), some (.ref lb14)] (upd (upd H8 la14 (.lst (((tldL.take 18).drop 15).map V.bl))) lb14 (.lst ((tldL.take 18).map V.bl)))
    generalize upd (upd H8 la14 (.lst (((tldL.take 18).drop 15).map V.bl))) lb14 (.lst ((tldL.take 18).map V.bl)) = H9 at *
    have c9 : Same H H9 := c8.trans tlb14
    have n9 := tlb14 _ _ n8
    refine ⟨_, rfl, _, rfl, e, CN, _, _, false, rfl, .inl ⟨_, rfl, rfl⟩, OT.xc, (c9 _ _ he), kNoTask, _, rfl, e, CN, _, _, false, rfl, .inl ⟨_, rfl, rfl⟩, OT.xc, (c9 _ _ he), kNotAllowed, _, rfl, e, CN, _, _, false, rfl, .inl ⟨_, rfl, rfl⟩, OT.xc, (c9 _ _ he), kNotDir, by decide, fun la15 hla15 => ?_⟩
    have sla15 : Same H9 (upd H9 la15 (.lst (((tldL.take 21).drop 18).map V.bl))) := same_new hla15
    have ela15 : upd H9 la15 (.lst (((tldL.take 21).drop 18).map V.bl)) la15 = some (.lst (((tldL.take 21).drop 18).map V.bl)) := upd_same
    have ola15 := sla15 _ _ elb14
    refine ⟨lb14, la15, _, _, rfl, rfl, ola15, ela15, by decide, fun lb15 hlb15 => ?_⟩
    have slb15 : Same (upd H9 la15 (.lst (((tldL.take 21).drop 18).map V.bl))) (upd (upd H9 la15 (.lst (((tldL.take 21).drop 18).map V.bl))) lb15 (.lst ((tldL.take 21).map V.bl))) := same_new hlb15
    have elb15 : upd (upd H9 la15 (.lst (((tldL.take 21).drop 18).map V.bl))) lb15 (.lst ((tldL.take 21).map V.bl)) lb15 = some (.lst ((tldL.take 21).map V.bl)) := upd_same
    have tlb15 : Same H9 (upd (upd H9 la15 (.lst (((tldL.take 21).drop 18).map V.bl))) lb15 (.lst ((tldL.take 21).map V.bl))) := sla15.trans slb15
    clear sla15 slb15 ola15 ela15
    show tSeq _ _ _ [some (V.ref e), some (.str "NoOwner"), some (.ref lb1), some (.ref lb15)] (upd (upd H9 la15 (.lst (((tldL.take 21).drop 18).map V.bl))) lb15 (.lst ((tldL.take 21).map V.bl)))
    generalize upd (upd H9 la15 (.lst (((tldL.take 21).drop 18).map V.bl))) lb15 (.lst ((tldL.take 21).map V.bl)) = H10 at *
    have c10 : Same H H10 := c9.trans tlb15
    have n10 := tlb15 _ _ n9
    refine ⟨_, rfl, _, rfl, e, CN, _, _, false, rfl, .inl ⟨_, rfl, rfl⟩, OT.xc, (c10 _ _ he), kNotEmpty, _, rfl, e, CN, _, _, false, rfl, .inl ⟨_, rfl, rfl⟩, OT.xc, (c10 _ _ he), kNotHeld, _, rfl, e, CN, _, _, false, rfl, .inl ⟨_, rfl, rfl⟩, OT.xc, (c10 _ _ he), kTaken, by decide, fun la16 hla16 => ?_⟩
    have sla16 : Same H10 (upd H10 la16 (.lst (((tldL.take 24).drop 21).map V.bl))) := same_new hla16
    have ela16 : upd H10 la16 (.lst (((tldL.take 24).drop 21).map V.bl)) la16 = some (.lst (((tldL.take 24).drop 21).map V.bl)) := upd_same
    have ola16 := sla16 _ _ elb15
    refine ⟨lb15, la16, _, _, rfl, rfl, ola16, ela16, by decide, fun lb16 hlb16 => ?_⟩
    have slb16 : Same (upd H10 la16 (.lst (((tldL.take 24).drop 21).map V.bl))) (upd (upd H10 la16 (.lst (((tldL.take 24).drop 21).map V.bl))) lb16 (.lst ((tldL.take 24).map V.bl))) := same_new hlb16
    have elb16 : upd (upd H10 la16 (.lst (((tldL.take 24).drop 21).map V.bl))) lb16 (.lst ((tldL.take 24).map V.bl)) lb16 = some (.lst ((tldL.take 24).map V.bl)) := upd_same
    have tlb16 : Same H10 (upd (upd H10 la16 (.lst (((tldL.take 24).drop 21).map V.bl))) lb16 (.lst ((tldL.take 24).map V.bl))) := sla16.trans slb16
    clear sla16 slb16 ola16 ela16
    show tSeq _ _ _ [some (V.ref e), some (.str "NoOwner"), some (.ref lb1), some (.ref lb16)] (upd (upd H10 la16 (.lst (((tldL.take 24).drop 21).map V.bl))) lb16 (.lst ((tldL.take 24).map V.bl)))
    generalize upd (upd H10 la16 (.lst (((tldL.take 24).drop 21).map V.bl))) lb16 (.lst ((tldL.take 24).map V.bl)) = H11 at *
    have c11 : Same H H11 := c10.trans tlb16
    have n11 := tlb16 _ _ n10
    refine ⟨_, rfl, _, rfl, e, CN, _, _, false, rfl, .inl ⟨_, rfl, rfl⟩, OT.xc, (c11 _ _ he), kTooBig, _, rfl, e, CN, _, _, false, rfl, .inl ⟨_, rfl, rfl⟩, OT.xc, (c11 _ _ he), kTooMany, by decide, fun la17 hla17 => ?_⟩
    have sla17 : Same H11 (upd H11 la17 (.lst (((tldL.take 26).drop 24).map V.bl))) := same_new hla17
    have ela17 : upd H11 la17 (.lst (((tldL.take 26).drop 24).map V.bl)) la17 = some (.lst (((tldL.take 26).drop 24).map V.bl)) := upd_same
    have ola17 := sla17 _ _ elb16
    refine ⟨lb16, la17, _, _, rfl, rfl, ola17, ela17, by decide, fun lb17 hlb17 => ?_⟩
    have slb17 : Same (upd H11 la17 (.lst (((tldL.take 26).drop 24).map V.bl))) (upd (upd H11 la17 (.lst (((tldL.take 26).drop 24).map V.bl))) lb17 (.lst ((tldL.take 26).map V.bl))) := same_new hlb17
    have elb17 : upd (upd H11 la17 (.lst (((tldL.take 26).drop 24).map V.bl))) lb17 (.lst ((tldL.take 26).map V.bl)) lb17 = some (.lst ((tldL.take 26).map V.bl)) := upd_same
    have tlb17 : Same H11 (upd (upd H11 la17 (.lst (((tldL.take 26).drop 24).map V.bl))) lb17 (.lst ((tldL.take 26).map V.bl))) := sla17.trans slb17
    clear sla17 slb17 ola17 ela17
    show tSeq _ _ _ [some (V.ref e), some (.str "NoOwner"), some (.ref lb1), some (.ref lb17)] (upd (upd H11 la17 (.lst (((tldL.take 26).drop 24).map V.bl))) lb17 (.lst ((tldL.take 26).map V.bl)))
    generalize upd (upd H11 la17 (.lst (((tldL.take 26).drop 24).map V.bl))) lb17 (.lst ((tldL.take 26).map V.bl)) = H12 at *
    have c12 : Same H H12 := c11.trans tlb17
    have n12 := tlb17 _ _ n11
    -- the two above
    refine ⟨_, rfl, e, CN, _, _, true, rfl, .inl ⟨_, rfl, rfl⟩, OT.xc, c12 _ _ he, kKernelError, true, rfl, iteF ?_⟩
    refine ⟨_, rfl, e, CN, _, _, true, rfl, .inr ⟨_, rfl, rfl⟩, OT.xc, c12 _ _ he, OT.kv, true, rfl, ?_⟩
    refine iteF ?_
    -- the one that is told
    refine ⟨_, rfl, lb1, _, rfl, .inl (SqL.of n12), 26, rfl, by decide, by decide, comp_range (n := 26) (fun i ys H2 => ys = nmT i ∧ H2 = H12) ⟨rfl, rfl⟩ ?_ ?_⟩
    · rintro i ys H2 hi ⟨rfl, rfl⟩
      rw [Int.zero_add]
      have a1 : ((tldL.take 26).map V.bl)[i]? = some (.bl (tldL.getD i false)) := by
        have := List.getElem?_eq_getElem (l := tldL) (i := i) hi
        show (tldL.map V.bl)[i]? = _
        rw [List.getElem?_map, this]
        simp [List.getD, this]
      have a2 : ((nmsL.take 26).map V.str)[i]? = some (.str (nmsL.getD i "")) := by
        have := List.getElem?_eq_getElem (l := nmsL) (i := i) hi
        show (nmsL.map V.str)[i]? = _
        rw [List.getElem?_map, this]
        simp [List.getD, this]
      refine ⟨_, rfl, _, rfl, lb17, _, i, _, rfl, rfl, SqL.of elb17, atI_nat a1, _, rfl, ?_⟩
      have st : nmT (i + 1) = nmT i ++ if tldL.getD i false = true then [V.str (nmsL.getD i "")] else [] := by
        unfold nmT
        rw [List.range_succ, List.filter_append, List.map_append]
        by_cases h : tldL.getD i false = true
        · rw [if_pos h]; simp only [List.filter_cons, h, if_true, List.filter_nil, List.map_cons, List.map_nil]
        · rw [if_neg h]; simp only [List.filter_cons, h, if_false, List.filter_nil, List.map_nil]; rfl
      refine ite2 (fun c => ?_) (fun c => ?_)
      · refine ⟨_, rfl, _, rfl, lb1, _, i, _, rfl, rfl, SqL.of n12, atI_nat a2, ?_, ?_, rfl⟩
        · unfold nmT
          rw [List.length_map]
          have := List.length_filter_le (fun i => tldL.getD i false) (List.range i)
          rw [List.length_range] at this
          omega
        · rw [st, if_pos c]
      · refine ⟨?_, rfl⟩
        rw [st, if_neg c, List.append_nil]
    · rintro ys H2 ⟨rfl, rfl⟩ lc hlc
      have e26 : nmT 26 = [V.str "NoOwner"] := by decide +kernel
      rw [e26]
      refine ⟨_, rfl, by decide, fun ld hld => ?_⟩
      have sc := same_new (X := .lst [V.str "NoOwner"]) hlc
      have sd := same_new (X := .lst [V.str "NoOwner"]) hld
      refine ⟨lc, ld, _, _, rfl, rfl, SqL.of (sd _ _ upd_same), SqL.of upd_same, rfl, rfl, ?_⟩
      exact k _ ((c12.trans sc).trans sd)
end
end St

namespace St
open PySem L2
theorem StoreAt.off {C : Addr} {H H' : Hp} {B M : Addr → Prop} {p ow co : Addr} {os : List Int} {pg : List (Option (List Int))} (S : StoreAt C H M p ow co os pg) (h : Off B H H') (hB : ∀ b, B b → M b) (np : ¬ B p) (nw : ¬ B ow) (nc : ¬ B co) : StoreAt C H' M p ow co os pg := by
  obtain ⟨⟨dx, h1⟩, hw, cs, hc, hp⟩ := S
  exact ⟨⟨dx, h p _ h1 np⟩, h ow _ hw nw, cs, h co _ hc nc, cells_off h hB hp⟩
theorem StoreAt.same {C : Addr} {H H' : Hp} {M : Addr → Prop} {p ow co : Addr} {os : List Int} {pg : List (Option (List Int))} (S : StoreAt C H M p ow co os pg) (h : Same H H') : StoreAt C H' M p ow co os pg :=
  S.off (B := fun _ => False) (fun b u e _ => h b u e) (fun _ z => z.elim) (fun z => z) (fun z => z) (fun z => z)
def cv (v : Int) : List Int := [v, 255 - v, 0, v / 2, 1, 2, 255, v]
/-- what a deed of 1 to 4 wants -/
structure Ready (C : Addr) (H : Hp) (M : Addr → Prop) (p ow co : Addr) (os : List Int) (pg : List (Option (List Int))) (wh n : Int) : Prop where
  S : StoreAt C H M p ow co os pg
  mw : M ow
  mc : M co
  mt : ∀ b, M b → H b ≠ none
  ne : ow ≠ co
  lp : os.length = pg.length
  l : os.length ≤ 60
  nb : n.natAbs.log2 < 1920
  w1 : 1 ≤ wh
  w4 : wh ≤ 4
def spDone (C CN : Addr) : Sp := fun vs H Q E => ∃ (p ow co : Addr) (M : Addr → Prop) (os : List Int) (pg : List (Option (List Int))) (wh n v : Int), vs = [.ref p, .int wh, .int n, .int v] ∧ Ready C H M p ow co os pg wh n ∧
  (cntOf os n ≠ 0 → (wh = 1 → ∀ H', StoreAt C H' M p ow co (os.set n.toNat (cntOf os n + 1)) pg → Off (fun b => b = ow ∨ b = co) H H' → Q .non H') ∧ (wh = 2 → ∀ H', StoreAt C H' M p ow co (os.set n.toNat (cntOf os n - 1)) pg → Off (fun b => b = ow ∨ b = co) H H' → Q .non H') ∧
    (wh = 3 → ∀ H', StoreAt C H' M p ow co os (pg.set n.toNat (some (cv v))) → Off (fun b => b = ow ∨ b = co) H H' → Q .non H') ∧ (wh = 4 → ∃ ns, pg[n.toNat]? = some (some ns) ∧ ∀ l, H l = none → Q (.ref l) (upd H l (.lst (ns.map V.int))))) ∧
  (cntOf os n = 0 → ∀ H', Same H H' → E (.ref CN) none H')
def spRefused (C CN : Addr) : Sp := fun vs H Q E => ∃ (p ow co : Addr) (M : Addr → Prop) (os : List Int) (pg : List (Option (List Int))) (wh n v : Int), vs = [.ref p, .int wh, .int n, .int v] ∧ Ready C H M p ow co os pg wh n ∧ cntOf os n = 0 ∧ ∀ H', Same H H' → Q (.bl true) H'
section
variable {P : Program} {w : World} {K : PySem.W.Frag} {mg : Str → Option Value} {base : Heap}
theorem same_off {H0 H H' : Hp} {B : Addr → Prop} (s : Same H0 H) (o : Off B H H') : Off B H0 H' := fun b u e hb => o b u (s b u e) hb
theorem scDo : FnScope ["_law_store", "_law_what", "_law_page", "_law_value"] ["_law_store", "_law_what", "_law_page", "_law_value"] (defScope sDone) := ⟨rfl, rfl, rfl, by decide +kernel, rfl, by decide +kernel, by decide +kernel⟩
theorem ok_done {f C CN fMo fL fP fE : Addr} {fd dMo dL dP dE : FuncData} (F : Fun K "_law_done" "_law_done" sDone f fd) (T : LTxt mg) (TC : Txt K mg C)
    (GMo : FnOk P w K mg base (CXO P w) 3 fMo dMo ["self", "n"] (spMore C CN)) (bMo : Binds K dMo ["self", "n"] []) (mMo : Meth K C "more" fMo)
    (GL : FnOk P w K mg base (CXO P w) 3 fL dL ["self", "n"] (spLess C CN)) (bL : Binds K dL ["self", "n"] []) (mL : Meth K C "less" fL)
    (GP : FnOk P w K mg base (CXO P w) 3 fP dP ["self", "n", "cells"] (spPut K C CN)) (bP : Binds K dP ["self", "n", "cells"] []) (mP : Meth K C "put" fP)
    (GE : FnOk P w K mg base (CXO P w) 3 fE dE ["self", "n"] (spCells C CN)) (bE : Binds K dE ["self", "n"] []) (mE : Meth K C "cells" fE) : FnOk P w K mg base (CXO P w) 4 f fd ["_law_store", "_law_what", "_law_page", "_law_value"] (spDone C CN) := by
  refine F.okx scDo (fun vs H Q E h => ?_) (fun cdv A outer s H vs Q E hr h => ?_)
  · obtain ⟨p, ow, co, M, os, pg, wh, n, v, rfl, _⟩ := h
    rfl
  · obtain ⟨p, ow, co, M, os, pg, wh, n, v, rfl, R, k, kE⟩ := h
    obtain ⟨S, mw, mc, mt, hne, hlp, hl, hb, w1, w4⟩ := R
    obtain ⟨⟨dx, h1⟩, hw, _⟩ := id S
    refine ⟨_, (pssx_cons (psx_if (pt_cmpR op_eq (pv 1) pe_int (nomark _)) (pssx_one (psx_ret (pex_meth (pv 0) TC.cl mMo GMo (hr.mono (by decide)) rfl bMo .nil (pa_cons (pv 2) pa_nil)))) pssx_nil)
      (pssx_cons (psx_if (pt_cmpR op_eq (pv 1) pe_int (nomark _)) (pssx_one (psx_ret (pex_meth (pv 0) TC.cl mL GL (hr.mono (by decide)) rfl bL .nil (pa_cons (pv 2) pa_nil)))) pssx_nil)
      (pssx_cons (psx_if (pt_cmpR op_eq (pv 1) pe_int (nomark _)) (pssx_one (psx_ret (pex_meth (pv 0) TC.cl mP GP (hr.mono (by decide)) rfl bP .nil (pa_cons (pv 2) (pa_cons (pe_lst (pa_cons (pv 3) (pa_cons (pe_op op_sub pe_int (pv 3)) (pa_cons pe_int (pa_cons (pe_op op_fdiv (pv 3) pe_int) (pa_cons pe_int (pa_cons pe_int (pa_cons pe_int (pa_cons (pv 3) pa_nil))))))))) pa_nil))))) pssx_nil)
      (pssx_one (psx_ret (pex_meth (pv 0) TC.cl mE GE (hr.mono (by decide)) rfl bE .nil (pa_cons (pv 2) pa_nil))))))), ?_⟩
    refine ⟨_, rfl, rfl, _, rfl, ?_⟩
    refine ite2 (fun c => ?_) (fun c => ?_)
    · have c' : wh = 1 := by simpa using c
      exact ⟨_, rfl, p, dx, _, rfl, h1, flds_no _ _ (by decide +kernel) (by decide +kernel), _, rfl, p, ow, co, M, os, pg, n, rfl, S, mw, mc, hne, hl, hb, fun hc => (k hc).1 c', fun hc => kE hc H (Same.refl H)⟩
    refine ⟨_, rfl, rfl, _, rfl, ?_⟩
    refine ite2 (fun c2 => ?_) (fun c2 => ?_)
    · have c' : wh = 2 := by simpa using c2
      exact ⟨_, rfl, p, dx, _, rfl, h1, flds_no _ _ (by decide +kernel) (by decide +kernel), _, rfl, p, ow, co, M, os, pg, n, rfl, S, mw, mc, hne, hl, hb, fun hc => (k hc).2.1 c', fun hc => kE hc H (Same.refl H)⟩
    refine ⟨_, rfl, rfl, _, rfl, ?_⟩
    refine ite2 (fun c3 => ?_) (fun c3 => ?_)
    · have c' : wh = 3 := by simpa using c3
      refine ⟨_, rfl, p, dx, _, rfl, h1, flds_no _ _ (by decide +kernel) (by decide +kernel), _, rfl, _, rfl, _, rfl, _, _, rfl, rfl, _, rfl, _, _, rfl, rfl, ⟨by decide, by decide⟩, _, rfl, (by show 8 ≤ sizeLine; decide), fun l hlf => ?_⟩
      have sl := same_new (X := .lst ((cv v).map V.int)) hlf
      refine ⟨p, ow, co, l, M, os, pg, n, cv v, rfl, S.same sl, mw, mc, fun b mb => ?_, hne, hlp, hl, hb, SqL.of upd_same, fun hc H' S' o' => (k hc).2.2.1 c' H' S' (same_off sl o'), fun hc => kE hc _ sl⟩
      by_cases z : b = l
      · rw [z, upd_same]; simp
      · rw [upd_ne z]; exact mt b mb
    · have c' : wh = 4 := by
        have z1 : ¬ wh = 1 := by simpa using c
        have z2 : ¬ wh = 2 := by simpa using c2
        have z3 : ¬ wh = 3 := by simpa using c3
        omega
      exact ⟨_, rfl, p, dx, _, rfl, h1, flds_no _ _ (by decide +kernel) (by decide +kernel), _, rfl, p, ow, co, M, os, pg, n, rfl, S, hl, hb, fun hc => (k hc).2.2.2 c', fun hc => kE hc H (Same.refl H)⟩
theorem scRf : FnScope ["_law_store", "_law_what", "_law_page", "_law_value", "_law_caught", "refused"] ["_law_store", "_law_what", "_law_page", "_law_value"] (defScope sRefused) := ⟨rfl, rfl, rfl, by decide +kernel, rfl, by decide +kernel, by decide +kernel⟩
theorem ok_refused {f C CN D fD fO : Addr} {fd dD dO : FuncData} (F : Fun K "_law_refused" "_law_refused" sRefused f fd) (T : LTxt mg) (hKE : mg "KernelError" = some (.ref D)) (hx : PySem.W.exmOne K (.ref CN) (.ref D) = some true)
    (GD : FnOk P w K mg base (CXO P w) 4 fD dD ["_law_store", "_law_what", "_law_page", "_law_value"] (spDone C CN)) (DD : Def K mg "_law_done" fD dD ["_law_store", "_law_what", "_law_page", "_law_value"])
    (GO : FnOk P w K mg base CX0 1 fO dO ["_law_caught", "_law_due"] (spOnly CN)) (DO : Def K mg "_law_only" fO dO ["_law_caught", "_law_due"]) : FnOk P w K mg base CX0 5 f fd ["_law_store", "_law_what", "_law_page", "_law_value"] (spRefused C CN) := by
  refine F.ok scRf (fun vs H Q E h => ?_) (fun cdv A outer s H vs Q E hr h => ?_)
  · obtain ⟨p, ow, co, M, os, pg, wh, n, v, rfl, _⟩ := h
    rfl
  · obtain ⟨p, ow, co, M, os, pg, wh, n, v, rfl, R, hc, k⟩ := h
    refine ⟨_, (pss_cons (ps_set (i := 4) scRf.nd rfl (Or.inl rfl) pe_non)
      (pss_cons (ps_try rfl rfl rfl rfl hKE scRf.nd (i := 5) rfl rfl (pssx_one (psx_expr (pex_call GD (hr.mono (by decide)) rfl (by rfl) DD.mg DD.kp DD.b .nil (pa_cons (pv 0) (pa_cons (pv 1) (pa_cons (pv 2) (pa_cons (pv 3) pa_nil))))))) (fun _ => (pss_one (ps_set (i := 4) scRf.nd rfl (Or.inl rfl) (pv 5)))))
      (pss_one (ps_ret (pe_call GO (hr.mono (by decide)) (by rfl) DO.mg DO.kp DO.b .nil pass0 (pa_cons (pv 4) (pa_cons pe_str pa_nil))))))), ?_⟩
    refine ⟨_, rfl, _, rfl, _, rfl, _, rfl, p, ow, co, M, os, pg, wh, n, v, rfl, R, fun z => absurd hc z, fun _ H' sH => ⟨hx, fun e he => ?_⟩⟩
    refine ⟨_, rfl, _, rfl, e, rfl, upd_same, fun H'' s'' => ?_⟩
    exact k _ ((sH.trans (same_new he)).trans s'')
end
end St

namespace St
open PySem L2
def MM (ow co cl ct : Addr) : Addr → Prop := fun b => b = ow ∨ b = co ∨ b = cl ∨ b = ct
def ContAt (H : Hp) (M : Addr → Prop) (v : V) (ns : List Int) : Prop := ∃ a, v = .ref a ∧ ¬ M a ∧ H a = some (.lst (ns.map V.int))
theorem ContAt.off {B M : Addr → Prop} {H H' : Hp} (h : Off B H H') (hB : ∀ b, B b → M b) {v : V} {ns : List Int} (c : ContAt H M v ns) : ContAt H' M v ns := by
  obtain ⟨a, e, na, ha⟩ := c
  exact ⟨a, e, na, h a _ ha fun z => na (hB a z)⟩
/-- the store and the law's own counts and cells agree -/
structure LawAt (C : Addr) (H : Hp) (p ow co cl ct : Addr) (os : List Int) (pg : List (Option (List Int))) (cs : List (List Int)) : Prop where
  S : StoreAt C H (MM ow co cl ct) p ow co os pg
  hcl : H cl = some (.lst (os.map V.int))
  hct : ∃ rs, H ct = some (.lst rs) ∧ Paired (ContAt H (MM ow co cl ct)) rs cs
  n1 : ow ≠ co
  n2 : ow ≠ cl
  n3 : ow ≠ ct
  n4 : co ≠ cl
  n5 : co ≠ ct
  n6 : cl ≠ ct
  l1 : os.length = pg.length
  l2 : os.length = cs.length
  l3 : os.length ≤ 60
  nn : ∀ x ∈ os, 0 ≤ x
  eq : ∀ i ns, 0 < os.getD i 0 → cs[i]? = some ns → pg[i]? = some (some ns)
theorem MM.low {ow co cl ct b : Addr} (h : b = ow ∨ b = co) : MM ow co cl ct b := h.elim .inl fun z => .inr (.inl z)
theorem LawAt.tr {C : Addr} {H : Hp} {p ow co cl ct : Addr} {os : List Int} {pg : List (Option (List Int))} {cs : List (List Int)} (L : LawAt C H p ow co cl ct os pg cs) : ∀ b, MM ow co cl ct b → H b ≠ none := by
  obtain ⟨rs, h4, _⟩ := L.hct
  obtain ⟨_, h1, c2, h2, _⟩ := L.S
  rintro b (rfl | rfl | rfl | rfl)
  · rw [h1]; simp
  · rw [h2]; simp
  · rw [L.hcl]; simp
  · rw [h4]; simp
/-- all is kept but new things -/
theorem LawAt.same {C : Addr} {H H' : Hp} {p ow co cl ct : Addr} {os : List Int} {pg : List (Option (List Int))} {cs : List (List Int)} (L : LawAt C H p ow co cl ct os pg cs) (s : Same H H') : LawAt C H' p ow co cl ct os pg cs := by
  obtain ⟨rs, h4, hp⟩ := L.hct
  exact ⟨L.S.same s, s _ _ L.hcl, ⟨rs, s _ _ h4, Paired.mapP hp fun _ _ c => c.off (B := fun _ => False) (fun b u e _ => s b u e) fun _ z => z.elim⟩, L.n1, L.n2, L.n3, L.n4, L.n5, L.n6, L.l1, L.l2, L.l3, L.nn, L.eq⟩
theorem LawAt.ready {C : Addr} {H : Hp} {p ow co cl ct : Addr} {os : List Int} {pg : List (Option (List Int))} {cs : List (List Int)} (L : LawAt C H p ow co cl ct os pg cs) {wh n : Int} (nb : n.natAbs.log2 < 1920) (w1 : 1 ≤ wh) (w4 : wh ≤ 4) :
    Ready C H (MM ow co cl ct) p ow co os pg wh n := ⟨L.S, .inl rfl, .inr (.inl rfl), L.tr, L.n1, L.l1, L.l3, nb, w1, w4⟩
theorem getD_set {os : List Int} {p j : Nat} {x : Int} (h : p < os.length) : (os.set p x).getD j 0 = if j = p then x else os.getD j 0 := by
  by_cases e : j = p
  · subst e
    simp [h]
  · rw [if_neg e]
    simp [Ne.symm e]
theorem mem_getD {os : List Int} {i : Nat} (h : i < os.length) : os.getD i 0 ∈ os := by
  rw [List.getD_eq_getElem?_getD, List.getElem?_eq_getElem h]
  exact List.getElem_mem h
/-- 0 comes first at j -/
theorem first0 {os : List Int} {j : Nat} (h : j < os.length) (hp : ∀ i, i < j → 0 < os.getD i 0) (h0 : os.getD j 0 = 0) : (0 : Int) ∈ os ∧ os.idxOf 0 = j := by
  have hm : (0 : Int) ∈ os := by rw [← h0]; exact mem_getD h
  refine ⟨hm, ?_⟩
  have hlt : os.idxOf 0 < os.length := List.idxOf_lt_length_iff.mpr hm
  have e0 : os.getD (os.idxOf 0) 0 = 0 := by
    rw [List.getD_eq_getElem?_getD, List.getElem?_eq_getElem hlt]
    exact List.getElem_idxOf hlt
  by_cases c : os.idxOf 0 < j
  · have := hp _ c
    omega
  · by_cases d : j < os.idxOf 0
    · exfalso
      have ne := PyProof.Rows.ne_of_lt_idxOf (k := 0) (ns := os) d h
      rw [List.getD_eq_getElem?_getD, List.getElem?_eq_getElem h] at h0
      simp at h0
      simp [h0] at ne
    · omega
section
variable {P : Program} {w : World} {K : PySem.W.Frag} {mg : Str → Option Value} {base : Heap}
end
def spTakenDown (C : Addr) : Sp := fun vs H Q _ => ∃ (p ow co cl ct : Addr) (os : List Int) (pg : List (Option (List Int))) (cs : List (List Int)), vs = [.ref p, .ref cl, .ref ct] ∧ LawAt C H p ow co cl ct os pg cs ∧
  ∀ H' os' pg' cs', os'.length = os.length → LawAt C H' p ow co cl ct os' pg' cs' → Off (MM ow co cl ct) H H' → Q (.bl true) H'
def TW (p cl ct : Addr) (os : List Int) (H : Hp) (m : Nat) (σ : St) (H2 : Hp) : Prop := ∃ j : Nat, σ = [some (.ref p), some (.ref cl), some (.ref ct), some (.int j)] ∧ m = os.length - j ∧ j ≤ os.length ∧ (∀ i, i < j → 0 < os.getD i 0) ∧ H2 = H
section
variable {P : Program} {w : World} {K : PySem.W.Frag} {mg : Str → Option Value} {base : Heap}
theorem scTd : FnScope ["_law_store", "_law_counts", "_law_contents", "_law_page"] ["_law_store", "_law_counts", "_law_contents"] (defScope sTakenDown) := ⟨rfl, rfl, rfl, by decide +kernel, rfl, by decide +kernel, by decide +kernel⟩
set_option maxHeartbeats 4000000 in
theorem ok_takenDown {f C fT fI : Addr} {fd dT dI : FuncData} (F : Fun K "_law_taken_down" "_law_taken_down" sTakenDown f fd) (T : LTxt mg) (TC : Txt K mg C)
    (GT : FnOk P w K mg base CX0 1 fT dT ["self"] (spTake C)) (bT : Binds K dT ["self"] []) (mT : Meth K C "take" fT)
    (GI : FnOk P w K mg base CX0 2 fI dI ["_law_found", "_law_due"] spIs) (DI : Def K mg "_law_is" fI dI ["_law_found", "_law_due"]) : FnOk P w K mg base CX0 3 f fd ["_law_store", "_law_counts", "_law_contents"] (spTakenDown C) := by
  refine F.ok scTd (fun vs H Q E h => ?_) (fun cdv A outer s H vs Q E hr h => ?_)
  · obtain ⟨p, ow, co, cl, ct, os, pg, cs, rfl, _⟩ := h
    rfl
  · obtain ⟨p, ow, co, cl, ct, os, pg, cs, rfl, L, k⟩ := h
    obtain ⟨⟨dx, h1⟩, hw, c2, hc2, hp2⟩ := id L.S
    obtain ⟨rs, hrs, hpr⟩ := id L.hct
    have hl3 := L.l3
    refine ⟨_, (pss_cons (ps_set (i := 3) scTd.nd rfl (Or.inl rfl) pe_int)
      (pss_cons (ps_while PassesOwn.never (PW.pt (pw_and (pt_cmpR op_lt (pv 3) (pe_callB call_len_seq (by rfl) T.len PySem.boot_len (pa_cons (pv 1) pa_nil)) (nomark _)) (pw_and1 (pt_cmpR op_gt (pe_ix ix_list (pv 1) (pv 3) (fun _ _ => rfl)) pe_int (nomark _))))) (pss_one (ps_aug (i := 3) scTd.nd rfl (Or.inl rfl) pe_int ip_add)))
      (pss_cons (ps_if (pt_cmpR op_eq (pv 3) (pe_callB call_len_seq (by rfl) T.len PySem.boot_len (pa_cons (pv 1) pa_nil)) (nomark _)) (pss_one (ps_ret (pe_cmpR op_isN (pe_meth0 (pv 0) TC.cl mT GT (hr.mono (by decide)) bT .nil pass0) pe_non (nomark _)))) pss_nil)
      (pss_cons (ps_asg pe_int (pg_sub (pv 1) (pv 3) set_list))
      (pss_cons (ps_asg (pe_lst (pa_cons pe_int (pa_cons pe_int (pa_cons pe_int (pa_cons pe_int (pa_cons pe_int (pa_cons pe_int (pa_cons pe_int (pa_cons pe_int pa_nil))))))))) (pg_sub (pv 2) (pv 3) set_list))
      (pss_one (ps_ret (pe_call GI (hr.mono (by decide)) (by rfl) DI.mg DI.kp DI.b .nil pass0 (pa_cons (pe_meth0 (pv 0) TC.cl mT GT (hr.mono (by decide)) bT .nil pass0) (pa_cons (pv 3) pa_nil)))))))))), ?_⟩
    refine ⟨TW p cl ct os H, ⟨_, 0, rfl, rfl, Nat.zero_le _, fun i hi => absurd hi (by omega), rfl⟩, ?_⟩
    rintro m σ H2 ⟨j, rfl, rfl, hj, hpos, rfl⟩
    refine ⟨_, rfl, _, rfl, cl, _, rfl, .inl (SqL.of L.hcl), _, _, rfl, rfl, _, rfl, ?_⟩
    rw [List.length_map]
    refine ite2 (fun c => ?_) (fun c => ?_)
    · have c' : j < os.length := by
        have z : (j : Int) < os.length := by simpa using c
        omega
      have aj : (os.map V.int)[j]? = some (.int (os.getD j 0)) := by
        rw [List.getElem?_map, List.getElem?_eq_getElem c']
        simp [c']
      refine ⟨_, rfl, _, rfl, cl, _, j, .int (os.getD j 0), rfl, rfl, SqL.of L.hcl, atI_nat aj, _, _, rfl, rfl, _, rfl, ?_⟩
      refine ite2 (fun d => ?_) (fun d => ?_)
      · have d' : 0 < os.getD j 0 := of_decide_eq_true d
        refine ⟨fun σ' H' => ∃ m', m' < os.length - j ∧ TW p cl ct os H2 m' σ' H', fun σ' H' h => h, ?_⟩
        refine ⟨_, rfl, _, _, rfl, rfl, os.length - (j + 1), by omega, j + 1, rfl, rfl, by omega, fun i hi => ?_, rfl⟩
        by_cases e : i = j
        · rw [e]; exact d'
        · exact hpos i (by omega)
      · -- the first free page
        have d' : ¬ 0 < os.getD j 0 := fun z => d (decide_eq_true z)
        have z0 : os.getD j 0 = 0 := by
          have := L.nn _ (mem_getD c')
          omega
        obtain ⟨m0, i0⟩ := first0 c' hpos z0
        refine ⟨_, rfl, _, rfl, cl, _, rfl, .inl (SqL.of L.hcl), rfl, _, rfl, ?_⟩
        have nej : decide (V.int (j : Int) = V.int ((os.map V.int).length : Nat)) = false := decide_eq_false fun z => by
          rw [List.length_map] at z
          injection z with z
          omega
        rw [nej]
        refine iteF ?_
        refine ⟨_, rfl, _, rfl, cl, _, j, j, rfl, rfl, L.hcl, ?_, ?_⟩
        · unfold ixN
          rw [List.length_map, if_pos (by omega), if_pos (by omega)]
          simp
        -- counts stand
        have nC : ∀ {b : Addr} {o : HO}, b ≠ cl → H2 b = some o → upd H2 cl (.lst ((os.map V.int).set j (.int 1))) b = some o := fun hb e => by rw [upd_ne hb]; exact e
        refine ⟨by decide, fun l hl => ?_⟩
        have lcl : l ≠ cl := fun z => by rw [z, upd_same] at hl; cases hl
        rw [upd_ne lcl] at hl
        have lrs := paired_len hpr
        refine ⟨_, rfl, _, rfl, ct, rs, j, j, rfl, rfl, by rw [upd_ne (ne_of_none hrs hl), upd_ne (Ne.symm L.n6)]; exact hrs, ?_, ?_⟩
        · unfold ixN
          have := L.l2
          rw [if_pos (by omega), if_pos (by omega)]
          simp
        generalize hH3 : upd (upd (upd H2 cl (.lst ((os.map V.int).set j (.int 1)))) l (.lst [V.int 0, V.int 0, V.int 0, V.int 0, V.int 0, V.int 0, V.int 0, V.int 0])) ct (.lst (rs.set j (.ref l))) = H3
        have o3 : Off (fun b => b = cl ∨ b = ct) H2 H3 := fun b u e hb => by
          rw [← hH3, upd_ne (fun z => hb (.inr z)), upd_ne (ne_of_none e hl), upd_ne (fun z => hb (.inl z))]
          exact e
        have nM : ¬ MM ow co cl ct l := fun z => L.tr l z hl
        have hi : ∀ b, (b = cl ∨ b = ct) → MM ow co cl ct b := fun b z => z.elim (fun z => .inr (.inr (.inl z))) fun z => .inr (.inr (.inr z))
        have S3 : StoreAt C H3 (MM ow co cl ct) p ow co os pg := L.S.off o3 hi (fun z => z.elim (ins_lst h1 L.hcl) (ins_lst h1 hrs)) (fun z => z.elim L.n2 L.n3) (fun z => z.elim L.n4 L.n5)
        have e3 : H3 cl = some (.lst ((os.set j 1).map V.int)) := by rw [← hH3, upd_ne L.n6, upd_ne (Ne.symm lcl), upd_same, List.map_set]
        have f3 : H3 ct = some (.lst (rs.set j (.ref l))) := by rw [← hH3, upd_same]
        have lct : l ≠ ct := fun z => ne_of_none hrs hl z.symm
        have g3 : H3 l = some (.lst ((List.replicate 8 (0 : Int)).map V.int)) := by rw [← hH3, upd_ne lct, upd_same]; rfl
        have p3 : Paired (ContAt H3 (MM ow co cl ct)) (rs.set j (.ref l)) (cs.set j (List.replicate 8 0)) := paired_set ⟨l, rfl, nM, g3⟩ j (Paired.mapP hpr fun _ _ c => c.off o3 hi)
        have t3 : ∀ b, MM ow co cl ct b → H3 b ≠ none := by
          obtain ⟨_, w3, c3, v3, _⟩ := S3
          rintro b (rfl | rfl | rfl | rfl)
          · rw [w3]; simp
          · rw [v3]; simp
          · rw [e3]; simp
          · rw [f3]; simp
        obtain ⟨⟨dx3, h31⟩, _⟩ := id S3
        refine ⟨_, rfl, p, dx3, _, rfl, h31, flds_no _ _ (by decide +kernel) (by decide +kernel), p, ow, co, _, os, pg, rfl, S3, .inl rfl, .inr (.inl rfl), t3, L.n1, L.l1, L.l3, fun z => absurd m0 z, fun _ H' S' o' => ?_⟩
        rw [i0] at S' ⊢
        refine ⟨_, rfl, j, j, rfl, ?_⟩
        rw [decide_eq_true rfl]
        refine k H' (os.set j 1) (pg.set j (some (List.replicate 8 0))) (cs.set j (List.replicate 8 0)) (by rw [List.length_set]) ?_ fun b u e hb => o' b u (o3 b u e fun z => hb (hi b z)) fun z => hb (MM.low z)
        refine ⟨S', o' _ _ e3 (fun z => z.elim (Ne.symm L.n2) (Ne.symm L.n4)), ⟨_, o' _ _ f3 (fun z => z.elim (Ne.symm L.n3) (Ne.symm L.n5)), Paired.mapP p3 fun _ _ c => c.off o' fun b z => MM.low z⟩, L.n1, L.n2, L.n3, L.n4, L.n5, L.n6, ?_, ?_, ?_, ?_, ?_⟩
        · rw [List.length_set, List.length_set]; exact L.l1
        · rw [List.length_set, List.length_set]; exact L.l2
        · rw [List.length_set]; exact L.l3
        · intro x hx
          rcases List.mem_or_eq_of_mem_set hx with z | z
          · exact L.nn x z
          · omega
        · intro i ns hi' hn
          rw [getD_set c'] at hi'
          by_cases e : i = j
          · subst e
            have hcl : i < cs.length := by have := L.l2; omega
            rw [List.getElem?_set_self hcl] at hn
            cases hn
            exact List.getElem?_set_self (by have := L.l1; omega)
          · rw [if_neg e] at hi'
            rw [List.getElem?_set_ne (Ne.symm e)] at hn ⊢
            exact L.eq i ns hi' hn
    · refine iteF ?_
      have ej : j = os.length := by
        have z : ¬ (j : Int) < os.length := by simpa using c
        omega
      have no : ¬ (0 : Int) ∈ os := fun hm => by
        have hlt : os.idxOf 0 < os.length := List.idxOf_lt_length_iff.mpr hm
        have := hpos (os.idxOf 0) (by omega)
        have e0 : os.getD (os.idxOf 0) 0 = 0 := by
          rw [List.getD_eq_getElem?_getD, List.getElem?_eq_getElem hlt]
          exact List.getElem_idxOf hlt
        omega
      refine ⟨_, rfl, _, rfl, cl, _, rfl, .inl (SqL.of L.hcl), rfl, _, rfl, ?_⟩
      rw [List.length_map, ej, decide_eq_true rfl]
      refine iteT ?_
      refine ⟨_, rfl, p, dx, _, rfl, h1, flds_no _ _ (by decide +kernel) (by decide +kernel), p, ow, co, _, os, pg, rfl, L.S, .inl rfl, .inr (.inl rfl), L.tr, L.n1, L.l1, L.l3, fun _ => ?_, fun z => absurd z no⟩
      exact ⟨rfl, k _ os pg cs rfl L fun b u e _ => e⟩
end
end St

namespace L2
open PySem
theorem pe_imp {X : Cx} {e : Expr} {t t' : TE} (h : PE X e t) (hi : ∀ σ H Q, t' σ H Q → t σ H Q) : PE X e t' := fun pins s σ H Q I q => h pins s σ H Q I (hi _ _ _ q)
end L2
namespace St
open PySem L2
def tThere (i j : Nat) : TE := fun σ H Q => ∃ (cl : Addr) (os : List Int) (n : Int), σ[i]? = some (some (.ref cl)) ∧ σ[j]? = some (some (.int n)) ∧ H cl = some (.lst (os.map V.int)) ∧ (∀ x ∈ os, 0 ≤ x) ∧ Q (.bl (decide (cntOf os n ≠ 0))) H
theorem there_imp {K : PySem.W.Frag} {i j : Nat} : ∀ (σ : St) (H : Hp) (Q : VK), tThere i j σ H Q →
    tAndV (tChain (rI0 fun i j => .bl (decide (i ≤ j))) (rI0 fun i j => .bl (decide (i < j))) (tC (.int 0)) (tVar j) (tCB (fun xs H Q => ∃ p ys, xs = [.ref p] ∧ (SqL K H p ys ∨ SqT K H p ys) ∧ Q (.int ys.length) H) (tCons (tVar i) tNil)))
      (tOp (rI0 fun i j => .bl (decide (j < i))) (tOp (rIxL K) (tVar i) (tVar j)) (tC (.int 0))) σ H Q := by
  rintro σ H Q ⟨cl, os, n, e1, e2, hc, nn, q⟩
  refine ⟨_, e2, 0, n, rfl, rfl, _, rfl, ?_⟩
  refine ite2 (fun c => ?_) (fun c => ?_)
  · have c' : 0 ≤ n := of_decide_eq_true c
    refine ⟨_, e1, cl, _, rfl, .inl (SqL.of hc), n, _, rfl, rfl, _, rfl, ?_⟩
    rw [List.length_map]
    refine ite2 (fun d => ?_) (fun d => ?_)
    · have d' : n < os.length := of_decide_eq_true d
      obtain ⟨m, rfl⟩ : ∃ m : Nat, n = m := ⟨n.toNat, by omega⟩
      have hm : m < os.length := by omega
      refine ⟨_, e1, _, e2, cl, _, m, .int (os.getD m 0), rfl, rfl, SqL.of hc, atI_nat (by rw [List.getElem?_map, List.getElem?_eq_getElem hm]; simp [hm]), _, _, rfl, rfl, ?_⟩
      rw [cnt_in hm] at q
      have hn := nn _ (mem_getD hm)
      have e : decide (os.getD m 0 ≠ 0) = decide (0 < os.getD m 0) := by
        by_cases z : 0 < os.getD m 0
        · rw [decide_eq_true z, decide_eq_true (show os.getD m 0 ≠ 0 by omega)]
        · rw [decide_eq_false z, decide_eq_false (show ¬ os.getD m 0 ≠ 0 by omega)]
      rw [e] at q
      exact q
    · have d' : ¬ n < os.length := fun z => d (decide_eq_true z)
      have e : cntOf os n = 0 := by unfold cntOf; rw [if_pos (.inr (by omega))]
      rw [e, decide_eq_false (show ¬ (0 : Int) ≠ 0 by omega)] at q
      exact q
  · have c' : ¬ 0 ≤ n := fun z => c (decide_eq_true z)
    have e : cntOf os n = 0 := by unfold cntOf; rw [if_pos (.inl (by omega))]
    rw [e, decide_eq_false (show ¬ (0 : Int) ≠ 0 by omega)] at q
    exact ⟨false, rfl, iteF q⟩
def tZeros (i : Nat) : TE := fun σ H Q => ∃ (cl : Addr) (os : List Int), σ[i]? = some (some (.ref cl)) ∧ H cl = some (.lst (os.map V.int)) ∧ os.length ≤ 60 ∧ ∀ H', Same H H' → Q (.int (os.count 0 : Nat)) H'
theorem fil0 (os : List Int) (i : Nat) (x : Int) (h : os[i]? = some x) : (os.take (i + 1)).filter (· == 0) = (os.take i).filter (· == 0) ++ if x = 0 then [x] else [] := by
  rw [List.take_succ, h, List.filter_append]
  congr 1
  by_cases e : x = 0
  · simp [e]
  · simp [e]
theorem zeros_imp {K : PySem.W.Frag} {i : Nat} : ∀ (σ : St) (H : Hp) (Q : VK), tZeros i σ H Q →
    tCB (fun xs H Q => ∃ p ys, xs = [.ref p] ∧ (SqL K H p ys ∨ SqT K H p ys) ∧ Q (.int ys.length) H) (tCons (tComp [] (iList K (tVar i)) (tTest (tOp rEq (tVar 0) (tC (.int 0)))) (tVar 0)) tNil) σ H Q := by
  rintro σ H Q ⟨cl, os, e1, hc, hl, q⟩
  have hs : sizeLine = 16777216 := sizeLine_eq
  refine ⟨_, e1, cl, rfl, ⟨_, SqL.of hc⟩, comp_list (K := K) (a := cl) (xs := os.map V.int) (fun i ys H2 => ys = ((os.take i).filter (· == 0)).map V.int ∧ H2 = H) ⟨by simp, rfl⟩ (fun i ys H2 _ ⟨_, e⟩ => by rw [e]; exact SqL.of hc) ?_ ?_⟩
  · rintro i x ys H2 hi ⟨rfl, rfl⟩
    obtain ⟨z, hz, rfl⟩ : ∃ z, os[i]? = some z ∧ x = V.int z := by
      rw [List.getElem?_map] at hi
      cases e : os[i]? with
      | none => rw [e] at hi; cases hi
      | some z => rw [e] at hi; exact ⟨z, rfl, (Option.some.inj hi).symm⟩
    refine ⟨_, rfl, rfl, _, rfl, ?_⟩
    rw [fil0 os i z hz]
    refine ite2 (fun c => ?_) (fun c => ?_)
    · have c' : z = 0 := by simpa using c
      refine ⟨_, rfl, ?_, ?_, rfl⟩
      · rw [List.length_map]
        have h1 := List.length_filter_le (fun x : Int => x == 0) (os.take i)
        have h2 := List.length_take_le i os
        have h3 : (os.take i).length ≤ os.length := by rw [List.length_take]; omega
        omega
      · rw [if_pos c', List.map_append]; rfl
    · have c' : ¬ z = 0 := by simpa using c
      refine ⟨?_, rfl⟩
      rw [if_neg c', List.append_nil]
  · rintro ys H2 ⟨rfl, rfl⟩ l hl'
    refine ⟨l, _, rfl, .inl (SqL.of upd_same), ?_⟩
    rw [List.length_map, List.length_map, List.take_length, ← List.countP_eq_length_filter]
    exact q _ (same_new hl')
theorem log_small {n : Int} {k : Nat} (h1 : -1 ≤ n) (h2 : n ≤ k) (hk : k ≤ 1000) : n.natAbs.log2 < 1920 := by
  have h := Nat.log2_le_self n.natAbs
  omega
def spDeed (C : Addr) : Sp := fun vs H Q _ => ∃ (p d ow co cl ct : Addr) (os : List Int) (pg : List (Option (List Int))) (cs : List (List Int)), vs = [.ref p, .ref d, .ref cl, .ref ct] ∧ LawAt C H p ow co cl ct os pg cs ∧ DeedAt H os.length (.ref d) ∧
  ∀ H' os' pg' cs', os'.length = os.length → LawAt C H' p ow co cl ct os' pg' cs' → Off (MM ow co cl ct) H H' → Q (.bl true) H'
theorem MM.hi {ow co cl ct b : Addr} (h : b = cl ∨ b = ct) : MM ow co cl ct b := .inr (.inr h)
section
variable {P : Program} {w : World} {K : PySem.W.Frag} {mg : Str → Option Value} {base : Heap}
theorem scDd : FnScope ["_law_store", "_law_deed_here", "_law_counts", "_law_contents", "_law_what", "_law_page", "_law_value", "_law_there", "_law_found"] ["_law_store", "_law_deed_here", "_law_counts", "_law_contents"] (defScope sDeed) := ⟨rfl, rfl, rfl, by decide +kernel, rfl, by decide +kernel, by decide +kernel⟩
set_option maxHeartbeats 8000000 in
theorem ok_deed {f C CN fTd fI fF fC fR fD fN : Addr} {fd dTd dI dF dC dR dD dN : FuncData} (F : Fun K "_law_deed" "_law_deed" sDeed f fd) (T : LTxt mg) (TC : Txt K mg C)
    (GTd : FnOk P w K mg base CX0 3 fTd dTd ["_law_store", "_law_counts", "_law_contents"] (spTakenDown C)) (DTd : Def K mg "_law_taken_down" fTd dTd ["_law_store", "_law_counts", "_law_contents"])
    (GI : FnOk P w K mg base CX0 2 fI dI ["_law_found", "_law_due"] spIs) (DI : Def K mg "_law_is" fI dI ["_law_found", "_law_due"])
    (GF : FnOk P w K mg base CX0 1 fF dF ["self"] (spFree C)) (bF : Binds K dF ["self"] []) (mF : Meth K C "free" fF)
    (GC : FnOk P w K mg base CX0 1 fC dC ["self", "n"] (spCount C)) (bC : Binds K dC ["self", "n"] []) (mC : Meth K C "count" fC)
    (GR : FnOk P w K mg base CX0 5 fR dR ["_law_store", "_law_what", "_law_page", "_law_value"] (spRefused C CN)) (DR : Def K mg "_law_refused" fR dR ["_law_store", "_law_what", "_law_page", "_law_value"])
    (GD : FnOk P w K mg base (CXO P w) 4 fD dD ["_law_store", "_law_what", "_law_page", "_law_value"] (spDone C CN)) (DD : Def K mg "_law_done" fD dD ["_law_store", "_law_what", "_law_page", "_law_value"])
    (GN : FnOk P w K mg base CX0 2 fN dN ["_law_found", "_law_due"] (spNumbers K)) (DN : Def K mg "_law_numbers" fN dN ["_law_found", "_law_due"]) :
    FnOk P w K mg base CX0 6 f fd ["_law_store", "_law_deed_here", "_law_counts", "_law_contents"] (spDeed C) := by
  refine F.ok scDd (fun vs H Q E h => ?_) (fun cdv A outer s H vs Q E hr h => ?_)
  · obtain ⟨p, d, ow, co, cl, ct, os, pg, cs, rfl, _⟩ := h
    rfl
  · obtain ⟨p, d, ow, co, cl, ct, os, pg, cs, rfl, L, ⟨t, wh, n, v, et, ht, w0, w7, n1, n2, v0, v1⟩, k⟩ := h
    cases et
    obtain ⟨⟨dx, h1⟩, hw, c2, hc2, hp2⟩ := id L.S
    obtain ⟨rs, hrs, hpr⟩ := id L.hct
    have hs : sizeLine = 16777216 := sizeLine_eq
    have hl3 := L.l3
    have nb : n.natAbs.log2 < 1920 := log_small (k := os.length + 1) n1 n2 (by omega)
    have stay : Q (.bl true) H := k H os pg cs rfl L fun b u e _ => e
    have stayS : ∀ H', Same H H' → Q (.bl true) H' := fun H' sm => k H' os pg cs rfl (L.same sm) fun b u e _ => sm b u e
    refine ⟨_, (pss_cons (ps_asg (pv 1) (pg_tup rfl (pgs_cons (pg_name (i := 4) scDd.nd rfl (Or.inl rfl)) (pgs_cons (pg_name (i := 5) scDd.nd rfl (Or.inl rfl)) (pgs_cons (pg_name (i := 6) scDd.nd rfl (Or.inl rfl)) pgs_nil)))))
      (pss_cons (ps_if (pt_cmpR op_eq (pv 4) pe_int (nomark _)) (pss_one (ps_ret (pe_call GTd (hr.mono (by decide)) (by rfl) DTd.mg DTd.kp DTd.b .nil pass0 (pa_cons (pv 0) (pa_cons (pv 2) (pa_cons (pv 3) pa_nil)))))) pss_nil)
      (pss_cons (ps_if (pt_cmpR op_eq (pv 4) pe_int (nomark _)) (pss_one (ps_ret (pe_call GI (hr.mono (by decide)) (by rfl) DI.mg DI.kp DI.b .nil pass0 (pa_cons (pe_meth0 (pv 0) TC.cl mF GF (hr.mono (by decide)) bF .nil pass0) (pa_cons (pe_imp (t' := tZeros 2) (pe_callB call_len_seq (by rfl) T.len PySem.boot_len (pa_cons (pe_comp (cl := []) (caps := []) ⟨rfl, by decide +kernel, by decide +kernel, rfl, by kernel_rfl, by intro p hp; simp at hp, by kernel_rfl, by intro p hp; simp at hp, by decide +kernel⟩ rfl (pi_list (pv 2)) (fun _ _ _ _ => pts_one (pt_cmpR op_eq (pv 0) pe_int (nomark _))) (fun _ _ _ _ => (pv 0))) pa_nil)) zeros_imp) pa_nil))))) pss_nil)
      (pss_cons (ps_set (i := 7) scDd.nd rfl (Or.inl rfl) (pe_imp (t' := tThere 2 5) (pe_and (pe_chain op_le op_lt pe_int (pv 5) (pe_callB call_len_seq (by rfl) T.len PySem.boot_len (pa_cons (pv 2) pa_nil))) (pe_one (pe_cmpR op_gt (pe_ix ix_list (pv 2) (pv 5) (fun _ _ => rfl)) pe_int (nomark _)))) there_imp))
      (pss_cons (ps_if (pt_cmpR op_eq (pv 4) pe_int (nomark _)) (pss_one (ps_ret (pe_call GI (hr.mono (by decide)) (by rfl) DI.mg DI.kp DI.b .nil pass0 (pa_cons (pe_meth (pv 0) TC.cl mC GC (hr.mono (by decide)) bC .nil pass0 (pa_cons (pv 5) pa_nil)) (pa_cons (pe_ifExp (pt_val (pv 7)) (pe_ix ix_list (pv 2) (pv 5) (fun _ _ => rfl)) pe_int) pa_nil))))) pss_nil)
      (pss_cons (ps_if (pt_not (pt_val (pv 7))) (pss_one (ps_ret (pe_call GR (hr.mono (by decide)) (by rfl) DR.mg DR.kp DR.b .nil pass0 (pa_cons (pv 0) (pa_cons (pv 4) (pa_cons (pv 5) (pa_cons (pv 6) pa_nil))))))) pss_nil)
      (pss_cons (ps_set (i := 8) scDd.nd rfl (Or.inl rfl) (pe_call GD (hr.mono (by decide)) (by rfl) DD.mg DD.kp DD.b .nil pass1 (pa_cons (pv 0) (pa_cons (pv 4) (pa_cons (pv 5) (pa_cons (pv 6) pa_nil))))))
      (pss_cons (ps_if (pt_cmpR op_eq (pv 4) pe_int (nomark _)) (pss_one (ps_ret (pe_call GN (hr.mono (by decide)) (by rfl) DN.mg DN.kp DN.b .nil pass0 (pa_cons (pv 8) (pa_cons (pe_ix ix_list (pv 3) (pv 5) (fun _ _ => rfl)) pa_nil))))) pss_nil)
      (pss_cons (ps_if (pt_cmpR op_eq (pv 4) pe_int (nomark _)) (pss_one (ps_asg (pe_lst (pa_cons (pv 6) (pa_cons (pe_op op_sub pe_int (pv 6)) (pa_cons pe_int (pa_cons (pe_op op_fdiv (pv 6) pe_int) (pa_cons pe_int (pa_cons pe_int (pa_cons pe_int (pa_cons (pv 6) pa_nil))))))))) (pg_sub (pv 3) (pv 5) set_list))) (pss_one (ps_augS (pv 2) (pv 5) get_list (pe_op op_sub pe_int (pe_op op_mul pe_int (pv 4))) ip_add set_list)))
      (pss_one (ps_ret pe_bl))))))))))), ?_⟩
    refine ⟨_, rfl, d, _, rfl, SqT.of ht, rfl, _, _, rfl, _, _, rfl, _, _, rfl, rfl, ?_⟩
    -- take
    refine ⟨_, rfl, rfl, _, rfl, ?_⟩
    refine ite2 (fun c0 => ?_) (fun c0 => ?_)
    · exact ⟨_, rfl, _, rfl, _, rfl, p, ow, co, cl, ct, os, pg, cs, rfl, L, k⟩
    have c0' : ¬ wh = 0 := by simpa using c0
    -- free
    refine ⟨_, rfl, rfl, _, rfl, ?_⟩
    refine ite2 (fun c6 => ?_) (fun c6 => ?_)
    · refine ⟨_, rfl, p, dx, _, rfl, h1, flds_no _ _ (by decide +kernel) (by decide +kernel), p, ow, co, _, os, pg, rfl, L.S, cl, os, rfl, L.hcl, hl3, fun H' sm => ⟨_, _, rfl, ?_⟩⟩
      rw [decide_eq_true rfl]
      exact stayS H' sm
    have c6' : ¬ wh = 6 := by simpa using c6
    refine ⟨cl, os, n, rfl, rfl, L.hcl, L.nn, ?_⟩
    -- count
    refine ⟨_, rfl, rfl, _, rfl, ?_⟩
    refine ite2 (fun c5 => ?_) (fun c5 => ?_)
    · refine ⟨_, rfl, p, dx, _, rfl, h1, flds_no _ _ (by decide +kernel) (by decide +kernel), _, rfl, p, ow, co, _, os, pg, n, rfl, L.S, hl3, ?_⟩
      refine ⟨_, rfl, _, rfl, ?_⟩
      refine ite2 (fun e => ?_) (fun e => ?_)
      · have e' : cntOf os n ≠ 0 := of_decide_eq_true e
        obtain ⟨h0, hj, hn, en⟩ := cnt_pos e'
        generalize n.toNat = j at *
        subst en
        refine ⟨_, rfl, _, rfl, cl, _, j, .int (os.getD j 0), rfl, rfl, SqL.of L.hcl, atI_nat (by rw [List.getElem?_map, List.getElem?_eq_getElem hj]; simp [hj]), _, _, rfl, ?_⟩
        rw [cnt_in hj, decide_eq_true rfl]
        exact stay
      · have e' : cntOf os n = 0 := by
          by_cases z : cntOf os n = 0
          · exact z
          · exact absurd (decide_eq_true z) e
        refine ⟨_, _, rfl, ?_⟩
        rw [e', decide_eq_true rfl]
        exact stay
    have c5' : ¬ wh = 5 := by simpa using c5
    have w1 : 1 ≤ wh := by omega
    have w4 : wh ≤ 4 := by omega
    -- refused
    refine ⟨_, rfl, _, rfl, ?_⟩
    by_cases hc : cntOf os n = 0
    · rw [decide_eq_false (show ¬ cntOf os n ≠ 0 from fun z => z hc)]
      refine iteT ?_
      exact ⟨_, rfl, _, rfl, _, rfl, _, rfl, p, ow, co, _, os, pg, wh, n, v, rfl, L.ready nb w1 w4, hc, stayS⟩
    rw [decide_eq_true (show cntOf os n ≠ 0 from hc)]
    refine iteF ?_
    obtain ⟨h0, hj, hn, en⟩ := cnt_pos hc
    have hjc : n.toNat < cs.length := by have := L.l2; omega
    obtain ⟨a, ha, ca⟩ : ∃ a, rs[n.toNat]? = some a ∧ ContAt H (MM ow co cl ct) a (cs[n.toNat]) := paired_get hpr (List.getElem?_eq_getElem hjc)
    obtain ⟨ca, rfl, nca, hca⟩ := ca
    have hge : pg[n.toNat]? = some (some cs[n.toNat]) := L.eq _ _ (by
      have := L.nn _ (mem_getD hj)
      have : os.getD n.toNat 0 ≠ 0 := by
        rw [en, cnt_in hj] at hc
        exact hc
      omega) (List.getElem?_eq_getElem hjc)
    have hcnt : cntOf os n = os.getD n.toNat 0 := by rw [← cnt_in hj, ← en]
    have aI : atI (os.map V.int) n = some (.int (os.getD n.toNat 0)) := by
      have z := atI_nat (xs := os.map V.int) (j := n.toNat) (v := .int (os.getD n.toNat 0)) (by rw [List.getElem?_map, List.getElem?_eq_getElem hj]; simp [hj])
      rw [← en] at z
      exact z
    have aR : atI rs n = some (.ref ca) := by
      have z := atI_nat ha
      rw [← en] at z
      exact z
    -- counts go on
    have bump : ∀ (x : Int) (H' : Hp), (x = 1 ∨ x = -1) → StoreAt C H' (MM ow co cl ct) p ow co (os.set n.toNat (cntOf os n + x)) pg → Off (fun b => b = ow ∨ b = co) H H' →
        H' cl = some (.lst (os.map V.int)) ∧ Q (.bl true) (upd H' cl (.lst ((os.map V.int).set n.toNat (.int (os.getD n.toNat 0 + x))))) := fun x H' hx S' o' => by
      have e1 := o' _ _ L.hcl (fun z => z.elim (Ne.symm L.n2) (Ne.symm L.n4))
      refine ⟨e1, ?_⟩
      have oc : Off (fun b => b = cl) H' (upd H' cl (.lst ((os.map V.int).set n.toNat (.int (os.getD n.toNat 0 + x))))) := fun b u e hb => by rw [upd_ne hb]; exact e
      have hb : ∀ b, b = cl → MM ow co cl ct b := fun b z => MM.hi (.inl z)
      have hnn := L.nn _ (mem_getD hj)
      have hn0 : os.getD n.toNat 0 ≠ 0 := by rw [← hcnt]; exact hc
      obtain ⟨⟨_, h1'⟩, _⟩ := id S'
      refine k _ (os.set n.toNat (cntOf os n + x)) pg cs (by rw [List.length_set]) ?_ fun b u e hb' => oc b u (o' b u e fun z => hb' (MM.low z)) fun z => hb' (MM.hi (.inl z))
      refine ⟨S'.off oc hb (ins_lst h1' e1) L.n2 L.n4, by rw [upd_same, List.map_set, hcnt], ⟨rs, ?_, ?_⟩, L.n1, L.n2, L.n3, L.n4, L.n5, L.n6, by rw [List.length_set]; exact L.l1, by rw [List.length_set]; exact L.l2, by rw [List.length_set]; exact L.l3, ?_, ?_⟩
      · rw [upd_ne (Ne.symm L.n6)]
        exact o' _ _ hrs (fun z => z.elim (Ne.symm L.n3) (Ne.symm L.n5))
      · exact Paired.mapP (Paired.mapP hpr fun _ _ c => c.off o' fun b z => MM.low z) fun _ _ c => c.off oc hb
      · intro y hy
        rcases List.mem_or_eq_of_mem_set hy with z | z
        · exact L.nn y z
        · rw [z, hcnt]; omega
      · intro i ns hi' hni
        rw [getD_set hj] at hi'
        by_cases e : i = n.toNat
        · rw [e] at hni ⊢
          rw [List.getElem?_eq_getElem hjc] at hni
          cases hni
          exact hge
        · rw [if_neg e] at hi'
          exact L.eq i ns hi' hni
    refine ⟨_, rfl, _, rfl, _, rfl, _, rfl, p, ow, co, _, os, pg, wh, n, v, rfl, L.ready nb w1 w4, fun _ => ⟨fun e1 H' S' o' => ?_, fun e2 H' S' o' => ?_, fun e3 H' S' o' => ?_, fun e4 => ⟨_, hge, fun l hl => ?_⟩⟩, fun z => absurd z hc⟩
    · subst e1
      refine ⟨_, rfl, rfl, _, rfl, iteF ?_⟩
      refine ⟨_, rfl, rfl, _, rfl, iteF ?_⟩
      obtain ⟨b1, b2⟩ := bump 1 H' (.inl rfl) S' o'
      refine ⟨_, rfl, _, rfl, cl, _, n, .int (os.getD n.toNat 0), rfl, rfl, SqL.of b1, aI, _, rfl, _, _, rfl, rfl, .inl ⟨by decide, by decide⟩, _, _, rfl, rfl, _, _, rfl, rfl, cl, _, n, n.toNat, rfl, rfl, b1, ?_, b2⟩
      · unfold ixN
        rw [List.length_map, if_pos h0, if_pos hn]
    · subst e2
      refine ⟨_, rfl, rfl, _, rfl, iteF ?_⟩
      refine ⟨_, rfl, rfl, _, rfl, iteF ?_⟩
      obtain ⟨b1, b2⟩ := bump (-1) H' (.inr rfl) S' o'
      refine ⟨_, rfl, _, rfl, cl, _, n, .int (os.getD n.toNat 0), rfl, rfl, SqL.of b1, aI, _, rfl, _, _, rfl, rfl, .inl ⟨by decide, by decide⟩, _, _, rfl, rfl, _, _, rfl, rfl, cl, _, n, n.toNat, rfl, rfl, b1, ?_, b2⟩
      · unfold ixN
        rw [List.length_map, if_pos h0, if_pos hn]
    · subst e3
      refine ⟨_, rfl, rfl, _, rfl, iteF ?_⟩
      refine ⟨_, rfl, rfl, _, rfl, iteT ?_⟩
      refine ⟨_, rfl, _, rfl, _, _, rfl, rfl, _, rfl, _, _, rfl, rfl, ⟨by decide, by decide⟩, _, rfl, (by show 8 ≤ sizeLine; decide), fun l hl => ?_⟩
      have r1 := o' _ _ hrs (fun z => z.elim (Ne.symm L.n3) (Ne.symm L.n5))
      have q1 := o' _ _ L.hcl (fun z => z.elim (Ne.symm L.n2) (Ne.symm L.n4))
      have sl := same_new (X := .lst ((cv v).map V.int)) hl
      have lrs := paired_len hpr
      refine ⟨_, rfl, _, rfl, ct, rs, n, n.toNat, rfl, rfl, sl _ _ r1, ?_, ?_⟩
      · unfold ixN
        rw [if_pos h0, if_pos (by omega)]
      have e5 : upd H' l (.lst ((cv v).map V.int)) l = some (.lst ((cv v).map V.int)) := upd_same
      show Q (.bl true) (upd (upd H' l (.lst ((cv v).map V.int))) ct (.lst (rs.set n.toNat (.ref l))))
      have S5 := S'.same sl
      have o5 : Off (fun b => b = ow ∨ b = co) H (upd H' l (.lst ((cv v).map V.int))) := fun b u e hb => sl b u (o' b u e hb)
      have r5 := sl _ _ r1
      have q5 := sl _ _ q1
      have nM : ¬ MM ow co cl ct l := by
        obtain ⟨_, w3, c3, v3, _⟩ := S'
        rintro (z | z | z | z)
        · rw [z, w3] at hl; cases hl
        · rw [z, v3] at hl; cases hl
        · rw [z, q1] at hl; cases hl
        · rw [z, r1] at hl; cases hl
      have lct : l ≠ ct := fun z => nM (MM.hi (.inr z))
      generalize upd H' l (.lst ((cv v).map V.int)) = H5 at *
      have oc : Off (fun b => b = ct) H5 (upd H5 ct (.lst (rs.set n.toNat (.ref l)))) := fun b u e hb => by rw [upd_ne hb]; exact e
      have hb : ∀ b, b = ct → MM ow co cl ct b := fun b z => MM.hi (.inr z)
      obtain ⟨⟨_, h1'⟩, _⟩ := id S5
      refine k _ os (pg.set n.toNat (some (cv v))) (cs.set n.toNat (cv v)) rfl ?_ fun b u e hb' => oc b u (o5 b u e fun z => hb' (MM.low z)) fun z => hb' (MM.hi (.inr z))
      refine ⟨S5.off oc hb (ins_lst h1' r5) L.n3 L.n5, by rw [upd_ne L.n6]; exact q5, ⟨_, upd_same, ?_⟩, L.n1, L.n2, L.n3, L.n4, L.n5, L.n6, by rw [List.length_set]; exact L.l1, by rw [List.length_set]; exact L.l2, L.l3, L.nn, ?_⟩
      · exact paired_set ⟨l, rfl, nM, oc _ _ e5 lct⟩ n.toNat (Paired.mapP (Paired.mapP hpr fun _ _ c => c.off o5 fun b z => MM.low z) fun _ _ c => c.off oc hb)
      · intro i ns hi' hni
        by_cases e : i = n.toNat
        · rw [e] at hni ⊢
          rw [List.getElem?_set_self hjc] at hni
          cases hni
          exact List.getElem?_set_self (by have := L.l1; omega)
        · rw [List.getElem?_set_ne (Ne.symm e)] at hni ⊢
          exact L.eq i ns hi' hni
    · subst e4
      refine ⟨_, rfl, rfl, _, rfl, iteT ?_⟩
      refine ⟨_, rfl, _, rfl, _, rfl, ct, _, n, _, rfl, rfl, SqL.of (same_new hl _ _ hrs), aR, l, ca, _, _, rfl, upd_same, SqL.of (same_new hl _ _ hca), ?_⟩
      rw [decide_eq_true rfl]
      exact stayS _ (same_new hl)
end
end St

namespace St
open PySem L2
def spLaw (K : PySem.W.Frag) : Sp := fun vs H Q _ => ∃ (a : Addr) (ns : List Int), vs = [.ref a] ∧ SqL K H a (ns.map V.int) ∧ ns.length ≤ 63 ∧ ∀ H', Q (.bl true) H'
theorem pick (i : Int) (h0 : 0 ≤ i) (h8 : i < 8) : ∃ n : Nat, n ≤ 60 ∧ atI [V.int 2, V.int 5, V.int 9, V.int 1, V.int 0, V.int 60, V.int 17, V.int 3] i = some (.int n) := by
  have h : i = 0 ∨ i = 1 ∨ i = 2 ∨ i = 3 ∨ i = 4 ∨ i = 5 ∨ i = 6 ∨ i = 7 := by omega
  rcases h with rfl | rfl | rfl | rfl | rfl | rfl | rfl | rfl
  · exact ⟨2, by decide, rfl⟩
  · exact ⟨5, by decide, rfl⟩
  · exact ⟨9, by decide, rfl⟩
  · exact ⟨1, by decide, rfl⟩
  · exact ⟨0, by decide, rfl⟩
  · exact ⟨60, by decide, rfl⟩
  · exact ⟨17, by decide, rfl⟩
  · exact ⟨3, by decide, rfl⟩
def Z8 : List Int := [0, 0, 0, 0, 0, 0, 0, 0]
theorem paired_const {α β : Type} {F : α → β → Prop} {y : β} : ∀ {xs : List α}, (∀ x ∈ xs, F x y) → Paired F xs (List.replicate xs.length y)
  | [], _ => .nil
  | x :: r, h => .cons (h x List.mem_cons_self) (paired_const fun z hz => h z (List.mem_cons_of_mem _ hz))
section
variable {P : Program} {w : World} {K : PySem.W.Frag} {mg : Str → Option Value} {base : Heap}
theorem scLaw : FnScope ["_law_script", "_law_many", "_law_store", "_law_counts", "_law_contents", "_law_deed_here", "_law_page", "_law_due"] ["_law_script"] (defScope sLaw) := ⟨rfl, rfl, rfl, by decide +kernel, rfl, by decide +kernel, by decide +kernel⟩
set_option maxHeartbeats 16000000 in
theorem ok_law {f C CN fI fA fD fDe fIs fC fE fN fF : Addr} {fd dI dA dD dDe dIs dC dE dN dF : FuncData} (F : Fun K "law" "law" sLaw f fd) (T : LTxt mg) (TC : Txt K mg C) (mgC : mg "Store" = some (.ref C)) (MK : Mk K C fI)
    (GI : FnOk P w K mg base CX0 1 fI dI ["self", "many"] (spInit C)) (bI : Binds K dI ["self", "many"] [])
    (GA : FnOk P w K mg base CX0 1 fA dA ["_law_script", "_law_k"] (spCellAt K)) (DA : Def K mg "_law_cell_at" fA dA ["_law_script", "_law_k"])
    (GD : FnOk P w K mg base CX0 2 fD dD ["_law_script", "_law_many"] (spDeedsBy K)) (DD : Def K mg "_law_deeds_by" fD dD ["_law_script", "_law_many"])
    (GDe : FnOk P w K mg base CX0 6 fDe dDe ["_law_store", "_law_deed_here", "_law_counts", "_law_contents"] (spDeed C)) (DDe : Def K mg "_law_deed" fDe dDe ["_law_store", "_law_deed_here", "_law_counts", "_law_contents"])
    (GIs : FnOk P w K mg base CX0 2 fIs dIs ["_law_found", "_law_due"] spIs) (DIs : Def K mg "_law_is" fIs dIs ["_law_found", "_law_due"])
    (GC : FnOk P w K mg base CX0 1 fC dC ["self", "n"] (spCount C)) (bC : Binds K dC ["self", "n"] []) (mC : Meth K C "count" fC)
    (GE : FnOk P w K mg base (CXO P w) 3 fE dE ["self", "n"] (spCells C CN)) (bE : Binds K dE ["self", "n"] []) (mE : Meth K C "cells" fE)
    (GN : FnOk P w K mg base CX0 2 fN dN ["_law_found", "_law_due"] (spNumbers K)) (DN : Def K mg "_law_numbers" fN dN ["_law_found", "_law_due"])
    (GF : FnOk P w K mg base CX0 1 fF dF ["self"] (spFree C)) (bF : Binds K dF ["self"] []) (mF : Meth K C "free" fF) :
    FnOk P w K mg base CX0 7 f fd ["_law_script"] (spLaw K) := by
  refine F.ok scLaw (fun vs H Q E h => ?_) (fun cdv A outer s H vs Q E hr h => ?_)
  · obtain ⟨a, ns, rfl, _⟩ := h
    rfl
  · obtain ⟨sc, ns, rfl, hsc, hns, k⟩ := h
    have hs : sizeLine = 16777216 := sizeLine_eq
    refine ⟨_, (pss_cons (ps_set (i := 1) scLaw.nd rfl (Or.inl rfl) (pe_ix ix_list (pe_lst (pa_cons pe_int (pa_cons pe_int (pa_cons pe_int (pa_cons pe_int (pa_cons pe_int (pa_cons pe_int (pa_cons pe_int (pa_cons pe_int pa_nil))))))))) (pe_op op_mod (pe_op op_fdiv (pe_call GA (hr.mono (by decide)) (by rfl) DA.mg DA.kp DA.b .nil pass0 (pa_cons (pv 0) (pa_cons pe_int pa_nil))) pe_int) pe_int) (fun _ _ => rfl)))
      (pss_cons (ps_set (i := 2) scLaw.nd rfl (Or.inl rfl) (pe_make MK GI (hr.mono (by decide)) (by rfl) mgC bI .nil pass0 (pa_cons (pv 1) pa_nil)))
      (pss_cons (ps_comp (i := 3) (cl := []) (caps := []) scLaw.nd rfl (Or.inl rfl) ⟨rfl, by decide +kernel, by decide +kernel, rfl, by kernel_rfl, by intro p hp; simp at hp, by kernel_rfl, by intro p hp; simp at hp, by decide +kernel⟩ rfl (pi_range1 (by rfl) T.range (pa_cons (pv 1) pa_nil)) (fun _ _ _ _ => pts_nil) (fun _ _ _ _ => pe_int))
      (pss_cons (ps_comp (i := 4) (cl := []) (caps := []) scLaw.nd rfl (Or.inl rfl) ⟨rfl, by decide +kernel, by decide +kernel, rfl, by kernel_rfl, by intro p hp; simp at hp, by kernel_rfl, by intro p hp; simp at hp, by decide +kernel⟩ rfl (pi_range1 (by rfl) T.range (pa_cons (pv 1) pa_nil)) (fun _ _ _ _ => pts_nil) (fun _ _ _ _ => (pe_lst (pa_cons pe_int (pa_cons pe_int (pa_cons pe_int (pa_cons pe_int (pa_cons pe_int (pa_cons pe_int (pa_cons pe_int (pa_cons pe_int pa_nil)))))))))))
      (pss_cons (ps_for PassesOwn.never rfl (pi_list (pe_call GD (hr.mono (by decide)) (by rfl) DD.mg DD.kp DD.b .nil pass0 (pa_cons (pv 0) (pa_cons (pv 1) pa_nil)))) (pg_name (i := 5) scLaw.nd rfl (Or.inl rfl)) (pss_one (ps_if (pt_not (pt_val (pe_call GDe (hr.mono (by decide)) (by rfl) DDe.mg DDe.kp DDe.b .nil pass0 (pa_cons (pv 2) (pa_cons (pv 5) (pa_cons (pv 3) (pa_cons (pv 4) pa_nil))))))) (pss_one (ps_ret pe_bl)) pss_nil)))
      (pss_cons (ps_for PassesOwn.never rfl (pi_range2 (by rfl) T.range (pa_cons (pe_un un_neg pe_int) (pa_cons (pe_op op_add (pv 1) pe_int) pa_nil))) (pg_name (i := 6) scLaw.nd rfl (Or.inl rfl)) (pss_cons (ps_set (i := 7) scLaw.nd rfl (Or.inl rfl) pe_int)
      (pss_cons (ps_if (pt_chain op_le op_lt pe_int (pv 6) (pv 1)) (pss_one (ps_set (i := 7) scLaw.nd rfl (Or.inl rfl) (pe_ix ix_list (pv 3) (pv 6) (fun _ _ => rfl)))) pss_nil)
      (pss_cons (ps_if (pt_not (pt_val (pe_call GIs (hr.mono (by decide)) (by rfl) DIs.mg DIs.kp DIs.b .nil pass0 (pa_cons (pe_meth (pv 2) TC.cl mC GC (hr.mono (by decide)) bC .nil pass0 (pa_cons (pv 6) pa_nil)) (pa_cons (pv 7) pa_nil))))) (pss_one (ps_ret pe_bl)) pss_nil)
      (pss_one (ps_if (PW.pt (pw_and (pt_cmpR op_gt (pv 7) pe_int (nomark _)) (pw_and1 (pt_not (pt_val (pe_call GN (hr.mono (by decide)) (by rfl) DN.mg DN.kp DN.b .nil pass0 (pa_cons (pe_meth (pv 2) TC.cl mE GE (hr.mono (by decide)) bE .nil pass1 (pa_cons (pv 6) pa_nil)) (pa_cons (pe_ix ix_list (pv 4) (pv 6) (fun _ _ => rfl)) pa_nil)))))))) (pss_one (ps_ret pe_bl)) pss_nil))))))
      (pss_one (ps_ret (pe_call GIs (hr.mono (by decide)) (by rfl) DIs.mg DIs.kp DIs.b .nil pass0 (pa_cons (pe_meth0 (pv 2) TC.cl mF GF (hr.mono (by decide)) bF .nil pass0) (pa_cons (pe_imp (t' := tZeros 3) (pe_callB call_len_seq (by rfl) T.len PySem.boot_len (pa_cons (pe_comp (cl := []) (caps := []) ⟨rfl, by decide +kernel, by decide +kernel, rfl, by kernel_rfl, by intro p hp; simp at hp, by kernel_rfl, by intro p hp; simp at hp, by decide +kernel⟩ rfl (pi_list (pv 3)) (fun _ _ _ _ => pts_one (pt_cmpR op_eq (pv 0) pe_int (nomark _))) (fun _ _ _ _ => (pv 0))) pa_nil)) zeros_imp) pa_nil))))))))))), ?_⟩
    refine ⟨by decide, fun ml hml => ?_⟩
    have i0 := Int.emod_nonneg (ns.getD 0 0 / 2) (show (8 : Int) ≠ 0 by decide)
    have i8 := Int.emod_lt_of_pos (ns.getD 0 0 / 2) (show (0 : Int) < 8 by decide)
    obtain ⟨n, hn, en⟩ := pick _ i0 i8
    have s0 := same_new (X := .lst [V.int 2, V.int 5, V.int 9, V.int 1, V.int 0, V.int 60, V.int 17, V.int 3]) hml
    refine ⟨_, rfl, sc, ns, 0, rfl, s0.seq hsc, _, _, rfl, rfl, ⟨by decide, by decide⟩, _, _, rfl, rfl, (by show (0 : Int) < 8; decide), ml, _, _, .int n, rfl, rfl, SqL.of upd_same, en, ?_⟩
    generalize upd H ml (.lst [V.int 2, V.int 5, V.int 9, V.int 1, V.int 0, V.int 60, V.int 17, V.int 3]) = H0 at *
    refine ⟨_, rfl, fun p dx np ndx ne0 => ⟨p, dx, n, rfl, hn, upd_same, fun ow co H1 how hco hne St off => ⟨rfl, ?_⟩⟩⟩
    have s1 : Same H0 H1 := fun b u e => off b u (by rw [upd_ne (ne_of_none e np), upd_ne (ne_of_none e ndx)]; exact e) (ne_of_none e np)
    clear off how hco np ndx
    -- the counts
    refine ⟨_, rfl, n, rfl, by omega, by omega, comp_range0 (n := (n : Int).toNat) (fun i ys H2 => ys = (List.replicate i (0 : Int)).map V.int ∧ H2 = H1) ⟨rfl, rfl⟩ ?_ ?_⟩
    · rintro i ys H2 hi ⟨rfl, rfl⟩
      refine ⟨?_, ?_, rfl⟩
      · rw [List.length_map, List.length_replicate]; omega
      · rw [List.replicate_succ', List.map_append]; rfl
    rintro ys H2 ⟨rfl, rfl⟩ cl hcl
    rw [show (n : Int).toNat = n by omega]
    have sc1 := same_new (X := .lst ((List.replicate n (0 : Int)).map V.int)) hcl
    have ecl : upd H2 cl (.lst ((List.replicate n (0 : Int)).map V.int)) cl = some (.lst ((List.replicate n (0 : Int)).map V.int)) := upd_same
    have St' : ∀ M, StoreAt C (upd H2 cl (.lst ((List.replicate n (0 : Int)).map V.int))) M p ow co (List.replicate n 0) (List.replicate n none) := fun M => (St M).same sc1
    have ncw : ow ≠ cl ∧ co ≠ cl := by
      obtain ⟨_, w3, c3, v3, _⟩ := St fun _ => False
      exact ⟨ne_of_none w3 hcl, ne_of_none v3 hcl⟩
    have s2 := (s0.trans s1).trans sc1
    show tSeq _ _ _ [some (V.ref sc), some (.int n), some (.ref p), some (.ref cl), none, none, none, none] (upd H2 cl (.lst ((List.replicate n (0 : Int)).map V.int)))
    clear St sc1 s1
    generalize upd H2 cl (.lst ((List.replicate n (0 : Int)).map V.int)) = H3 at *
    -- the contents
    refine ⟨_, rfl, n, rfl, by omega, by omega, comp_range0 (n := (n : Int).toNat) (fun i ys H4 => Same H3 H4 ∧ ys.length = i ∧ ∀ y ∈ ys, ∃ a, y = V.ref a ∧ H3 a = none ∧ H4 a = some (.lst (Z8.map V.int))) ⟨Same.refl _, rfl, fun y hy => by cases hy⟩ ?_ ?_⟩
    · rintro i ys H4 hi ⟨s4, hl4, hy4⟩
      refine ⟨by decide, fun l hl => ⟨by omega, ?_, ?_, ?_⟩⟩
      · exact s4.trans (same_new hl)
      · rw [List.length_append, hl4]; rfl
      · intro y hy
        rcases List.mem_append.mp hy with z | z
        · obtain ⟨a, e1, e2, e3⟩ := hy4 y z
          exact ⟨a, e1, e2, same_new hl _ _ e3⟩
        · exact ⟨l, List.mem_singleton.mp z, s4.free hl, upd_same⟩
    rintro rs H4 ⟨s4, hl4, hy4⟩ ct hct
    rw [show (n : Int).toNat = n by omega] at hl4
    have sct := same_new (X := .lst rs) hct
    have L4 : LawAt C (upd H4 ct (.lst rs)) p ow co cl ct (List.replicate n 0) (List.replicate n none) (List.replicate n Z8) := by
      obtain ⟨_, w3, c3, v3, _⟩ := St' fun _ => False
      have e4 := s4 _ _ ecl
      have n3 : ow ≠ ct := ne_of_none (s4 _ _ w3) hct
      have n5 : co ≠ ct := ne_of_none (s4 _ _ v3) hct
      have n6 : cl ≠ ct := ne_of_none e4 hct
      refine ⟨((St' _).same s4).same sct, sct _ _ e4, ⟨rs, upd_same, ?_⟩, hne, ncw.1, n3, ncw.2, n5, n6, by simp, by simp, by simp; omega, fun x hx => by rw [(List.mem_replicate.mp hx).2]; omega, fun i ns hi _ => ?_⟩
      · rw [← hl4]
        refine paired_const fun y hy => ?_
        obtain ⟨a, e1, e2, e3⟩ := hy4 y hy
        refine ⟨a, e1, ?_, sct _ _ e3⟩
        rintro (z | z | z | z)
        · rw [z, w3] at e2; cases e2
        · rw [z, v3] at e2; cases e2
        · rw [z, ecl] at e2; cases e2
        · rw [z, hct] at e3; cases e3
      · exfalso
        by_cases z : i < n
        · rw [List.getD_eq_getElem?_getD, List.getElem?_replicate, if_pos z] at hi
          simp at hi
        · rw [List.getD_eq_getElem?_getD, List.getElem?_replicate, if_neg z] at hi
          simp at hi
    have s5 := (s2.trans s4).trans sct
    show tSeq _ _ _ [some (V.ref sc), some (.int n), some (.ref p), some (.ref cl), some (.ref ct), none, none, none] (upd H4 ct (.lst rs))
    clear St' ecl s4 hy4 hct sct
    generalize upd H4 ct (.lst rs) = H5 at *
    -- the deeds
    refine ⟨_, rfl, _, rfl, sc, ns, n, rfl, s5.seq hsc, hns, hn, fun l H6 xs hl s6 e6 hx hD => ?_⟩
    have L6 := L4.same s6
    have nl : ¬ MM ow co cl ct l := fun z => L4.tr l z hl
    refine ⟨l, rfl, ⟨_, SqL.of e6⟩, for_list (K := K) (a := l) (xs := xs) (fun i σ H7 => ∃ (v5 : Option V) (os : List Int) (pg : List (Option (List Int))) (cs : List (List Int)), σ = [some (.ref sc), some (.int n), some (.ref p), some (.ref cl), some (.ref ct), v5, none, none] ∧
      os.length = n ∧ LawAt C H7 p ow co cl ct os pg cs ∧ Off (MM ow co cl ct) H6 H7)
      ⟨_, _, _, _, rfl, List.length_replicate, L6, fun b o e _ => e⟩ (fun i σ H7 _ ⟨_, _, _, _, _, _, _, o⟩ => SqL.of (o _ _ e6 nl)) ?_ ?_⟩
    · rintro i y σ H7 hi ⟨v5, os, pg, cs, rfl, hl7, L7, o7⟩
      obtain ⟨t, wh, pp, va, rfl, ht, r⟩ := hD y (List.mem_of_getElem? hi)
      have ht7 : H7 t = some (.tup [.int wh, .int pp, .int va]) := o7 _ _ ht fun z => by
        obtain ⟨_, w3, c3, v3, _⟩ := L6.S
        obtain ⟨r3, q3, _⟩ := L6.hct
        rcases z with z | z | z | z
        · rw [z, w3] at ht; cases ht
        · rw [z, v3] at ht; cases ht
        · rw [z, L6.hcl] at ht; cases ht
        · rw [z, q3] at ht; cases ht
      refine ⟨_, rfl, _, rfl, _, rfl, _, rfl, p, t, ow, co, cl, ct, os, pg, cs, rfl, L7, ⟨t, wh, pp, va, rfl, ht7, by rw [hl7]; exact r⟩, fun H8 os' pg' cs' hl8 L8 o8 => ⟨true, rfl, iteF ?_⟩⟩
      exact ⟨_, os', pg', cs', rfl, hl8.trans hl7, L8, fun b u e hb => o8 b u (o7 b u e hb) hb⟩
    rintro σ H7 ⟨v5, os, pg, cs, rfl, hl7, L7, o7⟩
    obtain ⟨⟨dx7, h7⟩, hw7, c7, hc7, hp7⟩ := id L7.S
    obtain ⟨rs7, hrs7, hpr7⟩ := id L7.hct
    -- each page
    refine ⟨1, rfl, _, rfl, _, _, rfl, rfl, _, _, rfl, ⟨by decide, by decide, by show -(2 ^ 62) ≤ (n : Int) + 1; omega, by show (n : Int) + 1 < 2 ^ 62; omega⟩, for_range (lo := -1) (n := ((n : Int) + 1 - -1).toNat) (fun i σ H8 => ∃ (v6 v7 : Option V), σ = [some (.ref sc), some (.int n), some (.ref p), some (.ref cl), some (.ref ct), v5, v6, v7] ∧ Same H7 H8) ⟨_, _, rfl, Same.refl _⟩ ?_ ?_⟩
    · rintro i σ H8 hi ⟨v6, v7, rfl, s8⟩
      have L8 := L7.same s8
      obtain ⟨⟨dx8, h8⟩, hw8, c8, hc8, hp8⟩ := id L8.S
      have nb : ((-1 : Int) + i).natAbs.log2 < 1920 := log_small (k := n + 1) (by omega) (by omega) (by omega)
      refine ⟨_, rfl, 0, _, rfl, rfl, _, rfl, ?_⟩
      refine ite2 (fun c => ?_) (fun c => ?_)
      · have c' : (0 : Int) ≤ -1 + i := of_decide_eq_true c
        refine ⟨_, rfl, _, _, rfl, rfl, _, rfl, ?_⟩
        obtain ⟨j, ej⟩ : ∃ j : Nat, (-1 : Int) + i = j := ⟨((-1 : Int) + i).toNat, by omega⟩
        rw [ej] at nb ⊢
        refine ite2 (fun d => ?_) (fun d => ?_)
        · have d' : (j : Int) < n := of_decide_eq_true d
          have hj : j < os.length := by omega
          have hjc : j < cs.length := by have := L8.l2; omega
          refine ⟨_, rfl, _, rfl, cl, _, j, .int (os.getD j 0), rfl, rfl, SqL.of L8.hcl, atI_nat (by rw [List.getElem?_map, List.getElem?_eq_getElem hj]; simp [hj]), ?_⟩
          refine ⟨_, rfl, p, dx8, _, rfl, h8, flds_no _ _ (by decide +kernel) (by decide +kernel), _, rfl, p, ow, co, _, os, pg, j, rfl, L8.S, L8.l3, _, rfl, _, _, rfl, _, rfl, ?_⟩
          rw [cnt_in hj, decide_eq_true rfl]
          refine iteF ?_
          refine ⟨_, rfl, _, _, rfl, rfl, _, rfl, ?_⟩
          refine ite2 (fun g => ?_) (fun g => ?_)
          · have g' : 0 < os.getD j 0 := of_decide_eq_true g
            obtain ⟨a, ha, ca⟩ : ∃ a, rs7[j]? = some a ∧ ContAt H7 (MM ow co cl ct) a (cs[j]) := paired_get hpr7 (List.getElem?_eq_getElem hjc)
            obtain ⟨ca, rfl, nca, hca⟩ := ca
            have hge := L8.eq j _ g' (List.getElem?_eq_getElem hjc)
            refine ⟨_, rfl, p, dx8, _, rfl, h8, flds_no _ _ (by decide +kernel) (by decide +kernel), _, rfl, p, ow, co, _, os, pg, j, rfl, L8.S, L8.l3, nb, fun _ => ⟨_, hge, fun lc hlc => ?_⟩, fun z => ?_⟩
            · refine ⟨_, rfl, _, rfl, ct, _, j, _, rfl, rfl, SqL.of (same_new hlc _ _ (s8 _ _ hrs7)), atI_nat ha, lc, ca, _, _, rfl, upd_same, SqL.of (same_new hlc _ _ (s8 _ _ hca)), _, rfl, ?_⟩
              rw [decide_eq_true rfl]
              refine iteF ?_
              exact ⟨_, _, rfl, s8.trans (same_new hlc)⟩
            · rw [cnt_in hj] at z
              omega
          · exact iteF ⟨_, _, rfl, s8⟩
        · have d' : ¬ (j : Int) < n := fun z => d (decide_eq_true z)
          have e0 : cntOf os (j : Int) = 0 := by unfold cntOf; rw [if_pos (.inr (by omega))]
          refine ⟨_, rfl, p, dx8, _, rfl, h8, flds_no _ _ (by decide +kernel) (by decide +kernel), _, rfl, p, ow, co, _, os, pg, j, rfl, L8.S, L8.l3, _, rfl, _, _, rfl, _, rfl, ?_⟩
          rw [e0, decide_eq_true rfl]
          refine iteF ?_
          exact ⟨_, rfl, _, _, rfl, rfl, _, rfl, iteF (iteF ⟨_, _, rfl, s8⟩)⟩
      · have c' : ¬ (0 : Int) ≤ -1 + i := fun z => c (decide_eq_true z)
        have e0 : cntOf os ((-1 : Int) + i) = 0 := by unfold cntOf; rw [if_pos (.inl (by omega))]
        refine ⟨false, rfl, iteF ?_⟩
        refine ⟨_, rfl, p, dx8, _, rfl, h8, flds_no _ _ (by decide +kernel) (by decide +kernel), _, rfl, p, ow, co, _, os, pg, _, rfl, L8.S, L8.l3, _, rfl, _, _, rfl, _, rfl, ?_⟩
        rw [e0, decide_eq_true rfl]
        refine iteF ?_
        exact ⟨_, rfl, _, _, rfl, rfl, _, rfl, iteF (iteF ⟨_, _, rfl, s8⟩)⟩
    · rintro σ H8 ⟨v6, v7, rfl, s8⟩
      have L8 := L7.same s8
      obtain ⟨⟨dx8, h8⟩, _⟩ := id L8.S
      refine ⟨_, rfl, p, dx8, _, rfl, h8, flds_no _ _ (by decide +kernel) (by decide +kernel), p, ow, co, _, os, pg, rfl, L8.S, cl, os, rfl, L8.hcl, L8.l3, fun H' sm => ⟨_, _, rfl, ?_⟩⟩
      rw [decide_eq_true rfl]
      exact k H'
end
end St
namespace Hd
open PySem PySem.W PyProof.Rows

def halves : List Obj → List Obj × List Obj
  | [] => ([], [])
  | [a] => ([a], [])
  | a :: b :: r => (a :: (halves r).1, b :: (halves r).2)
def build : Nat → List Obj → BT
  | 0, _ => .nil
  | _ + 1, [] => .nil
  | f + 1, o :: r => .node o (build f (halves r).1) (build f (halves r).2)

def topT (tb : String → Option Builtin) (p : Program) (w : World) (m : Nat) (an : Option Value) : Nat → SharedT → Thread → Option SharedT
  | 0, _, _ => none
  | k + 1, x, t => match through t with
    | true => some x
    | false => match stepOk m an t with
      | false => none
      | true => match stepT (denote tb) p w x t with
        | some (y, u) => topT tb p w m an k y u
        | none => none

theorem topT_of {tb : String → Option Builtin} {p : Program} {w : World} {m : Nat} {an : Option Value} : ∀ {k : Nat} {x z : SharedT} {t : Thread}, topT tb p w m an k x t = some z → topRun tb p w m an k x.abs t = some z.abs := by
  intro k
  induction k with
  | zero => intro x z t e; cases e
  | succ k ih =>
    intro x z t e
    unfold topT at e
    unfold topRun
    cases a : through t with
    | true => rw [a] at e; cases e; rfl
    | false =>
      rw [a] at e
      cases b : stepOk m an t with
      | false => rw [b] at e; cases e
      | true =>
        rw [b] at e
        cases c : stepT (denote tb) p w x t with
        | none => rw [c] at e; cases e
        | some r =>
          obtain ⟨y, u⟩ := r
          rw [c] at e
          rw [stepT_spec c]
          exact ih e

def looks (p q : Program) (loose : List Str) (Xt : Shared → Bool) (g0 : Bool) (h : Heap) (s : Shared) :=
  (staticsOk (importedModules p.main.body) h s.heap && namesBound p s.heap && gensDone s && laidKept h s.heap, openSeen q loose (importedModules p.main.body) Xt g0 s)

theorem left_of {p q : Program} {loose : List Str} {Xt : Shared → Bool} {α : Type} {Yf : Shared → α} {Ya : World → α} {N M m : Nat} {g0 : Bool} {H : Params → Heap} {T : Params → BT} {life : Life} {gs : Array GenState} {d : Drawn} {k : Nat} {an : Option Value}
    (hO : ∀ w : World, (fencedOpening treeTable p w N).map (fun s => (s.heap, s.gens, s.drawn, s.toks)) = some (H w.params, gs, d, k))
    (hT : ∀ P, absHeap (T P) m life = H P)
    (hS : ∀ w : World, ((H w.params).isNs mainGlobals && gs.size == 0, (H w.params).objs.size, (H w.params).nsMap mainGlobals "__annotations__") = (true, m, an))
    (le : Nat.ble M N = true)
    (run : ∀ (w : World) (os : OsState), (topT treeTable p w m an M ⟨T w.params, m, life, gs, d, k, os⟩ (topStub p)).map (fun s => (looks p q loose Xt g0 (H w.params) s.abs, Yf s.abs)) = some ((true, openGood q loose), Ya w)) :
    LeftO p q loose Xt Yf Ya N g0 := by
  intro w
  obtain ⟨s, a, b⟩ := Option.map_eq_some_iff.mp (hO w)
  obtain ⟨h, gs', d', k', os⟩ := s
  simp only [Prod.mk.injEq] at b
  obtain ⟨rfl, rfl, rfl, rfl⟩ := b
  have z := hS w
  simp only [Prod.mk.injEq] at z
  obtain ⟨z1, z2, z3⟩ := z
  obtain ⟨x, c, e⟩ := Option.map_eq_some_iff.mp (run w os)
  have r := topT_of c
  have ab : (SharedT.mk (T w.params) m life gs' d' k' os).abs = ⟨H w.params, gs', d', k', os⟩ := by
    unfold SharedT.abs
    rw [hT]
  rw [ab] at r
  have r := topRun_mono (N - M) _ _ _ _ r
  rw [show M + (N - M) = N from Nat.add_sub_cancel' (Nat.le_of_ble_eq_true le)] at r
  simp only [looks, Prod.mk.injEq] at e
  obtain ⟨⟨e1, e2⟩, e3⟩ := e
  have t : topFrom treeTable p w N ⟨H w.params, gs', d', k', os⟩ = some x.abs := by
    unfold topFrom
    dsimp only
    rw [z1, z2, z3, r]
    simp only [Option.bind_some, e1]
  unfold openEnds
  rw [a]
  simp only [Option.bind_some, t, Option.map_some, e2, e3]

theorem both {r : OpenRow} {q : Program} {loose : List Str} {d : DefRec} {kwd : List (Str × Expr)} {N : Nat} (H : Hook)
    (h1 : defOf q r.name = some (d, kwd)) (h2 : r.prog.theDef r.name = some (d.params, d.body, d.scope)) (h3 : kwWritten? d.params.kwonlyargs d.params.kw_defaults = some kwd) (h4 : (!r.writes || r.records.isEmpty) = true)
    (h5 : r.wellSaid = true) (h6 : (chainsOk q && opensWell r.prog && (frees r.toRowW && r.within.isEmpty)) = true) (h7 : r.prog.bare) (h8 : r.toRowW.promised)
    (h : LeftO r.prog q loose (fun s => xlAt q [] s && recOk r.records s) H.obs H.val N ∧ WalkO q loose (XL q []) H.says r.toRowW d kwd fun f vs => PySem.call f vs) : r.Holds :=
  holds_open h.1 H.of H.keeps (fun s e => xl_of s (Bool.and_eq_true_iff.mp e).1) XL.keeps h1 h2 h3 (fun s e => recFacts_of (Bool.and_eq_true_iff.mp e).2) h4 h5 h6 h7 h8 h.2

noncomputable def bootT (P : Params) : BT := build 12 (boot_heap P).objs.toList
end Hd
namespace Hd
open PySem PySem.W PyProof.Rows
def q : Program := PySem.W.view PySem.Challenge.pw_ownroom_k01_stores_deed_by_deed [43]
def loose : List Str := [Str.ofString "__name__", Str.ofString "KernelError", Str.ofString "ValueError", Str.ofString "NoOwner", Str.ofString "NoTask", Str.ofString "NoPage", Str.ofString "NoRoom", Str.ofString "Taken", Str.ofString "NoBlock", Str.ofString "Fallen", Str.ofString "BadName", Str.ofString "NoName", Str.ofString "NotDir", Str.ofString "IsDir", Str.ofString "NotEmpty", Str.ofString "Inside", Str.ofString "NoNode", Str.ofString "NoSpace", Str.ofString "TooMany", Str.ofString "TooBig", Str.ofString "NotHeld", Str.ofString "NotAllowed", Str.ofString "NoHandle", Str.ofString "BadMode", Str.ofString "Again", Str.ofString "Broken", Str.ofString "NoChild", Str.ofString "BadCall", Str.ofString "BadRow", Str.ofString "PAGE_CELLS", Str.ofString "Store", Str.ofString "_law_whole", Str.ofString "_law_cell_at", Str.ofString "_law_mix", Str.ofString "_law_numbers", Str.ofString "_law_only", Str.ofString "_law_deeds_by", Str.ofString "_law_is", Str.ofString "_law_taken_down", Str.ofString "_law_done", Str.ofString "_law_refused", Str.ofString "_law_deed"]
local macro_rules | `(tactic| o_head $H) => `(tactic| refine Hd.both (q := Hd.q) (loose := Hd.loose) (N := 100000) $H (by rfl) (by rfl) (by rfl) (by rfl) (by assumption) (by decide +kernel) ⟨rfl, rfl, rfl, rfl, rfl, by decide +kernel⟩ ?$(Lean.mkIdent `hw):ident ?$(Lean.mkIdent `hc):ident)
set_option maxRecDepth 100000 in
set_option maxHeartbeats 0 in
open_top top for PySem.Challenge.rw_ownroom_k01_stores_deed_by_deed
end Hd
set_option maxHeartbeats 0
namespace Hd
open PySem PySem.W PyProof.Rows
def at_ : List Addr := [2, 3, 15, 22, 23, 24, 25, 28, 35, 36, 37, 40, 47, 48, 49, 52, 59, 60, 61, 64, 71, 72, 73, 76, 83, 84, 85, 88, 95, 96, 97, 100, 107, 108, 109, 112, 119, 120, 121, 124, 131, 132, 133, 136, 143, 144, 145, 148, 155, 156, 157, 160, 167, 168, 169, 172, 179, 180, 181, 184, 191, 192, 193, 196, 203, 204, 205, 208, 215, 216, 217, 220, 227, 228, 229, 232, 239, 240, 241, 244, 251, 252, 253, 256, 263, 264, 265, 268, 275, 276, 277, 280, 287, 288, 289, 292, 299, 300, 301, 304, 311, 312, 313, 316, 323, 324, 325, 328, 335, 337, 338, 340, 341, 342, 343, 344, 354, 356, 357, 359, 360, 361, 363, 364, 366, 367, 368, 370, 371, 373, 374, 375, 377, 378, 380, 381, 382, 384, 385, 387, 388, 389, 391, 392, 394, 395, 396, 398, 399, 401, 402, 403, 405, 406, 408, 409, 410, 412, 413, 415, 416, 417, 418, 419, 420, 421, 424, 426, 427, 429, 430, 431, 433, 434, 436, 437, 438, 440, 441, 443, 444, 445, 447, 448, 450, 451, 452, 455, 456, 457, 459, 460, 462, 463, 464, 466, 467, 469, 470, 471, 473, 474, 476, 477, 478, 480, 481, 483, 484, 485, 487, 488, 490, 491, 492, 495, 496, 497, 500, 501]
noncomputable def lhs (w : World) (os : OsState) :=
  (topT treeTable PySem.Challenge.pw_ownroom_k01_stores_deed_by_deed w 11 (some (.ref 6)) 100000 ⟨bootT w.params, 11, {}, Array.mk [], boot_drawn, boot_toks, os⟩ (topStub PySem.Challenge.pw_ownroom_k01_stores_deed_by_deed)).map
    fun s => (looks PySem.Challenge.pw_ownroom_k01_stores_deed_by_deed q loose (fun s => xlAt q [] s && recOk PySem.Challenge.rw_ownroom_k01_stores_deed_by_deed.row.records s) true (boot_heap w.params) s.abs, at_.map s.abs.heap.get?)
noncomputable def rhs (w : World) := some ((true, openGood q loose), (Hd.top.heap_39 w.params).map fun p => some p.2)
theorem lhs_self : lhs = lhs := rfl
theorem rhs_self : rhs = rhs := rfl
name_quick hdL for Hd.lhs by Hd.lhs_self
name_quick hdR for Hd.rhs by Hd.rhs_self
theorem same_ (w : World) (os : OsState) : PySem.W.Fast.hdL w os = PySem.W.Fast.hdR w := by kernel_rfl
theorem run_ (w : World) (os : OsState) : lhs w os = rhs w := ((congrFun (congrFun PySem.W.Fast.hdL_eq w) os).trans (same_ w os)).trans (congrFun PySem.W.Fast.hdR_eq w).symm
end Hd
namespace St
open PySem L2
theorem all_mk {l : PySem.W.OpenLaw} {w : World} {K : PySem.W.Frag} {h : Heap} {mg : Str → Option Value} {fa : Addr} (X : K.In h) (G : h.Ns mainGlobals mg) (hfa : mg "law" = some (.ref fa))
    
    {C : Addr}
    {f1 : Addr} {od1 an1 : Option Addr} {sl1 : Array (Option Value)} {oc1 kV1 dc1 pm1 cd1 ct1 : Value}
    {f2 : Addr} {od2 an2 : Option Addr} {sl2 : Array (Option Value)} {oc2 kV2 dc2 pm2 cd2 ct2 : Value}
    {f3 : Addr} {od3 an3 : Option Addr} {sl3 : Array (Option Value)} {oc3 kV3 dc3 pm3 cd3 ct3 : Value}
    {f4 : Addr} {od4 an4 : Option Addr} {sl4 : Array (Option Value)} {oc4 kV4 dc4 pm4 cd4 ct4 : Value}
    {f5 : Addr} {od5 an5 : Option Addr} {sl5 : Array (Option Value)} {oc5 kV5 dc5 pm5 cd5 ct5 : Value}
    {f6 : Addr} {od6 an6 : Option Addr} {sl6 : Array (Option Value)} {oc6 kV6 dc6 pm6 cd6 ct6 : Value}
    {f7 : Addr} {od7 an7 : Option Addr} {sl7 : Array (Option Value)} {oc7 kV7 dc7 pm7 cd7 ct7 : Value}
    {f8 : Addr} {od8 an8 : Option Addr} {sl8 : Array (Option Value)} {oc8 kV8 dc8 pm8 cd8 ct8 : Value}
    {f9 : Addr} {od9 an9 : Option Addr} {sl9 : Array (Option Value)} {oc9 kV9 dc9 pm9 cd9 ct9 : Value}
    {f10 : Addr} {od10 an10 : Option Addr} {sl10 : Array (Option Value)} {oc10 kV10 dc10 pm10 cd10 ct10 : Value}
    {f11 : Addr} {od11 an11 : Option Addr} {sl11 : Array (Option Value)} {oc11 kV11 dc11 pm11 cd11 ct11 : Value}
    {f12 : Addr} {od12 an12 : Option Addr} {sl12 : Array (Option Value)} {oc12 kV12 dc12 pm12 cd12 ct12 : Value}
    {f13 : Addr} {od13 an13 : Option Addr} {sl13 : Array (Option Value)} {oc13 kV13 dc13 pm13 cd13 ct13 : Value}
    {f14 : Addr} {od14 an14 : Option Addr} {sl14 : Array (Option Value)} {oc14 kV14 dc14 pm14 cd14 ct14 : Value}
    {f15 : Addr} {od15 an15 : Option Addr} {sl15 : Array (Option Value)} {oc15 kV15 dc15 pm15 cd15 ct15 : Value}
    {f16 : Addr} {od16 an16 : Option Addr} {sl16 : Array (Option Value)} {oc16 kV16 dc16 pm16 cd16 ct16 : Value}
    {f17 : Addr} {od17 an17 : Option Addr} {sl17 : Array (Option Value)} {oc17 kV17 dc17 pm17 cd17 ct17 : Value}
    {f18 : Addr} {od18 an18 : Option Addr} {sl18 : Array (Option Value)} {oc18 kV18 dc18 pm18 cd18 ct18 : Value}
    {f19 : Addr} {od19 an19 : Option Addr} {sl19 : Array (Option Value)} {oc19 kV19 dc19 pm19 cd19 ct19 : Value}
    {f20 : Addr} {od20 an20 : Option Addr} {sl20 : Array (Option Value)} {oc20 kV20 dc20 pm20 cd20 ct20 : Value}
    {f21 : Addr} {od21 an21 : Option Addr} {sl21 : Array (Option Value)} {oc21 kV21 dc21 pm21 cd21 ct21 : Value}
    {t8 : Tok}
    {xAgain xBadCall xBadMode xBadName xBadRow xBroken xFallen xInside xIsDir xNoBlock xNoChild xNoHandle xNoName xNoNode xNoOwner xNoPage xNoRoom xNoSpace xNoTask xNotAllowed xNotDir xNotEmpty xNotHeld xTaken xTooBig xTooMany xKernelError : Addr}
    
    (aC : PySem.W.nsIn K mainGlobals "Store" = some (some (.ref C)))
    (a1 : PySem.W.findIn K (.ref C) "__init__" = some (some (.ref f1)))
    (i1 : PySem.W.isFn K (.ref f1) = true)
    (l1 : K.lookup f1 = some ⟨oc1, od1, .func (PySem.W.fnOf "__init__" "Store.__init__" (defArgs sInit) (defBody sInit) (defScope sInit) .none kV1 dc1 pm1 an1 cd1 ct1), sl1⟩)
    (c1 : PySem.W.codeIn K cd1 "Store.__init__" = true)
    (k1 : PySem.W.keepIn K (.ref f1) = true)
    (a2 : PySem.W.findIn K (.ref C) "take" = some (some (.ref f2)))
    (i2 : PySem.W.isFn K (.ref f2) = true)
    (l2 : K.lookup f2 = some ⟨oc2, od2, .func (PySem.W.fnOf "take" "Store.take" (defArgs sTake) (defBody sTake) (defScope sTake) .none kV2 dc2 pm2 an2 cd2 ct2), sl2⟩)
    (c2 : PySem.W.codeIn K cd2 "Store.take" = true)
    (k2 : PySem.W.keepIn K (.ref f2) = true)
    (a3 : PySem.W.findIn K (.ref C) "more" = some (some (.ref f3)))
    (i3 : PySem.W.isFn K (.ref f3) = true)
    (l3 : K.lookup f3 = some ⟨oc3, od3, .func (PySem.W.fnOf "more" "Store.more" (defArgs sMore) (defBody sMore) (defScope sMore) .none kV3 dc3 pm3 an3 cd3 ct3), sl3⟩)
    (c3 : PySem.W.codeIn K cd3 "Store.more" = true)
    (k3 : PySem.W.keepIn K (.ref f3) = true)
    (a4 : PySem.W.findIn K (.ref C) "less" = some (some (.ref f4)))
    (i4 : PySem.W.isFn K (.ref f4) = true)
    (l4 : K.lookup f4 = some ⟨oc4, od4, .func (PySem.W.fnOf "less" "Store.less" (defArgs sLess) (defBody sLess) (defScope sLess) .none kV4 dc4 pm4 an4 cd4 ct4), sl4⟩)
    (c4 : PySem.W.codeIn K cd4 "Store.less" = true)
    (k4 : PySem.W.keepIn K (.ref f4) = true)
    (a5 : PySem.W.findIn K (.ref C) "count" = some (some (.ref f5)))
    (i5 : PySem.W.isFn K (.ref f5) = true)
    (l5 : K.lookup f5 = some ⟨oc5, od5, .func (PySem.W.fnOf "count" "Store.count" (defArgs sCount) (defBody sCount) (defScope sCount) .none kV5 dc5 pm5 an5 cd5 ct5), sl5⟩)
    (c5 : PySem.W.codeIn K cd5 "Store.count" = true)
    (k5 : PySem.W.keepIn K (.ref f5) = true)
    (a6 : PySem.W.findIn K (.ref C) "cells" = some (some (.ref f6)))
    (i6 : PySem.W.isFn K (.ref f6) = true)
    (l6 : K.lookup f6 = some ⟨oc6, od6, .func (PySem.W.fnOf "cells" "Store.cells" (defArgs sCells) (defBody sCells) (defScope sCells) .none kV6 dc6 pm6 an6 cd6 ct6), sl6⟩)
    (c6 : PySem.W.codeIn K cd6 "Store.cells" = true)
    (k6 : PySem.W.keepIn K (.ref f6) = true)
    (a7 : PySem.W.findIn K (.ref C) "put" = some (some (.ref f7)))
    (i7 : PySem.W.isFn K (.ref f7) = true)
    (l7 : K.lookup f7 = some ⟨oc7, od7, .func (PySem.W.fnOf "put" "Store.put" (defArgs sPut) (defBody sPut) (defScope sPut) .none kV7 dc7 pm7 an7 cd7 ct7), sl7⟩)
    (c7 : PySem.W.codeIn K cd7 "Store.put" = true)
    (k7 : PySem.W.keepIn K (.ref f7) = true)
    (a8 : PySem.W.findIn K (.ref C) "free" = some (some (.ref f8)))
    (i8 : PySem.W.isFn K (.ref f8) = true)
    (l8 : K.lookup f8 = some ⟨oc8, od8, .func (PySem.W.fnOf "free" "Store.free" (defArgs sFree) (defBody sFree) (defScope sFree) .none kV8 dc8 pm8 an8 cd8 ct8), sl8⟩)
    (c8 : PySem.W.codeIn K cd8 "Store.free" = true)
    (k8 : PySem.W.keepIn K (.ref f8) = true)
    (a9 : PySem.W.findIn K (.ref C) "refuse_free" = some (some (.ref f9)))
    (i9 : PySem.W.isFn K (.ref f9) = true)
    (l9 : K.lookup f9 = some ⟨oc9, od9, .func (PySem.W.fnOf "refuse_free" "Store.refuse_free" (defArgs sRefuse) (defBody sRefuse) (defScope sRefuse) .none kV9 dc9 pm9 an9 cd9 ct9), sl9⟩)
    (c9 : PySem.W.codeIn K cd9 "Store.refuse_free" = true)
    (k9 : PySem.W.keepIn K (.ref f9) = true)
    (pgC : PySem.W.plainGet K C Str.empty = true)
    (hdC : PySem.W.hasDictIn K C = true)
    (poC : PySem.W.plainOver K C = true)
    (saC : PySem.W.findIn K (.ref C) "__setattr__" = some (some (.builtin "object.__setattr__")))
    (mkC : PySem.W.makesIn K C = true)
    (kcC : PySem.W.keepIn K (.ref C) = true)
    (nC0 : PySem.W.findIn K (.ref C) "owners" = some none)
    (nC1 : PySem.W.findIn K (.ref C) "contents" = some none)
    (a10 : PySem.W.nsIn K mainGlobals "_law_whole" = some (some (.ref f10)))
    (l10 : K.lookup f10 = some ⟨oc10, od10, .func (PySem.W.fnOf "_law_whole" "_law_whole" (defArgs sWhole) (defBody sWhole) (defScope sWhole) .none kV10 dc10 pm10 an10 cd10 ct10), sl10⟩)
    (c10 : PySem.W.codeIn K cd10 "_law_whole" = true)
    (k10 : PySem.W.keepIn K (.ref f10) = true)
    (a11 : PySem.W.nsIn K mainGlobals "_law_cell_at" = some (some (.ref f11)))
    (l11 : K.lookup f11 = some ⟨oc11, od11, .func (PySem.W.fnOf "_law_cell_at" "_law_cell_at" (defArgs sCellAt) (defBody sCellAt) (defScope sCellAt) .none kV11 dc11 pm11 an11 cd11 ct11), sl11⟩)
    (c11 : PySem.W.codeIn K cd11 "_law_cell_at" = true)
    (k11 : PySem.W.keepIn K (.ref f11) = true)
    (a12 : PySem.W.nsIn K mainGlobals "_law_mix" = some (some (.ref f12)))
    (l12 : K.lookup f12 = some ⟨oc12, od12, .func (PySem.W.fnOf "_law_mix" "_law_mix" (defArgs sMix) (defBody sMix) (defScope sMix) .none kV12 dc12 pm12 an12 cd12 ct12), sl12⟩)
    (c12 : PySem.W.codeIn K cd12 "_law_mix" = true)
    (k12 : PySem.W.keepIn K (.ref f12) = true)
    (a13 : PySem.W.nsIn K mainGlobals "_law_numbers" = some (some (.ref f13)))
    (l13 : K.lookup f13 = some ⟨oc13, od13, .func (PySem.W.fnOf "_law_numbers" "_law_numbers" (defArgs sNumbers) (defBody sNumbers) (defScope sNumbers) .none kV13 dc13 pm13 an13 cd13 ct13), sl13⟩)
    (c13 : PySem.W.codeIn K cd13 "_law_numbers" = true)
    (k13 : PySem.W.keepIn K (.ref f13) = true)
    (a14 : PySem.W.nsIn K mainGlobals "_law_only" = some (some (.ref f14)))
    (l14 : K.lookup f14 = some ⟨oc14, od14, .func (PySem.W.fnOf "_law_only" "_law_only" (defArgs sOnly) (defBody sOnly) (defScope sOnly) .none kV14 dc14 pm14 an14 cd14 ct14), sl14⟩)
    (c14 : PySem.W.codeIn K cd14 "_law_only" = true)
    (k14 : PySem.W.keepIn K (.ref f14) = true)
    (a15 : PySem.W.nsIn K mainGlobals "_law_deeds_by" = some (some (.ref f15)))
    (l15 : K.lookup f15 = some ⟨oc15, od15, .func (PySem.W.fnOf "_law_deeds_by" "_law_deeds_by" (defArgs sDeedsBy) (defBody sDeedsBy) (defScope sDeedsBy) .none kV15 dc15 pm15 an15 cd15 ct15), sl15⟩)
    (c15 : PySem.W.codeIn K cd15 "_law_deeds_by" = true)
    (k15 : PySem.W.keepIn K (.ref f15) = true)
    (a16 : PySem.W.nsIn K mainGlobals "_law_is" = some (some (.ref f16)))
    (l16 : K.lookup f16 = some ⟨oc16, od16, .func (PySem.W.fnOf "_law_is" "_law_is" (defArgs sIs) (defBody sIs) (defScope sIs) .none kV16 dc16 pm16 an16 cd16 ct16), sl16⟩)
    (c16 : PySem.W.codeIn K cd16 "_law_is" = true)
    (k16 : PySem.W.keepIn K (.ref f16) = true)
    (a17 : PySem.W.nsIn K mainGlobals "_law_taken_down" = some (some (.ref f17)))
    (l17 : K.lookup f17 = some ⟨oc17, od17, .func (PySem.W.fnOf "_law_taken_down" "_law_taken_down" (defArgs sTakenDown) (defBody sTakenDown) (defScope sTakenDown) .none kV17 dc17 pm17 an17 cd17 ct17), sl17⟩)
    (c17 : PySem.W.codeIn K cd17 "_law_taken_down" = true)
    (k17 : PySem.W.keepIn K (.ref f17) = true)
    (a18 : PySem.W.nsIn K mainGlobals "_law_done" = some (some (.ref f18)))
    (l18 : K.lookup f18 = some ⟨oc18, od18, .func (PySem.W.fnOf "_law_done" "_law_done" (defArgs sDone) (defBody sDone) (defScope sDone) .none kV18 dc18 pm18 an18 cd18 ct18), sl18⟩)
    (c18 : PySem.W.codeIn K cd18 "_law_done" = true)
    (k18 : PySem.W.keepIn K (.ref f18) = true)
    (a19 : PySem.W.nsIn K mainGlobals "_law_refused" = some (some (.ref f19)))
    (l19 : K.lookup f19 = some ⟨oc19, od19, .func (PySem.W.fnOf "_law_refused" "_law_refused" (defArgs sRefused) (defBody sRefused) (defScope sRefused) .none kV19 dc19 pm19 an19 cd19 ct19), sl19⟩)
    (c19 : PySem.W.codeIn K cd19 "_law_refused" = true)
    (k19 : PySem.W.keepIn K (.ref f19) = true)
    (a20 : PySem.W.nsIn K mainGlobals "_law_deed" = some (some (.ref f20)))
    (l20 : K.lookup f20 = some ⟨oc20, od20, .func (PySem.W.fnOf "_law_deed" "_law_deed" (defArgs sDeed) (defBody sDeed) (defScope sDeed) .none kV20 dc20 pm20 an20 cd20 ct20), sl20⟩)
    (c20 : PySem.W.codeIn K cd20 "_law_deed" = true)
    (k20 : PySem.W.keepIn K (.ref f20) = true)
    (a21 : PySem.W.nsIn K mainGlobals "law" = some (some (.ref f21)))
    (l21 : K.lookup f21 = some ⟨oc21, od21, .func (PySem.W.fnOf "law" "law" (defArgs sLaw) (defBody sLaw) (defScope sLaw) .none kV21 dc21 pm21 an21 cd21 ct21), sl21⟩)
    (c21 : PySem.W.codeIn K cd21 "law" = true)
    (k21 : PySem.W.keepIn K (.ref f21) = true)
    (q0 : PySem.W.nsIn K mainGlobals "PAGE_CELLS" = some (some (.int 8 t8)))
    (z_len : PySem.W.nsIn K mainGlobals "len" = some none)
    (z_list : PySem.W.nsIn K mainGlobals "list" = some none)
    (z_isinstance : PySem.W.nsIn K mainGlobals "isinstance" = some none)
    (z_int : PySem.W.nsIn K mainGlobals "int" = some none)
    (z_bool : PySem.W.nsIn K mainGlobals "bool" = some none)
    (z_range : PySem.W.nsIn K mainGlobals "range" = some none)
    (z_max : PySem.W.nsIn K mainGlobals "max" = some none)
    (z_ValueError : PySem.W.nsIn K mainGlobals "ValueError" = some none)
    (yAgain : PySem.W.nsIn K mainGlobals "Again" = some (some (.ref xAgain)))
    (yBadCall : PySem.W.nsIn K mainGlobals "BadCall" = some (some (.ref xBadCall)))
    (yBadMode : PySem.W.nsIn K mainGlobals "BadMode" = some (some (.ref xBadMode)))
    (yBadName : PySem.W.nsIn K mainGlobals "BadName" = some (some (.ref xBadName)))
    (yBadRow : PySem.W.nsIn K mainGlobals "BadRow" = some (some (.ref xBadRow)))
    (yBroken : PySem.W.nsIn K mainGlobals "Broken" = some (some (.ref xBroken)))
    (yFallen : PySem.W.nsIn K mainGlobals "Fallen" = some (some (.ref xFallen)))
    (yInside : PySem.W.nsIn K mainGlobals "Inside" = some (some (.ref xInside)))
    (yIsDir : PySem.W.nsIn K mainGlobals "IsDir" = some (some (.ref xIsDir)))
    (yNoBlock : PySem.W.nsIn K mainGlobals "NoBlock" = some (some (.ref xNoBlock)))
    (yNoChild : PySem.W.nsIn K mainGlobals "NoChild" = some (some (.ref xNoChild)))
    (yNoHandle : PySem.W.nsIn K mainGlobals "NoHandle" = some (some (.ref xNoHandle)))
    (yNoName : PySem.W.nsIn K mainGlobals "NoName" = some (some (.ref xNoName)))
    (yNoNode : PySem.W.nsIn K mainGlobals "NoNode" = some (some (.ref xNoNode)))
    (yNoOwner : PySem.W.nsIn K mainGlobals "NoOwner" = some (some (.ref xNoOwner)))
    (yNoPage : PySem.W.nsIn K mainGlobals "NoPage" = some (some (.ref xNoPage)))
    (yNoRoom : PySem.W.nsIn K mainGlobals "NoRoom" = some (some (.ref xNoRoom)))
    (yNoSpace : PySem.W.nsIn K mainGlobals "NoSpace" = some (some (.ref xNoSpace)))
    (yNoTask : PySem.W.nsIn K mainGlobals "NoTask" = some (some (.ref xNoTask)))
    (yNotAllowed : PySem.W.nsIn K mainGlobals "NotAllowed" = some (some (.ref xNotAllowed)))
    (yNotDir : PySem.W.nsIn K mainGlobals "NotDir" = some (some (.ref xNotDir)))
    (yNotEmpty : PySem.W.nsIn K mainGlobals "NotEmpty" = some (some (.ref xNotEmpty)))
    (yNotHeld : PySem.W.nsIn K mainGlobals "NotHeld" = some (some (.ref xNotHeld)))
    (yTaken : PySem.W.nsIn K mainGlobals "Taken" = some (some (.ref xTaken)))
    (yTooBig : PySem.W.nsIn K mainGlobals "TooBig" = some (some (.ref xTooBig)))
    (yTooMany : PySem.W.nsIn K mainGlobals "TooMany" = some (some (.ref xTooMany)))
    (yKernelError : PySem.W.nsIn K mainGlobals "KernelError" = some (some (.ref xKernelError)))
    (vAgain : PySem.W.kitOne K (.ref xNoOwner) (.ref xAgain) = some false)
    (vBadCall : PySem.W.kitOne K (.ref xNoOwner) (.ref xBadCall) = some false)
    (vBadMode : PySem.W.kitOne K (.ref xNoOwner) (.ref xBadMode) = some false)
    (vBadName : PySem.W.kitOne K (.ref xNoOwner) (.ref xBadName) = some false)
    (vBadRow : PySem.W.kitOne K (.ref xNoOwner) (.ref xBadRow) = some false)
    (vBroken : PySem.W.kitOne K (.ref xNoOwner) (.ref xBroken) = some false)
    (vFallen : PySem.W.kitOne K (.ref xNoOwner) (.ref xFallen) = some false)
    (vInside : PySem.W.kitOne K (.ref xNoOwner) (.ref xInside) = some false)
    (vIsDir : PySem.W.kitOne K (.ref xNoOwner) (.ref xIsDir) = some false)
    (vNoBlock : PySem.W.kitOne K (.ref xNoOwner) (.ref xNoBlock) = some false)
    (vNoChild : PySem.W.kitOne K (.ref xNoOwner) (.ref xNoChild) = some false)
    (vNoHandle : PySem.W.kitOne K (.ref xNoOwner) (.ref xNoHandle) = some false)
    (vNoName : PySem.W.kitOne K (.ref xNoOwner) (.ref xNoName) = some false)
    (vNoNode : PySem.W.kitOne K (.ref xNoOwner) (.ref xNoNode) = some false)
    (vNoOwner : PySem.W.kitOne K (.ref xNoOwner) (.ref xNoOwner) = some true)
    (vNoPage : PySem.W.kitOne K (.ref xNoOwner) (.ref xNoPage) = some false)
    (vNoRoom : PySem.W.kitOne K (.ref xNoOwner) (.ref xNoRoom) = some false)
    (vNoSpace : PySem.W.kitOne K (.ref xNoOwner) (.ref xNoSpace) = some false)
    (vNoTask : PySem.W.kitOne K (.ref xNoOwner) (.ref xNoTask) = some false)
    (vNotAllowed : PySem.W.kitOne K (.ref xNoOwner) (.ref xNotAllowed) = some false)
    (vNotDir : PySem.W.kitOne K (.ref xNoOwner) (.ref xNotDir) = some false)
    (vNotEmpty : PySem.W.kitOne K (.ref xNoOwner) (.ref xNotEmpty) = some false)
    (vNotHeld : PySem.W.kitOne K (.ref xNoOwner) (.ref xNotHeld) = some false)
    (vTaken : PySem.W.kitOne K (.ref xNoOwner) (.ref xTaken) = some false)
    (vTooBig : PySem.W.kitOne K (.ref xNoOwner) (.ref xTooBig) = some false)
    (vTooMany : PySem.W.kitOne K (.ref xNoOwner) (.ref xTooMany) = some false)
    (vKernelError : PySem.W.kitOne K (.ref xNoOwner) (.ref xKernelError) = some true)
    (vVE : PySem.W.kitOne K (.ref xNoOwner) (.type "ValueError") = some true)
    (vEx : PySem.W.excIn K xNoOwner veMro "ValueError.__new__" = true)
    (vEm : PySem.W.exmOne K (.ref xNoOwner) (.ref xKernelError) = some true)
    (uOb : PySem.W.mroIn K xNoOwner (.type "object") = some true)
    (uBe : PySem.W.mroIn K xNoOwner (.type "BaseException") = some true)
    (uGa : PySem.W.findIn K (.ref xNoOwner) "__getattribute__" = some (some (.builtin "BaseException.__getattribute__")))
    (uGb : PySem.W.findIn K (.ref xNoOwner) "__getattr__" = some none)
    (uCc : PySem.W.findIn K (.ref xNoOwner) "__class__" = some (some (.builtin "object.__class__")))
    (uCg : PySem.W.specialIn K (.builtin "object.__class__") "__get__" = some (some (.builtin "getset_descriptor.__get__")))
    (uCt : PySem.W.takesIn K (.builtin "object.__class__") = some true) :
    ∃ fd : FuncData, (∀ (s : Shared) (v : Value), BindsTo s fd ⟨[v], []⟩ [("_law_script", v)]) ∧ ∀ base : Heap, K.In base → base.Ns mainGlobals mg → FnOk l.prog w K mg base CX0 7 fa fd ["_law_script"] (spLaw K) := by
  have e := hfa.symm.trans (PySem.W.mg_of X G a21)
  cases e
  have F1 := fun_mk (st := sInit) l1 c1 k1
  have F2 := fun_mk (st := sTake) l2 c2 k2
  have F3 := fun_mk (st := sMore) l3 c3 k3
  have F4 := fun_mk (st := sLess) l4 c4 k4
  have F5 := fun_mk (st := sCount) l5 c5 k5
  have F6 := fun_mk (st := sCells) l6 c6 k6
  have F7 := fun_mk (st := sPut) l7 c7 k7
  have F8 := fun_mk (st := sFree) l8 c8 k8
  have F9 := fun_mk (st := sRefuse) l9 c9 k9
  have F10 := fun_mk (st := sWhole) l10 c10 k10
  have F11 := fun_mk (st := sCellAt) l11 c11 k11
  have F12 := fun_mk (st := sMix) l12 c12 k12
  have F13 := fun_mk (st := sNumbers) l13 c13 k13
  have F14 := fun_mk (st := sOnly) l14 c14 k14
  have F15 := fun_mk (st := sDeedsBy) l15 c15 k15
  have F16 := fun_mk (st := sIs) l16 c16 k16
  have F17 := fun_mk (st := sTakenDown) l17 c17 k17
  have F18 := fun_mk (st := sDone) l18 c18 k18
  have F19 := fun_mk (st := sRefused) l19 c19 k19
  have F20 := fun_mk (st := sDeed) l20 c20 k20
  have F21 := fun_mk (st := sLaw) l21 c21 k21
  have b1 := F1.binds (ps := ["self", "many"]) fun _ _ _ _ _ _ us hl => match us, hl with | [_, _], _ => rfl
  have b2 := F2.binds (ps := ["self"]) fun _ _ _ _ _ _ us hl => match us, hl with | [_], _ => rfl
  have b3 := F3.binds (ps := ["self", "n"]) fun _ _ _ _ _ _ us hl => match us, hl with | [_, _], _ => rfl
  have b4 := F4.binds (ps := ["self", "n"]) fun _ _ _ _ _ _ us hl => match us, hl with | [_, _], _ => rfl
  have b5 := F5.binds (ps := ["self", "n"]) fun _ _ _ _ _ _ us hl => match us, hl with | [_, _], _ => rfl
  have b6 := F6.binds (ps := ["self", "n"]) fun _ _ _ _ _ _ us hl => match us, hl with | [_, _], _ => rfl
  have b7 := F7.binds (ps := ["self", "n", "cells"]) fun _ _ _ _ _ _ us hl => match us, hl with | [_, _, _], _ => rfl
  have b8 := F8.binds (ps := ["self"]) fun _ _ _ _ _ _ us hl => match us, hl with | [_], _ => rfl
  have b9 := F9.binds (ps := ["self", "n"]) fun _ _ _ _ _ _ us hl => match us, hl with | [_, _], _ => rfl
  have b10 := F10.binds (ps := ["_law_found"]) fun _ _ _ _ _ _ us hl => match us, hl with | [_], _ => rfl
  have b11 := F11.binds (ps := ["_law_script", "_law_k"]) fun _ _ _ _ _ _ us hl => match us, hl with | [_, _], _ => rfl
  have b12 := F12.binds (ps := ["_law_cell", "_law_factor", "_law_prime"]) fun _ _ _ _ _ _ us hl => match us, hl with | [_, _, _], _ => rfl
  have b13 := F13.binds (ps := ["_law_found", "_law_due"]) fun _ _ _ _ _ _ us hl => match us, hl with | [_, _], _ => rfl
  have b14 := F14.binds (ps := ["_law_caught", "_law_due"]) fun _ _ _ _ _ _ us hl => match us, hl with | [_, _], _ => rfl
  have b15 := F15.binds (ps := ["_law_script", "_law_many"]) fun _ _ _ _ _ _ us hl => match us, hl with | [_, _], _ => rfl
  have b16 := F16.binds (ps := ["_law_found", "_law_due"]) fun _ _ _ _ _ _ us hl => match us, hl with | [_, _], _ => rfl
  have b17 := F17.binds (ps := ["_law_store", "_law_counts", "_law_contents"]) fun _ _ _ _ _ _ us hl => match us, hl with | [_, _, _], _ => rfl
  have b18 := F18.binds (ps := ["_law_store", "_law_what", "_law_page", "_law_value"]) fun _ _ _ _ _ _ us hl => match us, hl with | [_, _, _, _], _ => rfl
  have b19 := F19.binds (ps := ["_law_store", "_law_what", "_law_page", "_law_value"]) fun _ _ _ _ _ _ us hl => match us, hl with | [_, _, _, _], _ => rfl
  have b20 := F20.binds (ps := ["_law_store", "_law_deed_here", "_law_counts", "_law_contents"]) fun _ _ _ _ _ _ us hl => match us, hl with | [_, _, _, _], _ => rfl
  have T : Txt K mg C := ⟨⟨pgC, hdC, poC, saC⟩, nC0, nC1, PySem.W.mg_none_of X G z_len, PySem.W.mg_none_of X G z_list, ⟨_, PySem.W.mg_of X G q0, ⟨_, rfl⟩⟩⟩
  have LT : LTxt mg := ⟨PySem.W.mg_none_of X G z_isinstance, PySem.W.mg_none_of X G z_int, PySem.W.mg_none_of X G z_bool, PySem.W.mg_none_of X G z_list, PySem.W.mg_none_of X G z_len, PySem.W.mg_none_of X G z_range, PySem.W.mg_none_of X G z_max⟩
  have XT : XTxt K mg xNoOwner := ⟨PySem.W.mg_of X G yNoOwner, vEx⟩
  have OT : OTxt K mg xNoOwner := ⟨⟨uOb, uBe, uGa, uGb, uCc, uCg, uCt⟩, PySem.W.mg_none_of X G z_ValueError, vVE, ⟨_, PySem.W.mg_of X G yKernelError, vKernelError⟩, ⟨_, PySem.W.mg_of X G yAgain, vAgain⟩, ⟨_, PySem.W.mg_of X G yBadCall, vBadCall⟩, ⟨_, PySem.W.mg_of X G yBadMode, vBadMode⟩, ⟨_, PySem.W.mg_of X G yBadName, vBadName⟩, ⟨_, PySem.W.mg_of X G yBadRow, vBadRow⟩, ⟨_, PySem.W.mg_of X G yBroken, vBroken⟩, ⟨_, PySem.W.mg_of X G yFallen, vFallen⟩, ⟨_, PySem.W.mg_of X G yInside, vInside⟩, ⟨_, PySem.W.mg_of X G yIsDir, vIsDir⟩, ⟨_, PySem.W.mg_of X G yNoBlock, vNoBlock⟩, ⟨_, PySem.W.mg_of X G yNoChild, vNoChild⟩, ⟨_, PySem.W.mg_of X G yNoHandle, vNoHandle⟩, ⟨_, PySem.W.mg_of X G yNoName, vNoName⟩, ⟨_, PySem.W.mg_of X G yNoNode, vNoNode⟩, ⟨_, PySem.W.mg_of X G yNoOwner, vNoOwner⟩, ⟨_, PySem.W.mg_of X G yNoPage, vNoPage⟩, ⟨_, PySem.W.mg_of X G yNoRoom, vNoRoom⟩, ⟨_, PySem.W.mg_of X G yNoSpace, vNoSpace⟩, ⟨_, PySem.W.mg_of X G yNoTask, vNoTask⟩, ⟨_, PySem.W.mg_of X G yNotAllowed, vNotAllowed⟩, ⟨_, PySem.W.mg_of X G yNotDir, vNotDir⟩, ⟨_, PySem.W.mg_of X G yNotEmpty, vNotEmpty⟩, ⟨_, PySem.W.mg_of X G yNotHeld, vNotHeld⟩, ⟨_, PySem.W.mg_of X G yTaken, vTaken⟩, ⟨_, PySem.W.mg_of X G yTooBig, vTooBig⟩, ⟨_, PySem.W.mg_of X G yTooMany, vTooMany⟩⟩
  refine ⟨PySem.W.fnOf "law" "law" (defArgs sLaw) (defBody sLaw) (defScope sLaw) .none kV21 dc21 pm21 an21 cd21 ct21, fun s v => .of_eq rfl, fun base _ _ => ?_⟩
  have GC := ok_count (P := l.prog) (w := w) (base := base) F5 T
  have GR := ok_refuse (P := l.prog) (w := w) (base := base) F9 T XT GC b5 ⟨a5, i5, k5⟩
  have GL := ok_less F4 T GR b9 ⟨a9, i9, k9⟩
  have GMo := ok_more F3 T GR b9 ⟨a9, i9, k9⟩
  have GE := ok_cells F6 T GR b9 ⟨a9, i9, k9⟩
  have GP := ok_put F7 T GR b9 ⟨a9, i9, k9⟩
  have GT := ok_take (P := l.prog) (w := w) (base := base) F2 T
  have GF := ok_free (P := l.prog) (w := w) (base := base) F8 T
  have GW := ok_whole (P := l.prog) (w := w) (base := base) F10 LT
  have GN := ok_numbers F13 LT GW ⟨PySem.W.mg_of X G a10, k10, b10⟩
  have GM := ok_mix (P := l.prog) (w := w) (base := base) (mg := mg) F12
  have GA := ok_cellAt (P := l.prog) (w := w) (base := base) F11 LT
  have GD := ok_deedsBy F15 LT GA ⟨PySem.W.mg_of X G a11, k11, b11⟩ GM ⟨PySem.W.mg_of X G a12, k12, b12⟩
  have GIs := ok_is F16 LT GW ⟨PySem.W.mg_of X G a10, k10, b10⟩
  have GO := ok_only (P := l.prog) (w := w) (base := base) F14 LT OT
  have GTd := ok_takenDown F17 LT T GT b2 ⟨a2, i2, k2⟩ GIs ⟨PySem.W.mg_of X G a16, k16, b16⟩
  have GDo := ok_done F18 LT T GMo b3 ⟨a3, i3, k3⟩ GL b4 ⟨a4, i4, k4⟩ GP b7 ⟨a7, i7, k7⟩ GE b6 ⟨a6, i6, k6⟩
  have GRf := ok_refused F19 LT (PySem.W.mg_of X G yKernelError) vEm GDo ⟨PySem.W.mg_of X G a18, k18, b18⟩ GO ⟨PySem.W.mg_of X G a14, k14, b14⟩
  have GDe := ok_deed F20 LT T GTd ⟨PySem.W.mg_of X G a17, k17, b17⟩ GIs ⟨PySem.W.mg_of X G a16, k16, b16⟩ GF b8 ⟨a8, i8, k8⟩ GC b5 ⟨a5, i5, k5⟩ GRf ⟨PySem.W.mg_of X G a19, k19, b19⟩ GDo ⟨PySem.W.mg_of X G a18, k18, b18⟩ GN ⟨PySem.W.mg_of X G a13, k13, b13⟩
  exact ok_law F21 LT T (PySem.W.mg_of X G aC) ⟨mkC, a1, i1, kcC⟩ (ok_init F1 T) b1
    GA ⟨PySem.W.mg_of X G a11, k11, b11⟩ GD ⟨PySem.W.mg_of X G a15, k15, b15⟩ GDe ⟨PySem.W.mg_of X G a20, k20, b20⟩ GIs ⟨PySem.W.mg_of X G a16, k16, b16⟩ GC b5 ⟨a5, i5, k5⟩ GE b6 ⟨a6, i6, k6⟩ GN ⟨PySem.W.mg_of X G a13, k13, b13⟩ GF b8 ⟨a8, i8, k8⟩
theorem walk {l : PySem.W.OpenLaw} {q : Program} {loose : List Str} {XP : (Str → Option Value) → Heap → Prop} {YP : World → Heap → Prop} {d : DefRec} {K : Params → PySem.W.Frag} (hn : l.most = some 63) (hdf : d.params.defaults = [])
    (hY : ∀ (w : World) (h : Heap), YP w h → (K w.params).In h)
    (F : ∀ (w : World) (mg : Str → Option Value) (fa : Addr) (h : Heap), (K w.params).In h → h.Ns mainGlobals mg → mg d.name = some (.ref fa) →
      ∃ fd : FuncData, (∀ (s : Shared) (u : Value), BindsTo s fd ⟨[u], []⟩ [("_law_script", u)]) ∧ ∀ base : Heap, (K w.params).In base → base.Ns mainGlobals mg → FnOk l.prog w (K w.params) mg base CX0 7 fa fd ["_law_script"] (spLaw (K w.params))) :
    PySem.W.WalkO q loose XP YP l.row.toRowW d [] (fun f vs => PySem.call f vs) :=
  L2.walk_of (n := 63) (k := 7) (x := "_law_script") (CX := fun _ => CX0) (sp := fun w => spLaw (K w.params)) hn (by decide) hdf ⟨rfl, by decide, by decide⟩ hY F (fun _ _ a ns hl _ hS => ⟨a, ns, rfl, hS, hl, fun _ => rfl⟩) fun _ _ _ _ _ z => z
end St
open PySem PySem.W PyProof.Rows
set_option maxRecDepth 100000 in
set_option maxHeartbeats 0 in
theorem PySem.Challenge.cw_ownroom_k01_stores_deed_by_deed_holds : PySem.Challenge.rw_ownroom_k01_stores_deed_by_deed.Holds := by
  refine Hd.top ⟨Hd.left_of (H := boot_heap) (T := Hd.bootT) (life := {}) (m := 11) (M := 100000) (gs := Array.mk []) (d := boot_drawn) (k := boot_toks) (an := some (.ref 6)) (boot_open (by kernel_rfl) (by decide) (fun s => by kernel_rfl)) (fun P => by kernel_rfl) (fun w => by kernel_rfl) (by decide) (fun w os => Hd.run_ w os), ?_⟩
  k_fill
  refine St.walk (l := PySem.Challenge.rw_ownroom_k01_stores_deed_by_deed) rfl rfl (fun w h Y => PySem.W.kIn_of Y) ?F
  case F =>
    intro w mg fa h KX G hmg
    refine' St.all_mk KX G hmg ?aC ?a1 ?i1 ?l1 ?c1 ?k1 ?a2 ?i2 ?l2 ?c2 ?k2 ?a3 ?i3 ?l3 ?c3 ?k3 ?a4 ?i4 ?l4 ?c4 ?k4 ?a5 ?i5 ?l5 ?c5 ?k5 ?a6 ?i6 ?l6 ?c6 ?k6 ?a7 ?i7 ?l7 ?c7 ?k7 ?a8 ?i8 ?l8 ?c8 ?k8 ?a9 ?i9 ?l9 ?c9 ?k9 ?pgC ?hdC ?poC ?saC ?mkC ?kcC ?nC0 ?nC1 ?a10 ?l10 ?c10 ?k10 ?a11 ?l11 ?c11 ?k11 ?a12 ?l12 ?c12 ?k12 ?a13 ?l13 ?c13 ?k13 ?a14 ?l14 ?c14 ?k14 ?a15 ?l15 ?c15 ?k15 ?a16 ?l16 ?c16 ?k16 ?a17 ?l17 ?c17 ?k17 ?a18 ?l18 ?c18 ?k18 ?a19 ?l19 ?c19 ?k19 ?a20 ?l20 ?c20 ?k20 ?a21 ?l21 ?c21 ?k21 ?q0 ?z_len ?z_list ?z_isinstance ?z_int ?z_bool ?z_range ?z_max ?z_ValueError ?yAgain ?yBadCall ?yBadMode ?yBadName ?yBadRow ?yBroken ?yFallen ?yInside ?yIsDir ?yNoBlock ?yNoChild ?yNoHandle ?yNoName ?yNoNode ?yNoOwner ?yNoPage ?yNoRoom ?yNoSpace ?yNoTask ?yNotAllowed ?yNotDir ?yNotEmpty ?yNotHeld ?yTaken ?yTooBig ?yTooMany ?yKernelError ?vAgain ?vBadCall ?vBadMode ?vBadName ?vBadRow ?vBroken ?vFallen ?vInside ?vIsDir ?vNoBlock ?vNoChild ?vNoHandle ?vNoName ?vNoNode ?vNoOwner ?vNoPage ?vNoRoom ?vNoSpace ?vNoTask ?vNotAllowed ?vNotDir ?vNotEmpty ?vNotHeld ?vTaken ?vTooBig ?vTooMany ?vKernelError ?vVE ?vEx ?vEm ?uOb ?uBe ?uGa ?uGb ?uCc ?uCg ?uCt
    (case aC => k_is)
    (case a1 => k_is)
    (case i1 => k_is)
    (case l1 => k_is)
    (case c1 => k_is)
    (case k1 => k_is)
    (case a2 => k_is)
    (case i2 => k_is)
    (case l2 => k_is)
    (case c2 => k_is)
    (case k2 => k_is)
    (case a3 => k_is)
    (case i3 => k_is)
    (case l3 => k_is)
    (case c3 => k_is)
    (case k3 => k_is)
    (case a4 => k_is)
    (case i4 => k_is)
    (case l4 => k_is)
    (case c4 => k_is)
    (case k4 => k_is)
    (case a5 => k_is)
    (case i5 => k_is)
    (case l5 => k_is)
    (case c5 => k_is)
    (case k5 => k_is)
    (case a6 => k_is)
    (case i6 => k_is)
    (case l6 => k_is)
    (case c6 => k_is)
    (case k6 => k_is)
    (case a7 => k_is)
    (case i7 => k_is)
    (case l7 => k_is)
    (case c7 => k_is)
    (case k7 => k_is)
    (case a8 => k_is)
    (case i8 => k_is)
    (case l8 => k_is)
    (case c8 => k_is)
    (case k8 => k_is)
    (case a9 => k_is)
    (case i9 => k_is)
    (case l9 => k_is)
    (case c9 => k_is)
    (case k9 => k_is)
    (case pgC => k_is)
    (case hdC => k_is)
    (case poC => k_is)
    (case saC => k_is)
    (case mkC => k_is)
    (case kcC => k_is)
    (case nC0 => k_is)
    (case nC1 => k_is)
    (case a10 => k_is)
    (case l10 => k_is)
    (case c10 => k_is)
    (case k10 => k_is)
    (case a11 => k_is)
    (case l11 => k_is)
    (case c11 => k_is)
    (case k11 => k_is)
    (case a12 => k_is)
    (case l12 => k_is)
    (case c12 => k_is)
    (case k12 => k_is)
    (case a13 => k_is)
    (case l13 => k_is)
    (case c13 => k_is)
    (case k13 => k_is)
    (case a14 => k_is)
    (case l14 => k_is)
    (case c14 => k_is)
    (case k14 => k_is)
    (case a15 => k_is)
    (case l15 => k_is)
    (case c15 => k_is)
    (case k15 => k_is)
    (case a16 => k_is)
    (case l16 => k_is)
    (case c16 => k_is)
    (case k16 => k_is)
    (case a17 => k_is)
    (case l17 => k_is)
    (case c17 => k_is)
    (case k17 => k_is)
    (case a18 => k_is)
    (case l18 => k_is)
    (case c18 => k_is)
    (case k18 => k_is)
    (case a19 => k_is)
    (case l19 => k_is)
    (case c19 => k_is)
    (case k19 => k_is)
    (case a20 => k_is)
    (case l20 => k_is)
    (case c20 => k_is)
    (case k20 => k_is)
    (case a21 => k_is)
    (case l21 => k_is)
    (case c21 => k_is)
    (case k21 => k_is)
    (case q0 => k_is)
    (case z_len => k_is)
    (case z_list => k_is)
    (case z_isinstance => k_is)
    (case z_int => k_is)
    (case z_bool => k_is)
    (case z_range => k_is)
    (case z_max => k_is)
    (case z_ValueError => k_is)
    (case yAgain => k_is)
    (case yBadCall => k_is)
    (case yBadMode => k_is)
    (case yBadName => k_is)
    (case yBadRow => k_is)
    (case yBroken => k_is)
    (case yFallen => k_is)
    (case yInside => k_is)
    (case yIsDir => k_is)
    (case yNoBlock => k_is)
    (case yNoChild => k_is)
    (case yNoHandle => k_is)
    (case yNoName => k_is)
    (case yNoNode => k_is)
    (case yNoOwner => k_is)
    (case yNoPage => k_is)
    (case yNoRoom => k_is)
    (case yNoSpace => k_is)
    (case yNoTask => k_is)
    (case yNotAllowed => k_is)
    (case yNotDir => k_is)
    (case yNotEmpty => k_is)
    (case yNotHeld => k_is)
    (case yTaken => k_is)
    (case yTooBig => k_is)
    (case yTooMany => k_is)
    (case yKernelError => k_is)
    (case vAgain => kit_is)
    (case vBadCall => kit_is)
    (case vBadMode => kit_is)
    (case vBadName => kit_is)
    (case vBadRow => kit_is)
    (case vBroken => kit_is)
    (case vFallen => kit_is)
    (case vInside => kit_is)
    (case vIsDir => kit_is)
    (case vNoBlock => kit_is)
    (case vNoChild => kit_is)
    (case vNoHandle => kit_is)
    (case vNoName => kit_is)
    (case vNoNode => kit_is)
    (case vNoOwner => kit_is)
    (case vNoPage => kit_is)
    (case vNoRoom => kit_is)
    (case vNoSpace => kit_is)
    (case vNoTask => kit_is)
    (case vNotAllowed => kit_is)
    (case vNotDir => kit_is)
    (case vNotEmpty => kit_is)
    (case vNotHeld => kit_is)
    (case vTaken => kit_is)
    (case vTooBig => kit_is)
    (case vTooMany => kit_is)
    (case vKernelError => kit_is)
    (case vVE => kit_is)
    (case vEx => k_exc)
    (case vEm => kts_exm)
    (case uOb => k_is)
    (case uBe => k_is)
    (case uGa => k_is)
    (case uGb => k_is)
    (case uCc => k_is)
    (case uCg => k_is)
    (case uCt => k_is)
