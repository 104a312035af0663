import PyProof.Rows.All
import Wide.All
import OpenK.AllK
import Wide.FinOn
import Lean
import PyProof.EqAt
import PyProof.EqKinds
import PyProof.TupleCall
import PySem.Challenge.RW_voucherstack_k08_marks_and_sorts
set_option Elab.async false
set_option linter.all false
set_option maxRecDepth 100000
/-! THE HAND LAYER, for ints, bools, texts, own classes, LISTS and tuples (index, slices, in, append, pop ..), calls, loops. Paste it whole ahead of your own text; what your proof does not reach may be deleted. -/
namespace L2
open PySem PySem.Spec PyProof.Rows

/-- a key: an int or a str -/
abbrev Key := Sum Int Str
def keyIs : Key → Value → Bool
  | .inl k, v => Value.isInt k v
  | .inr x, v => Value.isStrOf x v
def keyH (w : World) : Key → Int
  | .inl k => hashInt k
  | .inr x => hashStr w x
theorem keyIs_shape : ∀ {k : Key} {v : Value}, keyIs k v = true → (∃ i t, k = Sum.inl i ∧ v = Value.int i t) ∨ (∃ x t, k = Sum.inr x ∧ v = Value.str x t)
  | .inl i, v, h => by
    obtain ⟨t, e⟩ := Value.isInt_shape (k := i) (v := v) h
    exact .inl ⟨i, t, rfl, e⟩
  | .inr x, v, h => by
    obtain ⟨t, e⟩ := Value.isStrOf_shape (x := x) (v := v) h
    exact .inr ⟨x, t, rfl, e⟩
theorem key_ll (a b : Int) : decide ((Sum.inl a : Key) = Sum.inl b) = (a == b) := by
  by_cases e : a = b
  · subst e; simp
  · have h : ¬ (Sum.inl a : Key) = Sum.inl b := fun q => e (Sum.inl.inj q)
    rw [decide_eq_false h]
    exact (beq_eq_false_iff_ne.mpr e).symm
theorem key_rr (a b : Str) : decide ((Sum.inr a : Key) = Sum.inr b) = decide (a = b) := by
  by_cases e : a = b
  · subst e; simp
  · have h : ¬ (Sum.inr a : Key) = Sum.inr b := fun q => e (Sum.inr.inj q)
    rw [decide_eq_false h, decide_eq_false e]
theorem key_lr (a : Int) (b : Str) : decide ((Sum.inl a : Key) = Sum.inr b) = false := decide_eq_false (fun q => nomatch q)
theorem key_rl (a : Str) (b : Int) : decide ((Sum.inr a : Key) = Sum.inl b) = false := decide_eq_false (fun q => nomatch q)

def mixKind (prog : Program) (w : World) : PySem.KeyKind prog w Key where
  is := keyIs
  hash := keyH w
  inj := fun v a b ha hb => by
    rcases keyIs_shape ha with ⟨i, t, rfl, rfl⟩ | ⟨x, t, rfl, rfl⟩
    · rcases keyIs_shape hb with ⟨j, u, rfl, e⟩ | ⟨y, u, rfl, e⟩
      · injection e with e1 _; rw [e1]
      · exact nomatch e
    · rcases keyIs_shape hb with ⟨j, u, rfl, e⟩ | ⟨y, u, rfl, e⟩
      · exact nomatch e
      · injection e with e1 _; rw [e1]
  byValue := fun k v h => by
    rcases keyIs_shape h with ⟨i, t, rfl, rfl⟩ | ⟨x, t, rfl, rfl⟩ <;> rfl
  pyHash := fun hv h => by
    rcases keyIs_shape hv with ⟨i, t, rfl, rfl⟩ | ⟨x, t, rfl, rfl⟩
    · exact wpAny_pyHash_int h
    · exact wpAny_pyHash_str h
  eqBool := fun hu hv h => by
    rcases keyIs_shape hu with ⟨i, t, rfl, rfl⟩ | ⟨x, t, rfl, rfl⟩
    · rcases keyIs_shape hv with ⟨j, u, rfl, rfl⟩ | ⟨y, u, rfl, rfl⟩
      · rw [key_ll] at h; exact wpAny_eqBool_int h
      · rw [key_lr] at h; exact SeqAt.EqAt.int_str i t y u _ _ _ _ h
    · rcases keyIs_shape hv with ⟨j, u, rfl, rfl⟩ | ⟨y, u, rfl, rfl⟩
      · rw [key_rl] at h; exact SeqAt.EqAt.str_int x t j u _ _ _ _ h
      · rw [key_rr] at h; exact wpAny_eqBool_str h
  «strs» := fun k x t v h => by
    rcases keyIs_shape h with ⟨i, u, rfl, e⟩ | ⟨y, u, rfl, e⟩
    · exact nomatch e
    · injection e with e1 _
      subst e1
      cases v <;> rfl

end L2

namespace L2
open PySem PySem.Spec PyProof.Rows

/-- a value, without the heap -/
inductive V where
  | non | bl (b : Bool) | int (i : Int) | str (x : Str) | byt (b : Array UInt8) | flt (b : UInt64) | ref (a : Addr) | ty (n : String)
  deriving DecidableEq

def RelV : V → Value → Prop
  | .non, u => u = Value.none
  | .bl b, u => u = Value.bool b
  | .int i, u => ∃ t, u = Value.int i t
  | .str x, u => ∃ t, u = Value.str x t
  | .byt b, u => ∃ t, u = Value.bytes b t
  | .flt b, u => ∃ t, u = Value.float b t
  | .ref a, u => u = Value.ref a
  | .ty n, u => u = Value.type n

abbrev Vals : List V → List Value → Prop := Paired RelV
theorem Vals.length {xs : List V} {us : List Value} (r : Vals xs us) : xs.length = us.length := Paired.length r
theorem Vals.get : ∀ {xs : List V} {us : List Value} {i : Nat} {x : V}, Vals xs us → xs[i]? = some x → ∃ u, us[i]? = some u ∧ RelV x u
  | _, _, _, _, .nil, e => by simp at e
  | _, _, 0, _, .cons r _, e => by simp at e; subst e; exact ⟨_, rfl, r⟩
  | _, _, i + 1, x, .cons _ t, e => by
    obtain ⟨u, h1, h2⟩ := Vals.get (i := i) (x := x) t (by simpa using e)
    exact ⟨u, by simpa using h1, h2⟩
theorem Vals.set {x : V} {u : Value} (r : RelV x u) : ∀ {xs : List V} {us : List Value} (i : Nat), Vals xs us → Vals (xs.set i x) (us.set i u)
  | _, _, _, .nil => .nil
  | _, _, 0, .cons _ t => .cons r t
  | _, _, i + 1, .cons q t => .cons q (Vals.set r i t)
theorem Vals.append : ∀ {xs ys : List V} {us ws : List Value}, Vals xs us → Vals ys ws → Vals (xs ++ ys) (us ++ ws)
  | _, _, _, _, .nil, s => s
  | _, _, _, _, .cons r t, s => .cons r (Vals.append t s)
theorem Vals.take : ∀ {xs : List V} {us : List Value} (n : Nat), Vals xs us → Vals (xs.take n) (us.take n)
  | _, _, 0, _ => .nil
  | _, _, _ + 1, .nil => .nil
  | _, _, n + 1, .cons r t => .cons r (Vals.take n t)
theorem Vals.none_of : ∀ {xs : List V} {us : List Value} {i : Nat}, Vals xs us → xs[i]? = none → us[i]? = none := fun {xs us i} r e => by
  have h1 := r.length
  have h2 : xs.length ≤ i := List.getElem?_eq_none_iff.mp e
  exact List.getElem?_eq_none_iff.mpr (by omega)

def RelO : Option V → Option Value → Prop
  | some v, some u => RelV v u
  | none, none => True
  | _, _ => False
def KV {κ : Type} : List (κ × V) → List (κ × Value) → Prop := Paired fun (p : κ × V) (q : κ × Value) => p.1 = q.1 ∧ RelV p.2 q.2

/-- a key of a dict (00_mix): an int or a text -/
def kV : Key → V
  | .inl i => .int i
  | .inr x => .str x

/-- what stands at a tracked address -/
inductive HO where
  /-- a list -/
  | lst (xs : List V)
  /-- a tuple (never changes) -/
  | tup (xs : List V)
  /-- a dict whose keys are ints and texts; one whose keys are tuples of ints and texts (the empty one is both) -/
  | dK (kvs : List (Key × V)) | dT (kvs : List (List Key × V))
  /-- a set of ints: its members, its size -/
  | set (S : Int → Bool) (n : Nat)
  /-- an instance of the class at C, its dict at dx, its attributes -/
  | ins (C dx : Addr) (fs : List (Str × V))
  /-- the dict of the instance at x -/
  | own (x : Addr)
  /-- the dict of an exception -/
  | xd (fs : List (Str × V))
  /-- a bound method, f of x -/
  | met (f x : Addr)
  /-- a range object lo, lo + 1, .. below hi -/
  | rng (lo hi : Int)
  /-- a thing that is known to the object (the script; a dict while a loop walks it): read, never written while it is so -/
  | frz (o : Obj) (u : HO)
  /-- a code object's table -/
  | tbl (ps : Array Value)
  /-- any other thing, by what is true of its one object (a def of one's own: SetO a S n := HO.ext fun h => ..) -/
  | ext (φ : Heap → Prop)

abbrev Hp := Addr → Option HO
def upd (H : Hp) (a : Addr) (o : HO) : Hp := fun b => if b = a then some o else H b
theorem upd_same {H : Hp} {a : Addr} {o : HO} : upd H a o a = some o := by unfold upd; rw [if_pos rfl]
theorem upd_ne {H : Hp} {a b : Addr} {o : HO} (h : b ≠ a) : upd H a o b = H b := by unfold upd; rw [if_neg h]
/-- two objects of different content stand apart -/
theorem ne_of {H : Hp} {a b : Addr} {o u : HO} (h : H a = some o) (h' : H b = some u) (d : o ≠ u) : a ≠ b := by
  intro e; subst e; rw [h] at h'; exact d (Option.some.inj h')
theorem ne_of_none {H : Hp} {a b : Addr} {o : HO} (h : H a = some o) (h' : H b = none) : a ≠ b := by
  intro e; subst e; rw [h] at h'; cases h'

section
variable (P : Program) (w : World)
def ObjOk (H : Hp) (h : Heap) (a : Addr) : HO → Prop
  | .lst xs => xs.length ≤ sizeLine ∧ ∃ (its : List Value) (n : Nat), Vals xs its ∧ h.get? a = some { cls := .type "list", data := .seq its.toArray n }
  | .tup xs => xs.length ≤ sizeLine ∧ ∃ its : List Value, Vals xs its ∧ IsTup h a its.toArray
  | .dK kvs => kvs.length ≤ sizeLine ∧ (a == sysModules) = false ∧ ∃ vs, KV kvs vs ∧ h.DictOf (mixKind P w) a vs
  | .dT kvs => kvs.length ≤ sizeLine ∧ (a == sysModules) = false ∧ ∃ xs : List (List Key × Addr × Value),
      Paired (fun (p : List Key × V) (q : List Key × Addr × Value) => p.1 = q.1 ∧ H q.2.1 = some (.tup (p.1.map kV)) ∧ RelV p.2 q.2.2) kvs xs ∧
      ∃ o es ep, h.get? a = some o ∧ o.ExactDict ∧ o.data = .dict es ep ∧ es.toList = xs.map (entryOfKey (tupleKind (mixKind P w))) ∧ (xs.map (·.1)).Nodup
  | .set S n => h.SetOf (intKind P w) a S n
  | .ins C dx fs => H dx = some (.own a) ∧ fs.length ≤ 1000 ∧ dx ≠ a ∧ h.get? a = some (PySem.W.instObj C dx) ∧
      ∃ mA, h.Ns1 dx mA ∧ (∀ f, RelO (fs.lookup f) (mA f)) ∧ PySem.Within mA (fs.map (·.1))
  | .own _ => ∃ o, h.get? a = some o
  | .xd fs => ∃ mA, h.Ns1 a mA ∧ ∀ f, RelO (fs.lookup f) (mA f)
  | .rng lo hi => ∃ t u v, h.get? a = some { cls := .type "range", data := .fields #[.int lo t, .int hi u, .int 1 v] }
  | .frz o u => h.get? a = some o ∧ ObjOk H h a u
  | .tbl ps => h.get? a = some { cls := .none, data := .fields ps }
  | .met f x => h.get? a = some (PySem.W.methodObj (.ref f) (.ref x))
  | .ext φ => φ h ∧ (∃ o, h.get? a = some o) ∧ ∀ h1 h2 : Heap, φ h1 → (∀ o, h1.get? a = some o → h2.get? a = some o) → φ h2
/-- the abstract heap is held -/
def HOk (H : Hp) (h : Heap) : Prop := ∀ a o, H a = some o → ObjOk P w H h a o
end

section
variable {P : Program} {w : World} {H H' : Hp} {h h' : Heap} {a : Addr} {o : HO}
theorem ObjOk.lt (x : ObjOk P w H h a o) : a < h.objs.size := by
  cases o with
  | lst xs => obtain ⟨_, _, _, _, e⟩ := x; exact Heap.lt_size e
  | tup xs => obtain ⟨_, _, _, p⟩ := x; exact p.lt
  | dK kvs => obtain ⟨_, _, _, _, o, _, _, e, _⟩ := x; exact Heap.lt_size e
  | dT kvs => obtain ⟨_, _, _, _, o, _, _, e, _⟩ := x; exact Heap.lt_size e
  | set S n => obtain ⟨o, _, _, _, e, _⟩ := x; exact Heap.lt_size e
  | ins C dx fs => obtain ⟨_, _, _, e, _⟩ := x; exact Heap.lt_size e
  | own y => obtain ⟨_, e⟩ := x; exact Heap.lt_size e
  | xd fs => obtain ⟨_, ⟨_, _, _, e, _⟩, _⟩ := x; exact Heap.lt_size e
  | rng lo hi => obtain ⟨_, _, _, e⟩ := x; exact Heap.lt_size e
  | frz ob u => obtain ⟨e, _⟩ := x; exact Heap.lt_size e
  | tbl ps => exact Heap.lt_size (show h.get? a = some _ from x)
  | met f y => exact Heap.lt_size (show h.get? a = some _ from x)
  | ext φ => obtain ⟨_, ⟨_, e⟩, _⟩ := x; exact Heap.lt_size e
theorem Paired.mapP {α β : Type} {F G : α → β → Prop} : ∀ {l₁ : List α} {l₂ : List β}, Paired F l₁ l₂ → (∀ a b, F a b → G a b) → Paired G l₁ l₂
  | _, _, .nil, _ => .nil
  | _, _, .cons r t, f => .cons (f _ _ r) (Paired.mapP t f)
/-- what an object's description leans on: its own object, its own dict, the tuples -/
theorem ObjOk.stay (x : ObjOk P w H h a o) (k : ∀ b u, (b = a ∨ H b = some (.own a)) → h.get? b = some u → h'.get? b = some u)
    (ho : ∀ b, H b = some (.own a) → H' b = some (.own a)) (ht : ∀ b xs, H b = some (.tup xs) → H' b = some (.tup xs)) : ObjOk P w H' h' a o := by
  induction o with
  | lst xs => obtain ⟨z, its, n, r, e⟩ := x; exact ⟨z, its, n, r, k _ _ (.inl rfl) e⟩
  | tup xs => obtain ⟨z, its, r, ob, e, c⟩ := x; exact ⟨z, its, r, ob, k _ _ (.inl rfl) e, c⟩
  | dK kvs => obtain ⟨z, y, vs, r, ob, es, ep, e, c⟩ := x; exact ⟨z, y, vs, r, ob, es, ep, k _ _ (.inl rfl) e, c⟩
  | dT kvs =>
    obtain ⟨z, y, xs, r, ob, es, ep, e, c⟩ := x
    exact ⟨z, y, xs, Paired.mapP r fun p q z => ⟨z.1, ht _ _ z.2.1, z.2.2⟩, ob, es, ep, k _ _ (.inl rfl) e, c⟩
  | set S n => obtain ⟨ob, es, ep, t, e, c⟩ := x; exact ⟨ob, es, ep, t, k _ _ (.inl rfl) e, c⟩
  | ins C dx fs =>
    obtain ⟨d, z, ne, e, mA, ⟨od, es, ep, e2, c⟩, r⟩ := x
    exact ⟨ho _ d, z, ne, k _ _ (.inl rfl) e, mA, ⟨od, es, ep, k _ _ (.inr d) e2, c⟩, r⟩
  | own y => obtain ⟨ob, e⟩ := x; exact ⟨ob, k _ _ (.inl rfl) e⟩
  | xd fs => obtain ⟨mA, ⟨od, es, ep, e, c⟩, r⟩ := x; exact ⟨mA, ⟨od, es, ep, k _ _ (.inl rfl) e, c⟩, r⟩
  | rng lo hi => obtain ⟨t, u, v, e⟩ := x; exact ⟨t, u, v, k _ _ (.inl rfl) e⟩
  | frz ob u ih => obtain ⟨e, q⟩ := x; exact ⟨k _ _ (.inl rfl) e, ih q⟩
  | tbl ps =>
    have e : h.get? a = some { cls := .none, data := .fields ps } := x
    show h'.get? a = some { cls := .none, data := .fields ps }
    exact k a _ (.inl rfl) e
  | met f y =>
    have e : h.get? a = some (PySem.W.methodObj (.ref f) (.ref y)) := x
    show h'.get? a = some (PySem.W.methodObj (.ref f) (.ref y))
    exact k a _ (.inl rfl) e
  | ext φ => obtain ⟨p, ⟨o, e⟩, st⟩ := x; exact ⟨st _ _ p fun o q => k _ _ (.inl rfl) q, ⟨o, k _ _ (.inl rfl) e⟩, st⟩
theorem HOk.lt (x : HOk P w H h) (e : H a = some o) : a < h.objs.size := (x a o e).lt
theorem HOk.fresh (x : HOk P w H h) (e : h.objs.size ≤ a) : H a = none := by
  cases q : H a with
  | none => rfl
  | some u => exact absurd (Nat.lt_of_lt_of_le (x.lt q) e) (Nat.lt_irrefl _)
/-- every object of the heap is kept -/
theorem HOk.kept (x : HOk P w H h) (k : ∀ b u, h.get? b = some u → h'.get? b = some u) : HOk P w H h' := fun a o e =>
  (x a o e).stay (fun b u _ q => k b u q) (fun _ q => q) fun _ _ q => q
/-- a new object is laid and tracked -/
theorem HOk.laid (x : HOk P w H h) (k : ∀ b u, h.get? b = some u → h'.get? b = some u) (hp : h.objs.size ≤ a) (new : ObjOk P w (upd H a o) h' a o) : HOk P w (upd H a o) h' := fun b u e => by
  have hn := x.fresh hp
  by_cases hb : b = a
  · subst hb; rw [upd_same] at e; cases e; exact new
  · rw [upd_ne hb] at e
    exact (x b u e).stay (fun c v _ q => k c v q) (fun c q => by rw [upd_ne (ne_of_none q hn)]; exact q) fun c xs q => by rw [upd_ne (ne_of_none q hn)]; exact q
end

/-- what may be read as u: it is u, or a known u -/
def Rd (H : Hp) (a : Addr) (u : HO) : Prop := H a = some u ∨ ∃ o, H a = some (.frz o u)
theorem Rd.of {H : Hp} {a : Addr} {u : HO} (h : H a = some u) : Rd H a u := .inl h
theorem Rd.ok {P : Program} {w : World} {H : Hp} {h : Heap} {a : Addr} {u : HO} (r : Rd H a u) (x : HOk P w H h) : ObjOk P w H h a u := by
  rcases r with r | ⟨o, r⟩
  · exact x a u r
  · obtain ⟨_, q⟩ := x a _ r
    exact q
/-- what may be written -/
def Mut : Option HO → Prop
  | some (.lst _) => True
  | some (.dK _) => True
  | some (.dT _) => True
  | some (.set _ _) => True
  | some (.ins _ _ _) => True
  | some (.ext _) => True
  | _ => False
section
variable {P : Program} {w : World} {H : Hp} {h h' : Heap} {x e : Addr} {o' : HO}
/-- the object at e is changed: x itself, or the dict of the instance x -/
theorem HOk.write (ok : HOk P w H h) (mu : Mut (H x)) (he : e = x ∨ H e = some (.own x)) (k : ∀ b u, b ≠ e → h.get? b = some u → h'.get? b = some u) (heo : ∃ u, h'.get? e = some u)
    (new : ObjOk P w (upd H x o') h' x o') : HOk P w (upd H x o') h' := fun b u q => by
  have nown : ∀ c y, H c = some (.own y) → c ≠ x := fun c y r z => by subst z; rw [r] at mu; exact mu
  have ntup : ∀ c xs, H c = some (.tup xs) → c ≠ x := fun c xs r z => by subst z; rw [r] at mu; exact mu
  by_cases hb : b = x
  · subst hb; rw [upd_same] at q; cases q; exact new
  · rw [upd_ne hb] at q
    by_cases hbe : b = e
    · have q' : H b = some (.own x) := by
        rcases he with z | z
        · exact absurd (hbe.trans z) hb
        · rw [hbe]; exact z
      rw [q] at q'; cases q'
      obtain ⟨v, hv⟩ := heo
      exact ⟨v, by rw [hbe]; exact hv⟩
    · refine (ok b u q).stay (fun c v hc r => k c v ?_ r) (fun c r => by rw [upd_ne (nown c b r)]; exact r) fun c xs r => by rw [upd_ne (ntup c xs r)]; exact r
      rcases hc with rfl | hc
      · exact hbe
      · rintro rfl
        rcases he with z | z
        · exact nown c b hc z
        · rw [hc] at z; cases z; exact hb rfl
end

/-! ### kept unless tracked; of the frames at fs (the callers') the slots may change (an exception that passes writes there); of the records at ex (iterators) nothing is said -/
structure Un (fs ex : List Addr) (H H' : Hp) (h h' : Heap) : Prop where
  keep : ∀ b o, h.get? b = some o → H b = none → b ∉ fs → b ∉ ex → h'.get? b = some o
  slot : ∀ b o, h.get? b = some o → H b = none → b ∈ fs → b ∉ ex → ∃ sl, h'.get? b = some { o with slots := sl }
  free : ∀ b o, h.get? b = some o → H b = none → b ∉ ex → H' b = none
  there : ∀ b o, h.get? b = some o → b ∉ ex → ∃ o', h'.get? b = some o'
  tups : ∀ b xs, H b = some (.tup xs) → H' b = some (.tup xs)
  frzs : ∀ b o u, H b = some (.frz o u) → H' b = some (.frz o u)
  tbls : ∀ b ps, H b = some (.tbl ps) → ∃ more, H' b = some (.tbl (ps ++ more))
section
variable {fs fs' ex ex' : List Addr} {H H1 H2 : Hp} {h h1 h2 h' : Heap} {a x e : Addr} {o : HO}
theorem Un.any (u : Un fs ex H H1 h h1) {b : Addr} {ob : Obj} (q : h.get? b = some ob) (n : H b = none) (hx : b ∉ ex) : ∃ sl, h1.get? b = some { ob with slots := sl } := by
  by_cases hb : b ∈ fs
  · exact u.slot b ob q n hb hx
  · exact ⟨ob.slots, u.keep b ob q n hb hx⟩
theorem Un.trans (a : Un fs ex H H1 h h1) (b : Un fs ex H1 H2 h1 h2) : Un fs ex H H2 h h2 where
  keep := fun c ob q n hc hx => b.keep c ob (a.keep c ob q n hc hx) (a.free c ob q n hx) hc hx
  slot := fun c ob q n hc hx => by
    obtain ⟨sl, e1⟩ := a.slot c ob q n hc hx
    obtain ⟨sl', e2⟩ := b.slot c _ e1 (a.free c ob q n hx) hc hx
    exact ⟨sl', e2⟩
  free := fun c ob q n hx => by
    obtain ⟨o', e1⟩ := a.there c ob q hx
    exact b.free c o' e1 (a.free c ob q n hx) hx
  there := fun c ob q hx => by
    obtain ⟨o', e1⟩ := a.there c ob q hx
    exact b.there c o' e1 hx
  tups := fun c xs q => b.tups c xs (a.tups c xs q)
  frzs := fun c ob xs q => b.frzs c ob xs (a.frzs c ob xs q)
  tbls := fun c ps q => by
    obtain ⟨m1, e1⟩ := a.tbls c ps q
    obtain ⟨m2, e2⟩ := b.tbls c _ e1
    exact ⟨m1 ++ m2, by rw [e2, Array.append_assoc]⟩
theorem Un.kept (k : ∀ b u, h.get? b = some u → h'.get? b = some u) : Un fs ex H H h h' :=
  ⟨fun b ob q _ _ _ => k b ob q, fun b ob q _ _ _ => ⟨ob.slots, k b ob q⟩, fun _ _ _ n _ => n, fun b ob q _ => ⟨ob, k b ob q⟩, fun _ _ q => q, fun _ _ _ q => q, fun _ ps q => ⟨#[], by rw [q]; simp⟩⟩
theorem Un.refl : Un fs ex H H h h := Un.kept fun _ _ q => q
theorem Un.laid (k : ∀ b u, h.get? b = some u → h'.get? b = some u) (hp : h.objs.size ≤ a) (hn : H a = none) : Un fs ex H (upd H a o) h h' where
  keep := fun b u q _ _ _ => k b u q
  slot := fun b u q _ _ _ => ⟨u.slots, k b u q⟩
  free := fun b u q n _ => by rw [upd_ne (Nat.ne_of_lt (Nat.lt_of_lt_of_le (Heap.lt_size q) hp))]; exact n
  there := fun b u q _ => ⟨u, k b u q⟩
  tups := fun b xs q => by rw [upd_ne (ne_of_none q hn)]; exact q
  frzs := fun b u xs q => by rw [upd_ne (ne_of_none q hn)]; exact q
  tbls := fun b ps q => ⟨#[], by rw [upd_ne (ne_of_none q hn), q]; simp⟩
theorem Un.write (mu : Mut (H x)) (he : e = x ∨ H e = some (.own x)) (k : ∀ b u, b ≠ e → h.get? b = some u → h'.get? b = some u) (heo : ∃ u, h'.get? e = some u) : Un fs ex H (upd H x o) h h' := by
  have hx : ∀ b, H b = none → b ≠ x := fun b n z => by subst z; rw [n] at mu; exact mu
  have hb : ∀ b, H b = none → b ≠ e := fun b n z => by
    subst z
    rcases he with r | r
    · exact hx b n r
    · rw [n] at r; cases r
  have hm : ∀ b u, H b = some u → ¬ Mut (some u) → b ≠ x := fun b u q nm z => by subst z; rw [q] at mu; exact nm mu
  refine ⟨fun b u q n _ _ => k b u (hb b n) q, fun b u q n _ _ => ⟨u.slots, k b u (hb b n) q⟩, fun b u q n _ => by rw [upd_ne (hx b n)]; exact n, fun b u q _ => ?_,
    fun b xs q => by rw [upd_ne (hm b _ q fun z => z)]; exact q, fun b u xs q => by rw [upd_ne (hm b _ q fun z => z)]; exact q, fun b ps q => ⟨#[], by rw [upd_ne (hm b _ q fun z => z), q]; simp⟩⟩
  by_cases hbe : b = e
  · subst hbe; exact heo
  · exact ⟨u, k b u hbe q⟩
theorem Un.mono (u : Un fs ex H H1 h h1) (hs : ∀ b ∈ fs, b ∈ fs') (hx : ∀ b ∈ ex, b ∈ ex') : Un fs' ex' H H1 h h1 :=
  ⟨fun b ob q n hb he => u.keep b ob q n (fun z => hb (hs b z)) fun z => he (hx b z), fun _ _ q n _ he => u.any q n fun z => he (hx _ z), fun b ob q n he => u.free b ob q n fun z => he (hx b z), fun b ob q he => u.there b ob q fun z => he (hx b z), u.tups, u.frzs, u.tbls⟩
end

/-! ### the heap without what is tracked -/
def trk (h : Heap) (H : Hp) : List Addr := (List.range h.objs.size).filter fun a => (H a).isSome
def hidT (h : Heap) (H : Hp) : Heap := PySem.W.hideAll h (trk h H)
theorem hidT_size (h : Heap) (H : Hp) : (hidT h H).objs.size = h.objs.size := PySem.W.hideAll_size _ _
theorem hidT_get {h : Heap} {H : Hp} {b : Addr} {o : Obj} (e : h.get? b = some o) (n : H b = none) : (hidT h H).get? b = some o :=
  PySem.W.hideAll_get _ e fun hm => by
    have q : (H b).isSome = true := (List.mem_filter.mp hm).2
    rw [n] at q; simp at q
theorem of_hidT {h : Heap} {H : Hp} {b : Addr} {o : Obj} (e : (hidT h H).get? b = some o) : h.get? b = some o ∧ H b = none := by
  have e' : h.get? b = some o := PySem.W.of_hideAll (trk h H) e
  refine ⟨e', ?_⟩
  cases q : H b with
  | none => rfl
  | some x =>
    have hm : b ∈ trk h H := List.mem_filter.mpr ⟨List.mem_range.mpr (Heap.lt_size e'), by simp [q]⟩
    have z : (hidT h H).get? b = none := PySem.W.hideAll_none (trk h H) hm
    rw [z] at e; cases e

/-! ### OpenK's ledger, filled with every new object but one -/
def allNews (g h : Heap) (L : Addr) : List (Addr × Obj) := (List.range h.objs.size).filterMap fun a => if a = L ∨ (g.get? a).isSome = true then none else (h.get? a).map fun o => (a, o)
def rest (g h : Heap) (L d : Addr) : List (Addr × Obj) := (allNews g h L).filter fun p => decide (p.1 ≠ d)
end L2

namespace L2
open PySem PySem.Spec PyProof.Rows

/-- the module's facts, over the base: the heap at the law's entry without what is tracked there -/
structure Mod (K : PySem.W.Frag) (mg : Str → Option Value) (base : Heap) : Prop where
  kin : K.In base
  glob : base.Ns mainGlobals mg
  blt : ∃ mb, base.Ns builtinsNs mb ∧ ∀ x : Str, x ≠ "__name__" → mb x = bootBuiltins x
  nolimit : base.NoLimit

/-- the context: a def's body (or a comprehension's block) running. base: fixed through the whole law; s₀, H₀: the entry; outer: the frames whose slots others may change (a def's callers); stack: all frames that run;
   ex: iterators that were made ahead of the entry and are walked here (a comprehension's); fn: the names whose cells were made at the entry (a def: all; a comprehension's block: its own); calm: not within an except suite; pn: pins that every state bears; xe: what is wanted of an exception that leaves the code -/
structure Cx where
  prog : Program
  w : World
  K : PySem.W.Frag
  mg : Str → Option Value
  base : Heap
  A : Around
  N : List Str
  s₀ : Shared
  H₀ : Hp
  env : Env
  outer : List Env
  stack : List Env
  ex : List Addr
  fn : Str → Bool
  calm : Bool
  pn : List (Addr × Obj)
  xe : Value → Shared → Prop
/-- the callers' frames -/
def frs (l : List Env) : List Addr := l.filterMap (·.frame)
abbrev Cx.fs (X : Cx) : List Addr := frs X.outer

def Vis (sc : Scope) (x : Str) : Prop := sc.names.lookup x = some .local ∨ sc.names.lookup x = some .cell ∨ sc.names.lookup x = some .free
def Loc (sc : Scope) (x : Str) : Prop := sc.names.lookup x = some .local ∨ sc.names.lookup x = some .cell
def Look (env : Env) (h : Heap) (m : Str → Option Value) (x : Str) (u : Value) : Prop :=
  (env.kindOf x = some .local ∧ m x = some u) ∨ ((env.kindOf x = some .cell ∨ env.kindOf x = some .free) ∧ ∃ c, env.cells.lookup x = some c ∧ h.IsCell c (some u))

structure Cx.Ok (X : Cx) : Prop where
  mod : Mod X.K X.mg X.base
  kind : X.env.scope.kind = .function
  glob : X.env.globals = mainGlobals
  blt : X.env.builtins = builtinsNs
  above : X.s₀.heap.objs.size ≤ X.env.locals
  inj : ∀ x y c, X.env.cells.lookup x = some c → X.env.cells.lookup y = some c → x = y
  has : ∀ x, (X.env.kindOf x = some .cell ∨ X.env.kindOf x = some .free) → ∃ c, X.env.cells.lookup x = some c
  cab : ∀ x c, X.fn x = true → X.env.cells.lookup x = some c → X.s₀.heap.objs.size ≤ c
  hd : X.calm = true → X.A.handled = none
  frames : X.A.frames = some X.stack
  stk : X.stack = X.outer ∨ (X.stack = X.env :: X.outer ∧ X.env.frame = some X.env.locals)
  exf : ∀ b ∈ X.ex, b ≠ X.env.locals ∧ ∀ x c, X.env.cells.lookup x = some c → c ≠ b
  bs : ∀ b o, X.base.get? b = some o → X.s₀.heap.get? b = some o ∧ X.H₀ b = none
  bsz : X.base.objs.size ≤ X.s₀.heap.objs.size
  noex : ∀ b o, X.base.get? b = some o → b ∉ X.ex
  exfs : ∀ b ∈ X.ex, b ∉ X.fs
  funs : X.s₀.heap.FunFrames X.base X.outer
  frf : ∀ b ∈ X.fs, X.H₀ b = none

structure Inv (X : Cx) (pins : List (Addr × Obj)) (σ : List (Option V)) (H : Hp) (s : Shared) : Prop where
  ok : X.Ok
  os : s.os = X.s₀.os
  bare : AllBare s.gens
  base : Un X.fs X.ex X.H₀ H X.s₀.heap s.heap
  loc : ∃ m, s.heap.Ns X.env.locals m ∧ ∀ (i : Nat) (x : Str) (v : V), X.N[i]? = some x → σ[i]? = some (some v) → Vis X.env.scope x → ∃ u, RelV v u ∧ Look X.env s.heap m x u
  cell : ∀ x c, X.env.cells.lookup x = some c → ∃ v, s.heap.IsCell c v
  free : H X.env.locals = none
  freeC : ∀ x c, X.env.cells.lookup x = some c → H c = none
  pin : ∀ p ∈ X.pn ++ pins, s.heap.get? p.1 = some p.2 ∧ H p.1 = none ∧ p.1 ≠ X.env.locals ∧ p.1 ∉ X.fs ∧ ∀ v, p.2.data ≠ .cell v
  hok : HOk X.prog X.w H s.heap
  len : σ.length = X.N.length

section
variable {X : Cx} {pins : List (Addr × Obj)} {σ : List (Option V)} {H H' : Hp} {s : Shared} {h' : Heap}

theorem Cx.Ok.nofr (ok : X.Ok) {b : Addr} {o : Obj} (e : X.base.get? b = some o) : b ∉ X.fs := fun hb => by
  have := (ok.funs.mem hb).1
  rw [e] at this; cases this
theorem Inv.bs (I : Inv X pins σ H s) : ∀ b o, X.base.get? b = some o → s.heap.get? b = some o ∧ H b = none := fun b o e =>
  ⟨I.base.keep b o (I.ok.bs b o e).1 (I.ok.bs b o e).2 (I.ok.nofr e) (I.ok.noex b o e), I.base.free b o (I.ok.bs b o e).1 (I.ok.bs b o e).2 (I.ok.noex b o e)⟩
theorem Inv.bk (I : Inv X pins σ H s) : ∀ b o, X.base.get? b = some o → s.heap.get? b = some o := fun b o e => (I.bs b o e).1
theorem Inv.mod (I : Inv X pins σ H s) : Mod X.K X.mg X.base := I.ok.mod
theorem Inv.kIn (I : Inv X pins σ H s) : X.K.In s.heap := I.ok.mod.kin.keeps I.bk
theorem Inv.nolimit (I : Inv X pins σ H s) : s.heap.NoLimit := I.ok.mod.nolimit.keeps I.bk
theorem Inv.lt (I : Inv X pins σ H s) : X.env.locals < s.heap.objs.size := let ⟨_, hn, _⟩ := I.loc; hn.lt
theorem Inv.sz (I : Inv X pins σ H s) : X.s₀.heap.objs.size ≤ s.heap.objs.size := Nat.le_trans I.ok.above (Nat.le_of_lt I.lt)
theorem Inv.nofs (I : Inv X pins σ H s) {a : Addr} (h : s.heap.objs.size ≤ a) : a ∉ X.fs := fun hb => by
  obtain ⟨_, o, ho, _⟩ := I.ok.funs.mem hb
  exact absurd (Nat.lt_of_lt_of_le (Heap.lt_size ho) (Nat.le_trans I.sz h)) (Nat.lt_irrefl _)
theorem Inv.cne (I : Inv X pins σ H s) : ∀ x c, X.env.cells.lookup x = some c → c ≠ X.env.locals := fun x c e z => by
  obtain ⟨v, o, ho, hd⟩ := I.cell x c e
  obtain ⟨m, ⟨o', es, ep, ho', hd', _⟩, _⟩ := I.loc
  rw [z, ho'] at ho; cases ho; rw [hd'] at hd; cases hd
theorem Inv.funs (I : Inv X pins σ H s) : s.heap.FunFrames X.base X.outer := by
  have all : ∀ (l : List Env), (∀ b ∈ frs l, b ∈ X.fs) → X.s₀.heap.FunFrames X.base l → s.heap.FunFrames X.base l := by
    intro l
    induction l with
    | nil => intro _ _; trivial
    | cons env r ih =>
      intro hs hl
      obtain ⟨hk, ⟨L, o, hf, hn, ho, hd⟩, hr⟩ := hl
      have hL : L ∈ X.fs := hs L (by unfold frs; rw [List.filterMap_cons, hf]; exact List.mem_cons_self)
      obtain ⟨sl, e⟩ := I.base.slot L o ho (I.ok.frf L hL) hL fun z => I.ok.exfs L z hL
      exact ⟨hk, ⟨L, _, hf, hn, e, hd⟩, ih (fun b hb => hs b (by unfold frs; rw [List.filterMap_cons, hf]; exact List.mem_cons_of_mem _ hb)) hr⟩
  exact all X.outer (fun _ hb => hb) I.ok.funs

/-- the frames that run, for a call -/
theorem Inv.stack (I : Inv X pins σ H s) : s.heap.FunFrames X.base X.stack := by
  rcases I.ok.stk with e | ⟨e, hf⟩
  · rw [e]; exact I.funs
  · rw [e]
    obtain ⟨m, hn, _⟩ := I.loc
    refine .cons (by rw [I.ok.kind]; decide) hf hn ?_ I.funs
    exact Heap.get?_none_of_le (Nat.le_trans I.ok.bsz I.ok.above)
theorem Inv.stkSub (I : Inv X pins σ H s) : ∀ b ∈ frs X.stack, b ∈ X.env.locals :: X.fs := fun b hb => by
  rcases I.ok.stk with e | ⟨e, hf⟩
  · rw [e] at hb; exact List.mem_cons_of_mem _ hb
  · rw [e] at hb
    unfold frs at hb
    rw [List.filterMap_cons, hf] at hb
    exact hb
theorem Inv.stkFree (I : Inv X pins σ H s) : ∀ b ∈ frs X.stack, H b = none := fun b hb => by
  rcases List.mem_cons.mp (I.stkSub b hb) with e | hb
  · rw [e]; exact I.free
  · obtain ⟨_, o, ho, _⟩ := I.ok.funs.mem hb
    exact I.base.free b o ho (I.ok.frf b hb) fun z => I.ok.exfs b z hb

/-- THE STEP: the untracked objects but the frame and the records at ch are kept (the callers' frames up to slots), the frame's map is kept, the new abstract heap is held -/
theorem Inv.step {g' : Array GenState} {t' : Nat} {d' : Drawn} {ch : List Addr} (I : Inv X pins σ H s)
    (hch : ∀ b ∈ ch, (b ∈ X.ex ∨ X.s₀.heap.objs.size ≤ b) ∧ b ≠ X.env.locals ∧ (∀ x c, X.env.cells.lookup x = some c → c ≠ b) ∧ ∀ p ∈ X.pn ++ pins, p.1 ≠ b)
    (keep : ∀ b o, b ≠ X.env.locals → b ∉ X.fs → b ∉ ch → s.heap.get? b = some o → H b = none → h'.get? b = some o)
    (slot : ∀ b o, b ≠ X.env.locals → b ∈ X.fs → b ∉ ch → s.heap.get? b = some o → H b = none → ∃ sl, h'.get? b = some { o with slots := sl }) (free : ∀ b o, b ∉ ch → s.heap.get? b = some o → H b = none → H' b = none)
    (there : ∀ b o, b ∉ ch → s.heap.get? b = some o → ∃ o', h'.get? b = some o')
    (tups : ∀ b xs, H b = some (.tup xs) → H' b = some (.tup xs)) (frzs : ∀ b o u, H b = some (.frz o u) → H' b = some (.frz o u)) (tbls : ∀ b ps, H b = some (.tbl ps) → ∃ more, H' b = some (.tbl (ps ++ more)))
    (ns : ∀ m, s.heap.Ns X.env.locals m → h'.Ns X.env.locals m) (hok : HOk X.prog X.w H' h') (hg : AllBare g') :
    Inv X pins σ H' { s with heap := h', gens := g', drawn := d', toks := t' } := by
  have neL : ∀ b o, X.s₀.heap.get? b = some o → b ≠ X.env.locals := fun b o e => Nat.ne_of_lt (Nat.lt_of_lt_of_le (Heap.lt_size e) I.ok.above)
  have neC : ∀ b o, X.s₀.heap.get? b = some o → b ∉ X.ex → b ∉ ch := fun b o e hx hb => by
    rcases (hch b hb).1 with z | z
    · exact hx z
    · exact absurd (Nat.lt_of_lt_of_le (Heap.lt_size e) z) (Nat.lt_irrefl _)
  have cellK : ∀ x c, X.env.cells.lookup x = some c → ∀ v, s.heap.IsCell c v → h'.IsCell c v := fun x c e v ⟨o, ho, hd⟩ => by
    have nch : c ∉ ch := fun z => (hch c z).2.2.1 x c e rfl
    by_cases hc : c ∈ X.fs
    · obtain ⟨sl, q⟩ := slot c o (I.cne x c e) hc nch ho (I.freeC x c e)
      exact ⟨_, q, hd⟩
    · exact ⟨o, keep c o (I.cne x c e) hc nch ho (I.freeC x c e), hd⟩
  refine ⟨I.ok, I.os, hg, ⟨fun b o e n hb hx => ?_, fun b o e n hb hx => ?_, fun b o e n hx => ?_, fun b o e hx => ?_, fun b xs e => tups b xs (I.base.tups b xs e), fun b o xs e => frzs b o xs (I.base.frzs b o xs e), fun b ps e => ?_⟩, ?_, fun x c e => ?_, ?_, fun x c e => ?_, fun p hp => ?_, hok, I.len⟩
  · exact keep b o (neL b o e) hb (neC b o e hx) (I.base.keep b o e n hb hx) (I.base.free b o e n hx)
  · obtain ⟨sl, e1⟩ := I.base.slot b o e n hb hx
    obtain ⟨sl', e2⟩ := slot b _ (neL b o e) hb (neC b o e hx) e1 (I.base.free b o e n hx)
    exact ⟨sl', e2⟩
  · obtain ⟨o', e1⟩ := I.base.there b o e hx
    exact free b o' (neC b o e hx) e1 (I.base.free b o e n hx)
  · obtain ⟨o', e1⟩ := I.base.there b o e hx
    exact there b o' (neC b o e hx) e1
  · obtain ⟨m1, e1⟩ := I.base.tbls b ps e
    obtain ⟨m2, e2⟩ := tbls b _ e1
    exact ⟨m1 ++ m2, by rw [e2, Array.append_assoc]⟩
  · obtain ⟨m, hn, hl⟩ := I.loc
    refine ⟨m, ns m hn, fun i x v e1 e2 e3 => ?_⟩
    obtain ⟨u, r, l⟩ := hl i x v e1 e2 e3
    refine ⟨u, r, ?_⟩
    rcases l with l | ⟨k, c, e, z⟩
    · exact .inl l
    · exact .inr ⟨k, c, e, cellK x c e _ z⟩
  · obtain ⟨v, z⟩ := I.cell x c e
    exact ⟨v, cellK x c e v z⟩
  · obtain ⟨m, ⟨o, _, _, ho, _⟩, _⟩ := I.loc
    exact free _ o (fun z => (hch _ z).2.1 rfl) ho I.free
  · obtain ⟨v, o, ho, hd⟩ := I.cell x c e
    exact free c o (fun z => (hch c z).2.2.1 x c e rfl) ho (I.freeC x c e)
  · obtain ⟨e, n, ne, nf, d⟩ := I.pin p hp
    have nch : p.1 ∉ ch := fun z => (hch p.1 z).2.2.2 p hp rfl
    exact ⟨keep p.1 p.2 ne nf nch e n, free p.1 p.2 nch e n, ne, nf, d⟩
/-- .. where the frame's own object is kept too -/
theorem Inv.un {t' : Nat} (I : Inv X pins σ H s) (u : Un X.fs [] H H' s.heap h') (hok : HOk X.prog X.w H' h') : Inv X pins σ H' { s with heap := h', toks := t' } := by
  obtain ⟨m, ⟨o, es, ep, ho, r⟩, _⟩ := id I.loc
  obtain ⟨sl, hL⟩ := u.any ho I.free (by simp)
  exact I.step (g' := s.gens) (d' := s.drawn) (ch := []) (fun _ z => nomatch z) (fun b o _ hb _ e n => u.keep b o e n hb (by simp)) (fun b o _ hb _ e n => u.slot b o e n hb (by simp)) (fun b o _ e n => u.free b o e n (by simp)) (fun b o _ e => u.there b o e (by simp)) u.tups u.frzs u.tbls (fun m' hm => by
    obtain ⟨o', es', ep', ho', r'⟩ := hm
    rw [ho] at ho'; cases ho'
    exact ⟨_, es', ep', hL, r'⟩) hok I.bare
/-- behind a call (or a comprehension's block): the slots of this frame may have changed too, the records at ch may have turned -/
theorem Inv.call {g' : Array GenState} {t' : Nat} {d' : Drawn} {ch : List Addr} (I : Inv X pins σ H s) (u : Un (frs X.stack) ch H H' s.heap h') (hok : HOk X.prog X.w H' h') (hg : AllBare g')
    (hch : ∀ b ∈ ch, (b ∈ X.ex ∨ X.s₀.heap.objs.size ≤ b) ∧ b ≠ X.env.locals ∧ (∀ x c, X.env.cells.lookup x = some c → c ≠ b) ∧ ∀ p ∈ X.pn ++ pins, p.1 ≠ b) :
    Inv X pins σ H' { s with heap := h', gens := g', drawn := d', toks := t' } := by
  obtain ⟨m, ⟨o, es, ep, ho, r⟩, _⟩ := id I.loc
  obtain ⟨sl, hL⟩ := u.any ho I.free fun z => (hch _ z).2.1 rfl
  exact I.step (ch := ch) hch (fun b o hL hb hc e n => u.keep b o e n (fun z => (List.mem_cons.mp (I.stkSub b z)).elim hL hb) hc) (fun b o _ _ hc e n => u.any e n hc) (fun b o hc e n => u.free b o e n hc) (fun b o hc e => u.there b o e hc) u.tups u.frzs u.tbls (fun m' hm => by
    obtain ⟨o', es', ep', ho', r'⟩ := hm
    rw [ho] at ho'; cases ho'
    exact ⟨_, es', ep', hL, r'⟩) hok hg
/-- an untracked record of ours (an iterator) has turned -/
theorem Inv.turned {t' : Nat} {it : Addr} (I : Inv X pins σ H s) (k : ∀ b o, b ≠ it → s.heap.get? b = some o → h'.get? b = some o) (hn : H it = none) (hL : it ≠ X.env.locals)
    (h1 : it ∈ X.ex ∨ X.s₀.heap.objs.size ≤ it) (h2 : ∀ x c, X.env.cells.lookup x = some c → c ≠ it) (h3 : ∀ p ∈ X.pn ++ pins, p.1 ≠ it) : Inv X pins σ H { s with heap := h', toks := t' } := by
  have nit : ∀ b u, H b = some u → b ≠ it := fun b u e z => by rw [z, hn] at e; cases e
  refine I.step (g' := s.gens) (d' := s.drawn) (ch := [it]) (fun b hb => ?_) (fun b o _ _ hc e _ => k b o (fun z => hc (by simp [z])) e) (fun b o _ _ hc e _ => ⟨o.slots, k b o (fun z => hc (by simp [z])) e⟩) (fun _ _ _ _ n => n)
    (fun b o hc e => ⟨o, k b o (fun z => hc (by simp [z])) e⟩) (fun _ _ e => e) (fun _ _ _ e => e) (fun b ps e => ⟨#[], by rw [e]; simp⟩) (fun m hm => ?_) (fun b u e => ?_) I.bare
  · have e : b = it := by simpa using hb
    subst e
    exact ⟨h1, hL, h2, h3⟩
  · obtain ⟨o, es, ep, ho, r⟩ := hm
    exact ⟨o, es, ep, k _ o (Ne.symm hL) ho, r⟩
  · refine (I.hok b u e).stay (fun c v hc q => k c v ?_ q) (fun _ q => q) fun _ _ q => q
    rcases hc with z | z
    · rw [z]; exact nit b u e
    · exact nit c _ z
theorem Inv.tok (I : Inv X pins σ H s) (t : Nat) : Inv X pins σ H { s with toks := t } := I.un (h' := s.heap) (t' := t) Un.refl I.hok
/-- all objects kept -/
theorem Inv.kept {t' : Nat} (I : Inv X pins σ H s) (k : ∀ b u, s.heap.get? b = some u → h'.get? b = some u) : Inv X pins σ H { s with heap := h', toks := t' } := I.un (Un.kept k) (I.hok.kept k)
/-- a new object laid and tracked -/
theorem Inv.laid {a : Addr} {o : HO} {t' : Nat} (I : Inv X pins σ H s) (k : ∀ b u, s.heap.get? b = some u → h'.get? b = some u) (hp : s.heap.objs.size ≤ a) (new : ObjOk X.prog X.w (upd H a o) h' a o) :
    Inv X pins σ (upd H a o) { s with heap := h', toks := t' } := I.un (Un.laid k hp (I.hok.fresh hp)) (I.hok.laid k hp new)
/-- an object written -/
theorem Inv.write {x e : Addr} {o : HO} {t' : Nat} (I : Inv X pins σ H s) (mu : Mut (H x)) (he : e = x ∨ H e = some (.own x)) (k : ∀ b u, b ≠ e → s.heap.get? b = some u → h'.get? b = some u) (heo : ∃ u, h'.get? e = some u)
    (new : ObjOk X.prog X.w (upd H x o) h' x o) : Inv X pins σ (upd H x o) { s with heap := h', toks := t' } := I.un (Un.write mu he k heo) (I.hok.write mu he k heo new)
theorem Inv.pins_of {pins' : List (Addr × Obj)} (I : Inv X pins σ H s) (h : ∀ p ∈ pins', s.heap.get? p.1 = some p.2 ∧ H p.1 = none ∧ p.1 ≠ X.env.locals ∧ p.1 ∉ X.fs ∧ ∀ v, p.2.data ≠ .cell v) : Inv X pins' σ H s :=
  ⟨I.ok, I.os, I.bare, I.base, I.loc, I.cell, I.free, I.freeC, fun p hp => (List.mem_append.mp hp).elim (fun z => I.pin p (List.mem_append_left _ z)) (h p), I.hok, I.len⟩

theorem nodup_ix {N : List Str} (hN : N.Nodup) {i j : Nat} {x : Str} (a : N[i]? = some x) (b : N[j]? = some x) : i = j := by
  obtain ⟨h1, e1⟩ := List.getElem?_eq_some_iff.mp a
  obtain ⟨h2, e2⟩ := List.getElem?_eq_some_iff.mp b
  exact (List.getElem_inj hN).mp (e1.trans e2.symm)

/-- a name is stored; what changed -/
theorem store_ok2 {M : Model} {A : Around} {E : Value → Shared → Prop} {i : Nat} {x : Str} {v : V} {u : Value} {Q : Unit → Shared → Prop} (I : Inv X pins σ H s) (hN : X.N.Nodup) (hi : X.N[i]? = some x) (hx : Loc X.env.scope x) (r : RelV v u)
    (h : ∀ s', Inv X pins (σ.set i (some v)) H s' → (∃ a, Heap.SameBut a s.heap s'.heap ∧ (a = X.env.locals ∨ X.env.cells.lookup x = some a)) → Q () s') (hf : X.fn x = true ∨ X.env.scope.names.lookup x = some .local := by first | exact .inl rfl | exact .inr rfl | assumption) : wpAny M A (storeName X.env x u) Q E s := by
  obtain ⟨m, hn, hl⟩ := id I.loc
  have hcls : (X.env.scope.kind == .class || (X.env.scope.kind == .module && X.env.locals != X.env.globals)) = false := by rw [I.ok.kind]; rfl
  have hiσ : i < σ.length := by rw [I.len]; exact (List.getElem?_eq_some_iff.mp hi).1
  have cne := I.cne
  have tracked : ∀ {a : Addr} {h' : Heap}, (∃ o, s.heap.get? a = some o ∧ H a = none) → Heap.SameBut a s.heap h' → HOk X.prog X.w H h' := fun {a h'} ha hs b ob e => by
    obtain ⟨_, _, hfree⟩ := ha
    refine (I.hok b ob e).stay (fun c w' hc q => (hs.2 c ?_).trans q) (fun _ q => q) fun _ _ q => q
    rintro rfl
    rcases hc with rfl | hc
    · rw [hfree] at e; cases e
    · rw [hfree] at hc; cases hc
  rcases hx with hk | hk
  · refine wpAny_storeName_local hk hn (fun h' hn' hs => ?_) hcls
    obtain ⟨oL, _, _, hoL, _⟩ := id hn
    refine h _ ⟨I.ok, I.os, I.bare, ⟨fun b o e n hb hx => ?_, fun b o e n hb hx => ?_, I.base.free, fun b o e hx => ?_, I.base.tups, I.base.frzs, I.base.tbls⟩, ⟨_, hn', fun j y v' e1 e2 e3 => ?_⟩, fun y c e => ?_, I.free, I.freeC, fun p hp => ?_, tracked ⟨oL, hoL, I.free⟩ hs, by simpa using I.len⟩ ⟨_, hs, .inl rfl⟩
    · exact (hs.2 b (Nat.ne_of_lt (Nat.lt_of_lt_of_le (Heap.lt_size e) I.ok.above))).trans (I.base.keep b o e n hb hx)
    · obtain ⟨sl, e1⟩ := I.base.slot b o e n hb hx
      exact ⟨sl, (hs.2 b (Nat.ne_of_lt (Nat.lt_of_lt_of_le (Heap.lt_size e) I.ok.above))).trans e1⟩
    · obtain ⟨o', e1⟩ := I.base.there b o e hx
      exact ⟨o', (hs.2 b (Nat.ne_of_lt (Nat.lt_of_lt_of_le (Heap.lt_size e) I.ok.above))).trans e1⟩
    · by_cases hj : j = i
      · subst hj
        rw [hi] at e1; cases e1
        rw [List.getElem?_set_self hiσ] at e2
        cases e2
        exact ⟨u, r, .inl ⟨hk, by simp⟩⟩
      · rw [List.getElem?_set_ne (Ne.symm hj)] at e2
        obtain ⟨u', r', q⟩ := hl j y v' e1 e2 e3
        refine ⟨u', r', ?_⟩
        rcases q with ⟨k, e⟩ | ⟨k, c, e, z⟩
        · refine .inl ⟨k, ?_⟩
          have : y ≠ x := fun e => hj (nodup_ix hN e1 (e ▸ hi))
          simp [this, e]
        · exact .inr ⟨k, c, e, z.sameBut hs (cne y c e)⟩
    · obtain ⟨w', z⟩ := I.cell y c e
      exact ⟨w', z.sameBut hs (cne y c e)⟩
    · obtain ⟨e, n, ne, nf, d⟩ := I.pin p hp
      exact ⟨(hs.2 p.1 ne).trans e, n, ne, nf, d⟩
  · have hfn : X.fn x = true := by
      rcases hf with z | z
      · exact z
      · rw [z] at hk; cases hk
    obtain ⟨c, hc⟩ := I.ok.has x (.inl hk)
    obtain ⟨w', z⟩ := I.cell x c hc
    refine wpAny_storeName_cell I.ok.kind hk hc z (fun h' hc' hs => ?_)
    obtain ⟨oc, hoc, hocd⟩ := id z
    refine h { s with heap := h' } ⟨I.ok, I.os, I.bare, ⟨fun b o e n hb hx => ?_, fun b o e n hb hx => ?_, I.base.free, fun b o e hx => ?_, I.base.tups, I.base.frzs, I.base.tbls⟩, ⟨m, hn.sameBut hs (Ne.symm (cne x c hc)), fun j y v' e1 e2 e3 => ?_⟩, fun y c' e => ?_, I.free, I.freeC, fun p hp => ?_, tracked ⟨oc, hoc, I.freeC x c hc⟩ hs, by simpa using I.len⟩ ⟨c, hs, .inr hc⟩
    · exact (hs.2 b (Nat.ne_of_lt (Nat.lt_of_lt_of_le (Heap.lt_size e) (I.ok.cab x c hfn hc)))).trans (I.base.keep b o e n hb hx)
    · obtain ⟨sl, e1⟩ := I.base.slot b o e n hb hx
      exact ⟨sl, (hs.2 b (Nat.ne_of_lt (Nat.lt_of_lt_of_le (Heap.lt_size e) (I.ok.cab x c hfn hc)))).trans e1⟩
    · obtain ⟨o', e1⟩ := I.base.there b o e hx
      exact ⟨o', (hs.2 b (Nat.ne_of_lt (Nat.lt_of_lt_of_le (Heap.lt_size e) (I.ok.cab x c hfn hc)))).trans e1⟩
    · by_cases hj : j = i
      · subst hj
        rw [hi] at e1; cases e1
        rw [List.getElem?_set_self hiσ] at e2
        cases e2
        exact ⟨u, r, .inr ⟨.inl hk, c, hc, hc'⟩⟩
      · rw [List.getElem?_set_ne (Ne.symm hj)] at e2
        obtain ⟨u', r', q⟩ := hl j y v' e1 e2 e3
        refine ⟨u', r', ?_⟩
        rcases q with q | ⟨k, c', e, z'⟩
        · exact .inl q
        · refine .inr ⟨k, c', e, z'.sameBut hs ?_⟩
          rintro rfl
          exact hj (nodup_ix hN e1 (I.ok.inj _ _ _ e hc ▸ hi))
    · by_cases hcc : c' = c
      · subst hcc; exact ⟨_, hc'⟩
      · obtain ⟨w2, z2⟩ := I.cell y c' e
        exact ⟨w2, z2.sameBut hs hcc⟩
    · obtain ⟨e, n, ne, nf, d⟩ := I.pin p hp
      refine ⟨(hs.2 p.1 ?_).trans e, n, ne, nf, d⟩
      intro q
      rw [q, hoc] at e
      have q' : oc = p.2 := Option.some.inj e
      exact d w' (by rw [← q']; exact hocd)
theorem store_ok {M : Model} {A : Around} {E : Value → Shared → Prop} {i : Nat} {x : Str} {v : V} {u : Value} {Q : Unit → Shared → Prop} (I : Inv X pins σ H s) (hN : X.N.Nodup) (hi : X.N[i]? = some x) (hx : Loc X.env.scope x) (r : RelV v u)
    (h : ∀ s', Inv X pins (σ.set i (some v)) H s' → Q () s') (hf : X.fn x = true ∨ X.env.scope.names.lookup x = some .local := by first | exact .inl rfl | exact .inr rfl | assumption) : wpAny M A (storeName X.env x u) Q E s :=
  store_ok2 I hN hi hx r (fun s' I' _ => h s' I') hf
/-- behind a call or a block, the state as it is -/
theorem Inv.call' {s' : Shared} {ch : List Addr} (I : Inv X pins σ H s) (ho : s'.os = s.os) (u : Un (frs X.stack) ch H H' s.heap s'.heap) (hok : HOk X.prog X.w H' s'.heap) (hg : AllBare s'.gens)
    (hch : ∀ b ∈ ch, (b ∈ X.ex ∨ X.s₀.heap.objs.size ≤ b) ∧ b ≠ X.env.locals ∧ (∀ x c, X.env.cells.lookup x = some c → c ≠ b) ∧ ∀ p ∈ X.pn ++ pins, p.1 ≠ b) : Inv X pins σ H' s' := by
  obtain ⟨h', g', d', t', o'⟩ := s'
  have e : o' = s.os := ho
  subst e
  exact I.call (g' := g') (t' := t') (d' := d') u hok hg hch
end

/-! ### the judgements -/
/-- an exception: its class, its own dict's address (where it has one), the abstract heap behind it -/
abbrev XK := Value → Option Addr → Hp → Prop
abbrev St := List (Option V)
abbrev VK := V → Hp → Prop
/-- an expression's reading; a test's; an argument list's -/
abbrev TE := St → Hp → VK → Prop
abbrev TT := St → Hp → (Bool → Hp → Prop) → Prop
abbrev TA := St → Hp → (List V → Hp → Prop) → Prop
/-- what is wanted behind a statement -/
structure Ends where
  nx : St → Hp → Prop
  rt : VK
  bk : St → Hp → Prop := fun _ _ => False
  ct : St → Hp → Prop := fun _ _ => False
abbrev TS := Ends → St → Hp → Prop

def EP (X : Cx) (pins : List (Addr × Obj)) (σ : St) (Q : VK) (u : Value) (s' : Shared) : Prop := ∃ v H', Inv X pins σ H' s' ∧ RelV v u ∧ Q v H'
def TP (X : Cx) (pins : List (Addr × Obj)) (σ : St) (Q : Bool → Hp → Prop) (b : Bool) (s' : Shared) : Prop := ∃ H', Inv X pins σ H' s' ∧ Q b H'
def AP (X : Cx) (pins : List (Addr × Obj)) (σ : St) (Q : List V → Hp → Prop) (us : List Value) (s' : Shared) : Prop := ∃ vs H', Inv X pins σ H' s' ∧ Vals vs us ∧ Q vs H'
def SP (X : Cx) (pins : List (Addr × Obj)) (D : Ends) (f : Flow) (s' : Shared) : Prop :=
  match f with
  | .next => ∃ σ' H', Inv X pins σ' H' s' ∧ D.nx σ' H'
  | .brk => ∃ σ' H', Inv X pins σ' H' s' ∧ D.bk σ' H'
  | .cont => ∃ σ' H', Inv X pins σ' H' s' ∧ D.ct σ' H'
  | .ret u => ∃ v σ' H', Inv X pins σ' H' s' ∧ RelV v u ∧ D.rt v H'

def PE (X : Cx) (e : Expr) (t : TE) : Prop :=
  ∀ (pins : List (Addr × Obj)) (s : Shared) (σ : St) (H : Hp) (Q : VK), Inv X pins σ H s → t σ H Q → wpAny (model X.prog X.w) X.A (eval e X.env) (EP X pins σ Q) X.xe s
def PT (X : Cx) (e : Expr) (t : TT) : Prop :=
  ∀ (pins : List (Addr × Obj)) (s : Shared) (σ : St) (H : Hp) (Q : Bool → Hp → Prop), Inv X pins σ H s → t σ H Q → wpAny (model X.prog X.w) X.A (isTrue e X.env (eval e X.env)) (TP X pins σ Q) X.xe s
/-- a test whatever its 'whole' is (and, or) -/
def PW (X : Cx) (e : Expr) (t : TT) : Prop :=
  ∀ (whole : Sem Value) (pins : List (Addr × Obj)) (s : Shared) (σ : St) (H : Hp) (Q : Bool → Hp → Prop), Inv X pins σ H s → t σ H Q → wpAny (model X.prog X.w) X.A (isTrue e X.env whole) (TP X pins σ Q) X.xe s
theorem PW.pt {X : Cx} {e : Expr} {t : TT} (h : PW X e t) : PT X e t := h _
/-- an argument list (no star), from the left -/
def PA (X : Cx) (es : List Expr) (t : TA) : Prop :=
  ∀ (pos : Pos) (pins : List (Addr × Obj)) (s : Shared) (σ : St) (H : Hp) (Q : List V → Hp → Prop), Inv X pins σ H s → t σ H Q → wpAny (model X.prog X.w) X.A (spliced (backTo pos (starEach es X.env))) (AP X pins σ Q) X.xe s
def PS (X : Cx) (st : Stmt) (t : TS) : Prop :=
  ∀ (pins : List (Addr × Obj)) (s : Shared) (σ : St) (H : Hp) (D : Ends), Inv X pins σ H s → t D σ H → wpAny (model X.prog X.w) X.A (exec st X.env) (SP X pins D) X.xe s
def PSs (X : Cx) (st : List Stmt) (t : TS) : Prop :=
  ∀ (pins : List (Addr × Obj)) (s : Shared) (σ : St) (H : Hp) (D : Ends), Inv X pins σ H s → t D σ H → wpAny (model X.prog X.w) X.A (execs st X.env) (SP X pins D) X.xe s
/-- weaken the end -/
theorem thn {α : Type} {t : Sem α} {Q Q' : α → Shared → Prop} {M : Model} {A : Around} {E : Value → Shared → Prop} {s : Shared} (h : wpAny M A t Q E s) (hQ : ∀ a s, Q a s → Q' a s) : wpAny M A t Q' E s := wpAny_mono h hQ fun _ _ x => x
end L2

namespace L2
open PySem PySem.Spec PyProof.Rows
section
variable {X : Cx}

/-! ### names and constants -/
def tVar (i : Nat) : TE := fun σ H Q => ∃ v, σ[i]? = some (some v) ∧ Q v H
def tC (v : V) : TE := fun _ H Q => Q v H
theorem pe_var {i : Nat} {x : Str} {pos : Pos} (hN : X.N[i]? = some x) (hv : Vis X.env.scope x) (hd : (x == ("__debug__" : Str)) = false := by decide) (hcd : (x == ("__classdict__" : Str)) = false := by decide) : PE X (.Name x pos) (tVar i) := by
  intro pins s σ H Q I h
  obtain ⟨v, e, h⟩ := h
  obtain ⟨m, hn, hl⟩ := I.loc
  obtain ⟨u, r, l⟩ := hl i x v hN e hv
  have fin : EP X pins σ Q u s := ⟨v, H, I, r, h⟩
  rcases l with ⟨hk, hm⟩ | ⟨hk, c, hc, hcell⟩
  · exact wpAny_Name (wpAny_loadName_local I.ok.kind hk hn hm fin) hd
  · rcases hk with hk | hk
    · exact wpAny_Name (wpAny_loadName_cell I.ok.kind hk hc hcell fin) hd
    · exact wpAny_Name (wpAny_loadName_free I.ok.kind hk hc hcell fin hcd) hd
theorem pe_int {i j pos} : PE X (.Constant (.int i) j pos) (tC (.int i)) := fun _ _ _ H _ I h => wpAny_Constant_int ⟨.int i, H, I.tok _, ⟨_, rfl⟩, h⟩
theorem pe_bl {b j pos} : PE X (.Constant (.bool b) j pos) (tC (.bl b)) := fun _ _ _ H _ I h => Constant_bool ⟨.bl b, H, I, rfl, h⟩
theorem pe_non {j pos} : PE X (.Constant .none j pos) (tC .non) := fun _ _ _ H _ I h => Constant_none ⟨.non, H, I, rfl, h⟩

/-- a global name of the def -/
def Gl (X : Cx) (x : Str) : Prop := X.env.kindOf x = some .globalImplicit
theorem ld_glob {E : Value → Shared → Prop} {pins : List (Addr × Obj)} {s : Shared} {σ : St} {H : Hp} {x : Str} {u : Value} {pos : Pos} {Q : Value → Shared → Prop} (I : Inv X pins σ H s) (hg : Gl X x) (hm : X.mg x = some u) (h : Q u s)
    (hd : (x == ("__debug__" : Str)) = false := by decide) : wpAny (model X.prog X.w) X.A (eval (.Name x pos) X.env) Q E s :=
  Calls.Name_function_global I.ok.kind hg (Calls.loadGlobal_global (by rw [I.ok.glob]; exact I.mod.glob.keeps I.bk) hm h) hd
theorem ld_blt {E : Value → Shared → Prop} {pins : List (Addr × Obj)} {s : Shared} {σ : St} {H : Hp} {x : Str} {u : Value} {pos : Pos} {Q : Value → Shared → Prop} (I : Inv X pins σ H s) (hg : Gl X x) (hm : X.mg x = none) (hv : bootBuiltins x = some u) (h : Q u s)
    (hn : x ≠ "__name__" := by decide) (hd : (x == ("__debug__" : Str)) = false := by decide) : wpAny (model X.prog X.w) X.A (eval (.Name x pos) X.env) Q E s := by
  obtain ⟨mb, h1, h2⟩ := I.mod.blt
  exact Calls.Name_function_global I.ok.kind hg (Calls.loadGlobal_builtin (by rw [I.ok.glob]; exact I.mod.glob.keeps I.bk) hm (by rw [I.ok.blt]; exact h1.keeps I.bk) ((h2 x hn).trans hv) h) hd
/-- a module's constant, a class, a function, as a value -/
theorem pe_glob {x : Str} {v : V} {u : Value} {pos : Pos} (hg : Gl X x) (hm : X.mg x = some u) (r : RelV v u) (hd : (x == ("__debug__" : Str)) = false := by decide) : PE X (.Name x pos) (tC v) :=
  fun _ _ _ H _ I h => ld_glob I hg hm ⟨v, H, I, r, h⟩ hd
theorem pe_bltn {x : Str} {v : V} {u : Value} {pos : Pos} (hg : Gl X x) (hm : X.mg x = none) (hv : bootBuiltins x = some u) (r : RelV v u) (hn : x ≠ "__name__" := by decide) (hd : (x == ("__debug__" : Str)) = false := by decide) : PE X (.Name x pos) (tC v) :=
  fun _ _ _ H _ I h => ld_blt I hg hm hv ⟨v, H, I, r, h⟩ hn hd

/-! ### arithmetic -/
variable {a b : Expr} {ta tb : TE} {pos : Pos}

/-! ### comparisons -/
/-- a comparison as a value, as a test -/
def tB (t : TE) : TT := fun σ H Q => t σ H fun x H1 => ∃ c, x = .bl c ∧ Q c H1
/-- an expression whose value is a bool, as a test -/
theorem pt_val {e : Expr} {t : TE} (h : PE X e t) (he : ∀ whole, isTrue e X.env whole = (do let v ← whole; standAt e.pos; holding [v] (truthy v)) := by intro _; rfl) : PT X e (tB t) := by
  intro pins s σ H Q I hw
  refine isTrue_plain (thn (h pins s σ H _ I hw) fun v s1 ⟨x, H1, I1, r1, q1⟩ => ?_) (he _)
  obtain ⟨d, rfl, q⟩ := q1
  cases r1
  exact wpAny_truthy_bool ⟨H1, I1, q⟩

/-! ### and, or, not -/
variable {tA tB' : TT} {rest : List Expr}
def tOr (t u : TT) : TT := fun σ H Q => t σ H fun c H1 => if c = true then Q true H1 else u σ H1 Q
def tNot (t : TT) : TT := fun σ H Q => t σ H fun c H1 => Q (!c) H1
theorem pw_or1 (ha : PT X a tA) : PW X (.BoolOp .Or [a] pos) tA := by
  intro wh pins s σ H Q I h
  refine isTrue_or (thn (ha pins s σ H Q I h) fun c s1 e => ?_)
  cases c with
  | false => exact isTrue_or_nil e
  | true => exact e
theorem pw_or (ha : PT X a tA) (hb : PW X (.BoolOp .Or (b :: rest) pos) tB') : PW X (.BoolOp .Or (a :: b :: rest) pos) (tOr tA tB') := by
  intro wh pins s σ H Q I h
  refine isTrue_or (thn (ha pins s σ H _ I h) fun c s1 ⟨H1, I1, q1⟩ => ?_)
  cases c with
  | true => exact ⟨H1, I1, q1⟩
  | false => exact hb wh pins s1 σ H1 Q I1 q1
theorem pt_not (ha : PT X a tA) : PT X (.UnaryOp .Not a pos) (tNot tA) := by
  intro pins s σ H Q I h
  exact isTrue_not (ha pins s σ H (fun c H1 => Q (!c) H1) I h)
/-- .. as values (bools) -/
def tAndV (ta tb : TE) : TE := fun σ H Q => ta σ H fun x H1 => ∃ c, x = .bl c ∧ if c = true then tb σ H1 Q else Q (.bl false) H1
def tOrV (ta tb : TE) : TE := fun σ H Q => ta σ H fun x H1 => ∃ c, x = .bl c ∧ if c = true then Q (.bl true) H1 else tb σ H1 Q
def tNotV (ta : TE) : TE := fun σ H Q => ta σ H fun x H1 => ∃ c, x = .bl c ∧ Q (.bl (!c)) H1
theorem pe_one {op} {t : TE} (h : PE X a t) : PE X (.BoolOp op [a] pos) t := fun pins s σ H Q I hw => BoolOp_one (h pins s σ H Q I hw)
theorem pe_and (ha : PE X a ta) (hb : PE X (.BoolOp .And (b :: rest) pos) tb) : PE X (.BoolOp .And (a :: b :: rest) pos) (tAndV ta tb) := by
  intro pins s σ H Q I h
  refine BoolOp_and (thn (ha pins s σ H _ I h) fun v s1 ⟨x, H1, I1, r1, q1⟩ => ?_)
  obtain ⟨c, rfl, q1⟩ := q1
  cases r1
  refine wpAny_truthy_bool ?_
  cases c with
  | true => exact hb pins s1 σ H1 Q I1 q1
  | false => exact ⟨.bl false, H1, I1, rfl, q1⟩
theorem pe_or (ha : PE X a ta) (hb : PE X (.BoolOp .Or (b :: rest) pos) tb) : PE X (.BoolOp .Or (a :: b :: rest) pos) (tOrV ta tb) := by
  intro pins s σ H Q I h
  refine BoolOp_or (thn (ha pins s σ H _ I h) fun v s1 ⟨x, H1, I1, r1, q1⟩ => ?_)
  obtain ⟨c, rfl, q1⟩ := q1
  cases r1
  refine wpAny_truthy_bool ?_
  cases c with
  | false => exact hb pins s1 σ H1 Q I1 q1
  | true => exact ⟨.bl true, H1, I1, rfl, q1⟩
theorem pe_not (ha : PE X a ta) : PE X (.UnaryOp .Not a pos) (tNotV ta) := by
  intro pins s σ H Q I h
  refine UnaryOp_ (thn (ha pins s σ H _ I h) fun v s1 ⟨x, H1, I1, r1, q1⟩ => ?_)
  obtain ⟨c, rfl, q1⟩ := q1
  cases r1
  exact not_of (wpAny_truthy_bool ⟨.bl (!c), H1, I1, rfl, q1⟩)
/-- a if t else b -/
def tIf (t : TT) (ta tb : TE) : TE := fun σ H Q => t σ H fun c H1 => if c = true then ta σ H1 Q else tb σ H1 Q
theorem pe_ifExp {c : Expr} (hc : PT X c tA) (ha : PE X a ta) (hb : PE X b tb) : PE X (.IfExp c a b pos) (tIf tA ta tb) := by
  intro pins s σ H Q I h
  refine wpAny_IfExp (thn (hc pins s σ H _ I h) fun d s1 ⟨H1, I1, q1⟩ => ?_)
  cases d with
  | true => exact ha pins s1 σ H1 Q I1 q1
  | false => exact hb pins s1 σ H1 Q I1 q1
end
end L2

namespace L2
open PySem PySem.Spec PyProof.Rows

/-! ### a list, a tuple that is read: tracked, frozen, or an object of the module -/
def SqL (K : PySem.W.Frag) (H : Hp) (a : Addr) (xs : List V) : Prop :=
  Rd H a (.lst xs) ∨
    ∃ (o : Obj) (its : Array Value) (n : Nat), K.lookup a = some o ∧ o.cls = .type "list" ∧ o.dict = none ∧ o.data = .seq its n ∧ its.size ≤ sizeLine ∧ Vals xs its.toList
def SqT (K : PySem.W.Frag) (H : Hp) (a : Addr) (xs : List V) : Prop :=
  Rd H a (.tup xs) ∨
    ∃ (o : Obj) (its : Array Value) (n : Nat), K.lookup a = some o ∧ o.cls = .type "tuple" ∧ o.data = .seq its n ∧ its.size ≤ sizeLine ∧ Vals xs its.toList
def absV : Value → Option V
  | .none => some .non
  | .bool b => some (.bl b)
  | .int i _ => some (.int i)
  | .str x _ => some (.str x)
  | .bytes b _ => some (.byt b)
  | .float b _ => some (.flt b)
  | .ref a => some (.ref a)
  | .type n => some (.ty n)
  | _ => none
theorem RelV.abs {x : V} {u : Value} (r : RelV x u) : absV u = some x := by
  cases x with
  | non => cases r; rfl
  | bl _ => cases r; rfl
  | int _ => obtain ⟨t, rfl⟩ := r; rfl
  | str _ => obtain ⟨t, rfl⟩ := r; rfl
  | byt _ => obtain ⟨t, rfl⟩ := r; rfl
  | flt _ => obtain ⟨t, rfl⟩ := r; rfl
  | ref _ => cases r; rfl
  | ty _ => cases r; rfl
theorem RelV.inj {x y : V} {u : Value} (r : RelV x u) (q : RelV y u) : x = y := Option.some.inj (r.abs.symm.trans q.abs)
theorem Vals.inj : ∀ {xs ys : List V} {us : List Value}, Vals xs us → Vals ys us → xs = ys
  | _, _, _, .nil, .nil => rfl
  | _, _, _, .cons r t, .cons r' t' => by rw [r.inj r', Vals.inj t t']
section
variable {X : Cx} {pins : List (Addr × Obj)} {σ : St} {H : Hp} {s : Shared} {a : Addr} {xs ys : List V}
theorem SqL.of {K : PySem.W.Frag} (h : H a = some (.lst xs)) : SqL K H a xs := .inl (.inl h)
theorem SqT.of {K : PySem.W.Frag} (h : H a = some (.tup xs)) : SqT K H a xs := .inl (.inl h)
theorem Inv.list (I : Inv X pins σ H s) (h : SqL X.K H a xs) : ∃ its : List Value, Vals xs its ∧ PlainL s.heap a its.toArray ∧ xs.length ≤ sizeLine := by
  rcases h with h | ⟨o, its, n, hk, hc, hd, hs, hz, r⟩
  · obtain ⟨z, its, n, r, e⟩ := h.ok I.hok
    exact ⟨its, r, ⟨_, n, e, rfl, rfl, rfl⟩, z⟩
  · refine ⟨its.toList, r, ⟨o, n, I.kIn a o hk, hc, hd, by simpa using hs⟩, ?_⟩
    have e := r.length
    simp only [Array.length_toList] at e
    omega
theorem Inv.tuple (I : Inv X pins σ H s) (h : SqT X.K H a xs) : ∃ its : List Value, Vals xs its ∧ IsTup s.heap a its.toArray ∧ xs.length ≤ sizeLine := by
  rcases h with h | ⟨o, its, n, hk, hc, hs, hz, r⟩
  · obtain ⟨z, its, r, p⟩ := h.ok I.hok
    exact ⟨its, r, p, z⟩
  · refine ⟨its.toList, r, ⟨o, I.kIn a o hk, hc, n, by simpa using hs⟩, ?_⟩
    have e := r.length
    simp only [Array.length_toList] at e
    omega
theorem Inv.list_inj (I : Inv X pins σ H s) (h : SqL X.K H a xs) (h' : SqL X.K H a ys) : xs = ys := by
  obtain ⟨its, r, ⟨o, n, e, _, _, d⟩, _⟩ := I.list h
  obtain ⟨its', r', ⟨o', n', e', _, _, d'⟩, _⟩ := I.list h'
  rw [e] at e'; cases e'
  rw [d] at d'
  injection d' with d1 _
  have : its = its' := by simpa using congrArg Array.toList d1
  subst this
  exact r.inj r'
end

/-! ### another wish about exceptions -/
abbrev Cx.wish (X : Cx) (E : Value → Shared → Prop) : Cx := { X with xe := E }
/-- no exception leaves -/
abbrev Cx.nox (X : Cx) : Cx := X.wish fun _ _ => False
theorem Cx.Ok.wish {X : Cx} (ok : X.Ok) (E : Value → Shared → Prop) : (X.wish E).Ok :=
  ⟨ok.mod, ok.kind, ok.glob, ok.blt, ok.above, ok.inj, ok.has, ok.cab, ok.hd, ok.frames, ok.stk, ok.exf, ok.bs, ok.bsz, ok.noex, ok.exfs, ok.funs, ok.frf⟩
theorem Cx.Ok.unwish {X : Cx} {E : Value → Shared → Prop} (ok : (X.wish E).Ok) : X.Ok :=
  ⟨ok.mod, ok.kind, ok.glob, ok.blt, ok.above, ok.inj, ok.has, ok.cab, ok.hd, ok.frames, ok.stk, ok.exf, ok.bs, ok.bsz, ok.noex, ok.exfs, ok.funs, ok.frf⟩
section
variable {X : Cx} {pins : List (Addr × Obj)} {σ : St} {H : Hp} {s : Shared} {E : Value → Shared → Prop}
theorem Inv.wish (I : Inv X pins σ H s) (E : Value → Shared → Prop) : Inv (X.wish E) pins σ H s := ⟨I.ok.wish E, I.os, I.bare, I.base, I.loc, I.cell, I.free, I.freeC, I.pin, I.hok, I.len⟩
theorem Inv.unwish (I : Inv (X.wish E) pins σ H s) : Inv X pins σ H s := ⟨I.ok.unwish, I.os, I.bare, I.base, I.loc, I.cell, I.free, I.freeC, I.pin, I.hok, I.len⟩
theorem SP.unwish {D : Ends} {f : Flow} {s' : Shared} (h : SP (X.wish E) pins D f s') : SP X pins D f s' := by
  cases f with
  | next => obtain ⟨σ', H', I, q⟩ := h; exact ⟨σ', H', I.unwish, q⟩
  | brk => obtain ⟨σ', H', I, q⟩ := h; exact ⟨σ', H', I.unwish, q⟩
  | cont => obtain ⟨σ', H', I, q⟩ := h; exact ⟨σ', H', I.unwish, q⟩
  | ret u => obtain ⟨v, σ', H', I, r, q⟩ := h; exact ⟨v, σ', H', I.unwish, r, q⟩
theorem PE.nox {e : Expr} {t : TE} (h : PE X.nox e t) : PE X e t := fun pins s σ H Q I hw =>
  wpAny_mono (h pins s σ H Q (I.wish _) hw) (fun _ _ ⟨v, H', I', r, q⟩ => ⟨v, H', I'.unwish, r, q⟩) fun _ _ z => False.elim z
theorem PT.nox {e : Expr} {t : TT} (h : PT X.nox e t) : PT X e t := fun pins s σ H Q I hw =>
  wpAny_mono (h pins s σ H Q (I.wish _) hw) (fun _ _ ⟨H', I', q⟩ => ⟨H', I'.unwish, q⟩) fun _ _ z => False.elim z
theorem PSs.nox {st : List Stmt} {t : TS} (h : PSs X.nox st t) : PSs X st t := fun pins s σ H D I hw =>
  wpAny_mono (h pins s σ H D (I.wish _) hw) (fun _ _ q => q.unwish) fun _ _ z => False.elim z
end

/-! ### blocks and small statements -/
section
variable {X : Cx} {st : Stmt} {rest : List Stmt} {t u : TS} {e : Expr} {te : TE} {pos : Pos}
def tNext : TS := fun D σ H => D.nx σ H
def tSeq (t u : TS) : TS := fun D σ H => t { D with nx := u D } σ H
theorem pss_nil : PSs X [] tNext := fun _ _ σ H _ I h => wpAny_execs_nil ⟨σ, H, I, h⟩
theorem pss_cons (h1 : PS X st t) (h2 : PSs X rest u) : PSs X (st :: rest) (tSeq t u) := by
  intro pins s σ H D I h
  refine wpAny_execs_cons (thn (h1 pins s σ H { D with nx := u D } I h) fun f s1 q => ?_)
  cases f with
  | next =>
    obtain ⟨σ', H', I', q⟩ := q
    exact h2 pins s1 σ' H' D I' q
  | ret v => exact q
  | brk => exact q
  | cont => exact q
theorem pss_one (h1 : PS X st t) : PSs X [st] t := by
  intro pins s σ H D I h
  refine wpAny_execs_cons (thn (h1 pins s σ H D I h) fun f s1 q => ?_)
  cases f with
  | next => exact wpAny_execs_nil q
  | ret v => exact q
  | brk => exact q
  | cont => exact q
/-- in a def's body nothing is shown -/
theorem Inv.quiet {pins : List (Addr × Obj)} {σ : St} {H : Hp} {s : Shared} (I : Inv X pins σ H s) : interactive X.env = false := by simp [interactive, I.ok.kind]
/-- an expression whose value is dropped -/
def tDrop (te : TE) : TS := fun D σ H => te σ H fun _ H1 => D.nx σ H1
theorem ps_expr (he : PE X e te) (hs : swapsWith e none pos.line X.env = pure false := by rfl) : PS X (.Expr e pos) (tDrop te) := by
  intro pins s σ H D I h
  exact wpAny_Expr_any (thn (he pins s σ H _ I h) fun v s1 ⟨x, H1, I1, r1, q1⟩ => ⟨σ, H1, I1, q1⟩) I.quiet hs
def tRet (te : TE) : TS := fun D σ H => te σ H D.rt
theorem ps_ret (he : PE X e te) : PS X (.Return (some e) pos) (tRet te) := by
  intro pins s σ H D I h
  exact wpAny_Return_some (thn (he pins s σ H _ I h) fun v s1 ⟨x, H1, I1, r1, q1⟩ => ⟨x, σ, H1, I1, r1, q1⟩)
def tIfS (c : TT) (t u : TS) : TS := fun D σ H => c σ H fun b H1 => if b = true then t D σ H1 else u D σ H1
theorem ps_if {c : Expr} {a b : List Stmt} {tc : TT} (hc : PT X c tc) (ha : PSs X a t) (hb : PSs X b u) : PS X (.If c a b pos) (tIfS tc t u) := by
  intro pins s σ H D I h
  refine wpAny_If (thn (hc pins s σ H _ I h) fun d s1 ⟨H1, I1, q1⟩ => ?_)
  cases d with
  | true => exact ha pins s1 σ H1 D I1 q1
  | false => exact hb pins s1 σ H1 D I1 q1
end

/-! ### targets -/
abbrev TG := V → St → Hp → (St → Hp → Prop) → Prop
abbrev TGs := List V → St → Hp → (St → Hp → Prop) → Prop
def PG (X : Cx) (target : Expr) (t : TG) : Prop :=
  ∀ (pins : List (Addr × Obj)) (s : Shared) (σ : St) (H : Hp) (v : V) (u : Value) (Q : St → Hp → Prop), Inv X pins σ H s → RelV v u → t v σ H Q →
    wpAny (model X.prog X.w) X.A (assign target X.env u) (fun _ s' => ∃ σ' H', Inv X pins σ' H' s' ∧ Q σ' H') X.xe s
/-- several targets, one after another -/
def PGs (X : Cx) (ts : List Expr) (t : TGs) : Prop :=
  ∀ (pins : List (Addr × Obj)) (s : Shared) (σ : St) (H : Hp) (vs : List V) (us : List Value) (Q : St → Hp → Prop), Inv X pins σ H s → Vals vs us → t vs σ H Q →
    wpAny (model X.prog X.w) X.A (assignInOrder ((assignEach ts X.env).map (·.2)) us) (fun _ s' => ∃ σ' H', Inv X pins σ' H' s' ∧ Q σ' H') X.xe s
/-- o[i] = v, by values -/
abbrev TSet := V → V → V → Hp → (Hp → Prop) → Prop
def PSet (X : Cx) (t : TSet) : Prop :=
  ∀ (pins : List (Addr × Obj)) (s : Shared) (σ : St) (H : Hp) (o i v : V) (ov iv u : Value) (Q : Hp → Prop), Inv X pins σ H s → RelV o ov → RelV i iv → RelV v u → t o i v H Q →
    wpAny (model X.prog X.w) X.A (setItem ov iv u) (fun _ s' => ∃ H', Inv X pins σ H' s' ∧ Q H') X.xe s
section
variable {X : Cx} {pos : Pos}
def gName (i : Nat) : TG := fun v σ H Q => Q (σ.set i (some v)) H
theorem pg_name {i : Nat} {x : Str} (hN : X.N.Nodup) (hi : X.N[i]? = some x) (hx : Loc X.env.scope x) (hf : X.fn x = true ∨ X.env.scope.names.lookup x = some .local := by first | exact .inl rfl | exact .inr rfl | assumption) : PG X (.Name x pos) (gName i) := by
  intro pins s σ H v u Q I r h
  exact wpAny_assign_Name (store_ok I hN hi hx r (fun s' I' => ⟨_, H, I', h⟩) hf)
def gNil : TGs := fun vs σ H Q => vs = [] ∧ Q σ H
def gCons (t : TG) (u : TGs) : TGs := fun vs σ H Q => ∃ v r, vs = v :: r ∧ t v σ H fun σ' H' => u r σ' H' Q
theorem pgs_nil : PGs X [] gNil := by
  intro pins s σ H vs us Q I r h
  obtain ⟨e, h⟩ := h
  subst e
  cases r
  exact assignInOrder_nil ⟨σ, H, I, h⟩
theorem pgs_cons {e : Expr} {es : List Expr} {t : TG} {u : TGs} (h1 : PG X e t) (h2 : PGs X es u)
    (hs : (assignEach (e :: es) X.env).map (·.2) = assign e X.env :: (assignEach es X.env).map (·.2) := by rfl) : PGs X (e :: es) (gCons t u) := by
  intro pins s σ H vs us Q I r h
  obtain ⟨v, vr, e1, h⟩ := h
  subst e1
  cases r with
  | cons r rr =>
    rw [hs]
    refine assignInOrder_cons (thn (h1 pins s σ H _ _ _ I r h) fun _ s1 ⟨σ1, H1, I1, q1⟩ => ?_)
    exact h2 pins s1 σ1 H1 _ _ Q I1 rr q1
/-- (a, b, ..) = a tuple of that length -/
def gTup (K : PySem.W.Frag) (n : Nat) (t : TGs) : TG := fun v σ H Q => ∃ a xs, v = .ref a ∧ SqT K H a xs ∧ xs.length = n ∧ t xs σ H Q
theorem pg_tup {es : List Expr} {k : Nat} {t : TGs} {n : Nat} (hc : X.calm = true) (h : PGs X es t)
    (hn : (assignEach es X.env).length = n := by rfl) (hst : (assignEach es X.env).findIdx? (·.1) = none := by rfl) : PG X (.Tuple es k pos) (gTup X.K n t) := by
  intro pins s σ H v u Q I r hw
  obtain ⟨a, xs, e1, hq, hl, hw⟩ := hw
  subst e1
  cases r
  obtain ⟨its, rv, ht, hz⟩ := I.tuple hq
  refine assign_Tuple_tuple (I.ok.hd hc) ht (by simp [hn, ← hl, rv.length]) hst fun h' hx => ?_
  have I1 : Inv X pins σ H { s with heap := h' } := I.kept (t' := s.toks) fun b o e => hx b o (Nat.ne_of_lt (Heap.lt_size e)) e
  exact h pins _ σ H xs _ Q I1 (by simpa using rv) hw
/-- o[i] = .. -/
def gSub (to ti : TE) (t : TSet) : TG := fun v σ H Q => to σ H fun o H1 => ti σ H1 fun i H2 => t o i v H2 fun H3 => Q σ H3
theorem pg_sub {o i : Expr} {to ti : TE} {t : TSet} (ho : PE X o to) (hi : PE X i ti) (hs : PSet X t)
    (ha : ∀ v, assign (.Subscript o i pos) X.env v = (do
      let ov ← holding [v] (eval o X.env)
      let iv ← holding [v, ov] (eval i X.env)
      standAt pos
      holding [v, ov, iv] (setItem ov iv v)
      release [v, ov, iv] []) := by intro _; rfl) : PG X (.Subscript o i pos) (gSub to ti t) := by
  intro pins s σ H v u Q I r h
  rw [ha]
  refine wpAny_bind (wpAny_holding (thn (ho pins s σ H _ I h) fun ov s1 ⟨x, H1, I1, r1, q1⟩ => ?_))
  refine wpAny_bind (wpAny_holding (thn (hi pins s1 σ H1 _ I1 q1) fun iv s2 ⟨y, H2, I2, r2, q2⟩ => ?_))
  refine wpAny_bind (wpAny_standAt (wpAny_bind (wpAny_holding (thn (hs pins s2 σ H2 x y v ov iv u _ I2 r1 r2 r q2) fun _ s3 ⟨H3, I3, q3⟩ => ?_))))
  exact wpAny_release ⟨σ, H3, I3, q3⟩
/-- target = value -/
def tAsg (te : TE) (g : TG) : TS := fun D σ H => te σ H fun x H1 => g x σ H1 D.nx
theorem ps_asg {tg e : Expr} {te : TE} {g : TG} (he : PE X e te) (hg : PG X tg g) (hs : swapsWithSole [tg] e pos.line X.env = pure false := by rfl) (hw : swappedStores [tg] e X.env = pure none := by rfl)
    (h1 : (assignEach [tg] X.env).map (·.2) = [assign tg X.env] := by rfl) : PS X (.Assign [tg] e pos) (tAsg te g) := by
  intro pins s σ H D I h
  refine wpAny_Assign_stores (thn (he pins s σ H _ I h) fun v s1 ⟨x, H1, I1, r1, q1⟩ => ?_) hs hw
  rw [h1]
  exact thn (hg pins s1 σ H1 x v _ I1 r1 q1) fun _ s2 q => q
/-- name = value -/
theorem ps_set {i : Nat} {x : Str} {e : Expr} {te : TE} {pos' : Pos} (hN : X.N.Nodup) (hi : X.N[i]? = some x) (hx : Loc X.env.scope x) (he : PE X e te) (hs : swapsWith e (some (.Name x pos')) pos.line X.env = pure false := by rfl) (hf : X.fn x = true ∨ X.env.scope.names.lookup x = some .local := by first | exact .inl rfl | exact .inr rfl | assumption) :
    PS X (.Assign [.Name x pos'] e pos) (tAsg te (gName i)) := by
  intro pins s σ H D I h
  refine wpAny_Assign_Name (thn (he pins s σ H _ I h) fun v s1 ⟨y, H1, I1, r1, q1⟩ => ?_) hs
  exact store_ok I1 hN hi hx r1 (fun s2 I2 => ⟨_, H1, I2, q1⟩) hf
end

/-! ### while -/
section
variable {X : Cx} {pos : Pos}
end

/-! ### what a loop or a comprehension walks -/
/-- at turn i: it yields x (the heap may grow), or it stops -/
structure It where
  go : Nat → Hp → Prop
  yld : Nat → Hp → V → Hp → Prop
  stop : Nat → Hp → Prop
/-- the iterator's own objects may turn: they are not the frame's, not pinned, younger than the entry (or a comprehension's own) -/
def FpOk (X : Cx) (pins : List (Addr × Obj)) (H : Hp) (b : Addr) : Prop :=
  H b = none ∧ b ≠ X.env.locals ∧ b ∉ X.fs ∧ (b ∈ X.ex ∨ X.s₀.heap.objs.size ≤ b) ∧ (∀ x c, X.env.cells.lookup x = some c → c ≠ b) ∧ ∀ p ∈ X.pn ++ pins, p.1 ≠ b
theorem Inv.fpOk {X : Cx} {pins : List (Addr × Obj)} {σ : St} {H H' : Hp} {s : Shared} {b : Addr} (I : Inv X pins σ H s) (hb : s.heap.objs.size ≤ b) (hn : H' b = none) : FpOk X pins H' b := by
  refine ⟨hn, Nat.ne_of_gt (Nat.lt_of_lt_of_le I.lt hb), I.nofs hb, .inr (Nat.le_trans I.sz hb), fun x c e z => ?_, fun p hp z => ?_⟩
  · obtain ⟨v, q⟩ := I.cell x c e
    exact absurd (Nat.lt_of_lt_of_le q.lt (by rw [z]; exact hb)) (Nat.lt_irrefl _)
  · exact absurd (Nat.lt_of_lt_of_le (Heap.lt_size (I.pin p hp).1) (by rw [z]; exact hb)) (Nat.lt_irrefl _)
structure Turn (P : Program) (w : World) (K : PySem.W.Frag) (tg : Expr) (J : It) (fp : List Addr) (it : Addr) (tn : Nat → Heap → Prop) : Prop where
  mem : it ∈ fp
  obj : ∀ i h, tn i h → ∀ b ∈ fp, ∃ o, h.get? b = some o ∧ ∀ v, o.data ≠ .cell v
  keep : ∀ i h h', tn i h → (∀ b ∈ fp, ∀ o, h.get? b = some o → h'.get? b = some o) → tn i h'
  item : ∀ (X : Cx), X.prog = P → X.w = w → X.K = K → X.calm = true → ∀ (i : Nat) (pins : List (Addr × Obj)) (s : Shared) (σ : St) (H : Hp) (E : Value → Shared → Prop), Inv X pins σ H s → (∀ b ∈ fp, FpOk X pins H b) → tn i s.heap → J.go i H →
    wpAny (model P w) X.A (pyNext (.ref it)) (fun r s1 => ∃ u, r = some u ∧
      wpAny (model P w) X.A (letOwnedTupleGo tg (.ref it) u) (fun _ s2 => ∃ x H', Inv X pins σ H' s2 ∧ RelV x u ∧ J.yld i H x H' ∧ tn (i + 1) s2.heap ∧ ∀ b ∈ fp, H' b = none) E s1) E s
  done : ∀ (X : Cx), X.prog = P → X.w = w → X.K = K → X.calm = true → ∀ (i : Nat) (pins : List (Addr × Obj)) (s : Shared) (σ : St) (H : Hp) (E : Value → Shared → Prop), Inv X pins σ H s → (∀ b ∈ fp, FpOk X pins H b) → tn i s.heap → J.stop i H →
    wpAny (model P w) X.A (pyNext (.ref it)) (fun r s1 => r = none ∧ Inv X pins σ H s1) E s
  self : ∀ (A : Around) (i : Nat) (s : Shared) (Q : Value → Shared → Prop) (E : Value → Shared → Prop), tn i s.heap → Q (.ref it) s → wpAny (model P w) A (pyIter (.ref it)) Q E s
abbrev TI := St → Hp → (It → Hp → Prop) → Prop
/-- an iterator has come -/
def PIE (X : Cx) (pins : List (Addr × Obj)) (σ : St) (tg : Expr) (R : It → Hp → Prop) (itv : Value) (s2 : Shared) : Prop :=
  ∃ (it : Addr) (fp : List Addr) (tn : Nat → Heap → Prop) (J : It) (H' : Hp), itv = .ref it ∧ Inv X pins σ H' s2 ∧ Turn X.prog X.w X.K tg J fp it tn ∧ tn 0 s2.heap ∧ (∀ b ∈ fp, FpOk X pins H' b) ∧ R J H'
def PI (X : Cx) (tg iter : Expr) (wi : TI) : Prop :=
  ∀ (pins : List (Addr × Obj)) (s : Shared) (σ : St) (H : Hp) (R : It → Hp → Prop), Inv X pins σ H s → wi σ H R →
    wpAny (model X.prog X.w) X.A (eval iter X.env) (fun v s1 => wpAny (model X.prog X.w) X.A (pyIter v) (PIE X pins σ tg R) X.xe s1) X.xe s

/-- the step ahead of the store is nothing for an iterator that keeps no tuple -/
theorem go_of {M : Model} {A : Around} {E : Value → Shared → Prop} {s : Shared} {tg : Expr} {it : Addr} {u : Value} {o : Obj} {n : String} {vs : Array Value} {Q : Unit → Shared → Prop} (ho : s.heap.get? it = some o) (hc : o.cls = .type n) (hd : o.data = .fields vs)
    (hn : ["enumerate", "zip", "dict_itemiterator", "dict_reverseitemiterator", "odict_iterator", "itertools.zip_longest", "itertools.pairwise"].contains n = false) (hQ : Q () s) : wpAny M A (letOwnedTupleGo tg (.ref it) u) Q E s := by
  unfold letOwnedTupleGo
  cases tg <;> first
    | exact wpAny_pure hQ
    | (cases u <;> first
        | exact wpAny_pure hQ
        | (refine wpAny_bind (wpAny_load ho ?_)
           rw [hc, hd]
           show wpAny M A (if (["enumerate", "zip", "dict_itemiterator", "dict_reverseitemiterator", "odict_iterator", "itertools.zip_longest", "itertools.pairwise"].contains n && vs[0]? == some (rawInt _)) = true then _ else _) Q E s
           rw [if_neg (by intro h; rw [hn, Bool.false_and] at h; cases h)]
           exact wpAny_pure hQ))

/-- the list at a, as it stands at each turn (a loop may append to it) -/
def Itl (K : PySem.W.Frag) (a : Addr) : It :=
  ⟨fun i H => ∃ xs x, SqL K H a xs ∧ xs[i]? = some x, fun i H x H' => H' = H ∧ ∀ xs, SqL K H a xs → xs[i]? = some x, fun i H => ∃ xs, SqL K H a xs ∧ xs.length ≤ i⟩
/-- lo, lo + 1, .. (n of them) -/
def Itr (lo : Int) (n : Nat) : It := ⟨fun i _ => i < n, fun i H x H' => H' = H ∧ x = .int (lo + i), fun i _ => n ≤ i⟩
theorem turn_list {P : Program} {w : World} {K : PySem.W.Frag} {tg : Expr} (a it : Addr) : Turn P w K tg (Itl K a) [it] it (fun i h => h.IsListIter it a i) where
  mem := by simp
  obj := fun i h st b hb => by
    have e : b = it := by simpa using hb
    subst e
    obtain ⟨o, e, c, d⟩ := st
    exact ⟨o, e, fun v z => by rw [d] at z; cases z⟩
  keep := fun i h h' st k => st.at fun o e => k it (by simp) o e
  item := by
    intro X hP hw hK hc i pins s σ H E I hf st hg
    subst hP hw hK
    obtain ⟨xs, x, hq, hx⟩ := hg
    obtain ⟨its, rv, p, hz⟩ := I.list hq
    obtain ⟨u, hu, ru⟩ := rv.get hx
    obtain ⟨f0, f1, f2, f3, f4, f5⟩ := hf it (by simp)
    refine wpAny_pyNext_list_item st p.isList (x := u) (by simpa using hu) fun h' st' sb => ?_
    have I1 : Inv X pins σ H { s with heap := h' } := I.turned (t' := s.toks) (fun b o hb e => (sb.2 b hb).trans e) f0 f1 f3 f4 f5
    obtain ⟨o, e, c, d⟩ := id st'
    exact ⟨u, rfl, go_of (s := { s with heap := h' }) e c d (by decide) ⟨x, H, I1, ru, ⟨rfl, fun ys hy => by rw [I.list_inj hy hq]; exact hx⟩, st', fun b hb => (hf b hb).1⟩⟩
  done := by
    intro X hP hw hK hc i pins s σ H E I hf st hg
    subst hP hw hK
    obtain ⟨xs, hq, hx⟩ := hg
    obtain ⟨its, rv, p, hz⟩ := I.list hq
    obtain ⟨f0, f1, f2, f3, f4, f5⟩ := hf it (by simp)
    have hl := rv.length
    exact wpAny_pyNext_list_end (I.ok.hd hc) st p.isList (by simp; omega) fun h' eb => ⟨rfl, I.turned (t' := s.toks) (fun b o hb e => eb b o hb e) f0 f1 f3 f4 f5⟩
  self := fun _ _ _ _ _ st h => wpAny_pyIter_listiter st h
theorem turn_range {P : Program} {w : World} {K : PySem.W.Frag} {tg : Expr} (it : Addr) (lo : Int) (n : Nat) : Turn P w K tg (Itr lo n) [it] it (fun i h => IsRangeIter h it (lo + (i : Nat) * 1) ((n : Int) - (i : Nat)) 1) where
  mem := by simp
  obj := fun i h st b hb => by
    have e : b = it := by simpa using hb
    subst e
    exact ⟨_, st, fun v z => by
      have z' : Data.fields _ = Data.cell v := z
      cases z'⟩
  keep := fun i h h' st k => k it (by simp) _ st
  item := by
    intro X hP hw hK hc i pins s σ H E I hf st hg
    subst hP hw hK
    obtain ⟨f0, f1, f2, f3, f4, f5⟩ := hf it (by simp)
    have W := Walks.range (prog := X.prog) (w := X.w) (I.ok.hd hc) it lo 1 n
    refine W.item i s _ _ hg st fun v h' tk hv st' kk => ?_
    obtain ⟨t, rfl⟩ := hv
    have I1 : Inv X pins σ H { s with heap := h', toks := tk } := I.turned (fun b o hb e => kk b o (by simpa using hb) e) f0 f1 f3 f4 f5
    refine ⟨_, rfl, go_of (s := { s with heap := h', toks := tk }) (n := "range_iterator") st' rfl rfl (by decide) ⟨.int (lo + i), H, I1, ⟨t, ?_⟩, ⟨rfl, rfl⟩, st', fun b hb => (hf b hb).1⟩⟩
    rw [Int.mul_one]
  done := by
    intro X hP hw hK hc i pins s σ H E I hf st hg
    subst hP hw hK
    obtain ⟨f0, f1, f2, f3, f4, f5⟩ := hf it (by simp)
    exact wpAny_pyNext_range_end (I.ok.hd hc) st (by have : n ≤ i := hg; omega) fun h' eb => ⟨rfl, I.turned (t' := s.toks) (fun b o hb e => eb b o hb e) f0 f1 f3 f4 f5⟩
  self := fun _ _ _ _ _ st h => wpAny_pyIter_rangeiter st h
end L2

namespace L2
open PySem PySem.Spec PyProof.Rows
section
variable {X : Cx} {tg : Expr}
def iList (K : PySem.W.Frag) (tl : TE) : TI := fun σ H R => tl σ H fun x H1 => ∃ a, x = .ref a ∧ (∃ xs, SqL K H1 a xs) ∧ R (Itl K a) H1
theorem pi_list {l : Expr} {tl : TE} (hl : PE X l tl) : PI X tg l (iList X.K tl) := by
  intro pins s σ H R I h
  refine thn (hl pins s σ H _ I h) fun v s1 ⟨x, H1, I1, r1, q1⟩ => ?_
  obtain ⟨a, e, ⟨xs, hq⟩, q⟩ := q1
  subst e
  cases r1
  obtain ⟨its, rv, p, hz⟩ := I1.list hq
  refine wpAny_pyIter_list p.isList ?_
  refine ⟨s1.heap.objs.size, [s1.heap.objs.size], _, _, H1, rfl, I1.kept (t' := s1.toks) fun b o e => Heap.get?_push_of_some _ e, turn_list a _, ⟨_, Heap.get?_push_size _ rfl, rfl, rfl⟩, fun b hb => ?_, q⟩
  have e : b = s1.heap.objs.size := by simpa using hb
  subst e
  exact I1.fpOk (Nat.le_refl _) (I1.hok.fresh (Nat.le_refl _))
/-- a range object just made, walked -/
theorem range_it {pins : List (Addr × Obj)} {σ : St} {H : Hp} {s : Shared} {R : It → Hp → Prop} {E : Value → Shared → Prop} {lo hi : Int} {t u v : Tok} {tk : Nat} (I : Inv X pins σ H s) (h1 : -(2 ^ 62) ≤ lo) (h2 : lo < 2 ^ 62) (h3 : -(2 ^ 62) ≤ hi) (h4 : hi < 2 ^ 62)
    (q : R (Itr lo (hi - lo).toNat) H) : wpAny (model X.prog X.w) X.A (pyIter (.ref s.heap.objs.size)) (PIE X pins σ tg R) E { s with heap := s.heap.push { cls := .type "range", data := .fields #[.int lo t, .int hi u, .int 1 v] }, toks := tk } := by
  refine wpAny_pyIter_range (IsRange.new ..) (small_one h1 h2 h3 h4) ?_
  have I1 : Inv X pins σ H { s with heap := s.heap.push { cls := .type "range", data := .fields #[.int lo t, .int hi u, .int 1 v] }, toks := tk } := I.kept fun b o e => Heap.get?_push_of_some _ e
  refine ⟨(s.heap.push { cls := .type "range", data := .fields #[.int lo t, .int hi u, .int 1 v] }).objs.size, [(s.heap.push { cls := .type "range", data := .fields #[.int lo t, .int hi u, .int 1 v] }).objs.size], _, _, H, rfl,
    I1.kept (t' := tk) fun b o e => Heap.get?_push_of_some _ e, turn_range _ lo (hi - lo).toNat, ?_, fun b hb => ?_, q⟩
  · have e1 : lo + ((0 : Nat) : Int) * 1 = lo := by simp
    have e2 : (((hi - lo).toNat : Nat) : Int) - ((0 : Nat) : Int) = Builtin.Range.rangeSize lo hi 1 := by rw [rangeSize_one]; split <;> omega
    show IsRangeIter _ _ (lo + ((0 : Nat) : Int) * 1) ((((hi - lo).toNat : Nat) : Int) - ((0 : Nat) : Int)) 1
    rw [e1, e2]
    exact Heap.get?_push_size _ rfl
  · have e : b = (s.heap.push { cls := .type "range", data := .fields #[.int lo t, .int hi u, .int 1 v] }).objs.size := by simpa using hb
    subst e
    exact I1.fpOk (Nat.le_refl _) (I1.hok.fresh (Nat.le_refl _))
def iRng1 (ta : TA) : TI := fun σ H R => ta σ H fun vs H1 => ∃ j : Int, vs = [.int j] ∧ -(2 ^ 62) ≤ j ∧ j < 2 ^ 62 ∧ R (Itr 0 j.toNat) H1
theorem pi_range1 {a : Expr} {ta : TA} {p pos : Pos} (hg : Gl X "range") (hm : X.mg "range" = none) (ha : PA X [a] ta) (hs : starEach [a] X.env = [(false, eval a X.env)] := by rfl) : PI X tg (.Call (.Name "range" p) [a] [] pos) (iRng1 ta) := by
  intro pins s σ H R I h
  refine Call_ (ld_blt I hg hm boot_range (PyProof.Rows.callWith_type1 (thn (ha pos pins s σ H _ I h) fun us s1 ⟨vs, H1, I1, r1, q1⟩ => ?_) hs rfl))
  obtain ⟨j, e, q1, q2, q⟩ := q1
  subst e
  cases r1 with
  | cons r rr =>
    cases rr
    obtain ⟨t, rfl⟩ := r
    exact call_range_1 (range_it I1 (by omega) (by omega) q1 q2 (by simpa using q))

/-! ### for -/
/-- W: the invariant by the turn and a measure; N: what the body is to reach -/
def tFor (wi : TI) (g : TG) (tb : TS) : TS := fun D σ H => wi σ H fun J H1 => ∃ W : Nat → Nat → St → Hp → Prop, (∃ m, W 0 m σ H1) ∧ ∀ i m σ H, W i m σ H →
  (J.stop i H ∧ D.nx σ H) ∨ (J.go i H ∧ ∃ N : St → Hp → Prop, (∀ σ' H', N σ' H' → ∃ m', m' < m ∧ W (i + 1) m' σ' H') ∧ ∀ x H', J.yld i H x H' → g x σ H' fun σ2 H2 => tb { D with nx := N, ct := N, bk := D.nx } σ2 H2)
/-- the records at fp as they stand -/
def pinsAt (fp : List Addr) (h : Heap) : List (Addr × Obj) := fp.filterMap fun b => (h.get? b).map fun o => (b, o)
theorem mem_pinsAt {fp : List Addr} {h : Heap} {b : Addr} {o : Obj} (hb : b ∈ fp) (e : h.get? b = some o) : (b, o) ∈ pinsAt fp h := List.mem_filterMap.mpr ⟨b, hb, by rw [e]; rfl⟩
theorem of_pinsAt {fp : List Addr} {h : Heap} {p : Addr × Obj} (hp : p ∈ pinsAt fp h) : p.1 ∈ fp ∧ h.get? p.1 = some p.2 := by
  obtain ⟨b, hb, e⟩ := List.mem_filterMap.mp hp
  cases q : h.get? b with
  | none => rw [q] at e; cases e
  | some o =>
    rw [q] at e
    have e' : (b, o) = p := Option.some.inj e
    subst e'
    exact ⟨hb, q⟩
theorem Inv.pinned {pins : List (Addr × Obj)} {σ : St} {H : Hp} {s : Shared} {fp : List Addr} (I : Inv X pins σ H s) (hf : ∀ b ∈ fp, FpOk X pins H b) (ho : ∀ b ∈ fp, ∃ o, s.heap.get? b = some o ∧ ∀ v, o.data ≠ .cell v) : Inv X (pins ++ pinsAt fp s.heap) σ H s :=
  I.pins_of fun p hp => (List.mem_append.mp hp).elim (fun z => I.pin p (List.mem_append_right _ z)) fun z => by
    obtain ⟨hb, e⟩ := of_pinsAt z
    obtain ⟨f0, f1, f2, _⟩ := hf p.1 hb
    obtain ⟨o, e', d⟩ := ho p.1 hb
    rw [e] at e'; cases e'
    exact ⟨e, f0, f1, f2, d⟩
theorem Inv.unpinned {pins pl : List (Addr × Obj)} {σ : St} {H : Hp} {s : Shared} (I : Inv X (pins ++ pl) σ H s) : Inv X pins σ H s := I.pins_of fun p hp => I.pin p (List.mem_append_right _ (List.mem_append_left _ hp))
theorem ps_for {iter : Expr} {body : List Stmt} {wi : TI} {g : TG} {tb : TS} {pos : Pos} (hp : PassesOwn (model X.prog X.w) X.A X.env X.xe) (hc : X.calm = true) (hi : PI X tg iter wi) (hg : PG X tg g) (hb : PSs X body tb)
    (hs : ∀ x, foldedSetIterable iter X.env x = pure x := by intro _; rfl) : PS X (.For tg iter body [] pos) (tFor wi g tb) := by
  intro pins s σ H D I h
  refine wpAny_For (thn (hi pins s σ H _ I h) fun v s1 h1 => thn h1 fun itv s2 h2 => ?_) hs
  obtain ⟨it, fp, tn, J, H2, e, I2, T, st2, f2, W, ⟨m0, w0⟩, turn⟩ := h2
  subst e
  -- what stays true of the iterator's objects through the loop
  have stat : ∀ {H' : Hp}, (∀ b ∈ fp, H' b = none) → ∀ b ∈ fp, FpOk X pins H' b := fun hn b hb => ⟨hn b hb, (f2 b hb).2⟩
  refine codeAny_forLoop_any (fun n s' => ∃ i σ' H', Inv X pins σ' H' s' ∧ tn i s'.heap ∧ (∀ b ∈ fp, H' b = none) ∧ W i n σ' H') ?_ m0 ⟨0, σ, H2, I2, st2, fun b hb => (f2 b hb).1, w0⟩
  rintro n s3 ⟨i, σ3, H3, I3, st3, fr3, w3⟩
  rcases turn i n σ3 H3 w3 with ⟨stop, qn⟩ | ⟨go, N, hN, step⟩
  · refine wpAny_passesOwn hp (thn (T.done X rfl rfl rfl hc i pins s3 σ3 H3 X.xe I3 (stat fr3) st3 stop) fun r s4 ⟨hr, I4⟩ => ?_)
    subst hr
    exact wpAny_execs_nil ⟨σ3, H3, I4, qn⟩
  · refine wpAny_passesOwn hp (thn (T.item X rfl rfl rfl hc i pins s3 σ3 H3 X.xe I3 (stat fr3) st3 go) fun r s4 ⟨u, hr, h4⟩ => ?_)
    subst hr
    refine wpAny_passesOwn hp (thn h4 fun _ s5 ⟨x, H5, I5, r5, y5, st5, fr5⟩ => ?_)
    have I5' := I5.pinned (stat fr5) (T.obj _ _ st5)
    refine wpAny_passesOwn hp (thn (hg _ s5 σ3 H5 x u _ I5' r5 (step x H5 y5)) fun _ s6 ⟨σ6, H6, I6, q6⟩ => ?_)
    refine wpAny_passesOwn hp (thn (hb _ s6 σ6 H6 _ I6 q6) fun f s7 q7 => ?_)
    have again : ∀ {σ7 : St} {H7 : Hp}, Inv X (pins ++ pinsAt fp s5.heap) σ7 H7 s7 → N σ7 H7 → ∃ m, m < n ∧ ∃ i σ' H', Inv X pins σ' H' s7 ∧ tn i s7.heap ∧ (∀ b ∈ fp, H' b = none) ∧ W i m σ' H' := fun {σ7 H7} I7 n7 => by
      obtain ⟨m', hm, w7⟩ := hN σ7 H7 n7
      refine ⟨m', hm, i + 1, σ7, H7, I7.unpinned, T.keep _ _ _ st5 fun b hb o e => (I7.pin (b, o) (List.mem_append_right _ (List.mem_append_right _ (mem_pinsAt hb e)))).1, fun b hb => ?_, w7⟩
      obtain ⟨o, e, d⟩ := T.obj _ _ st5 b hb
      exact (I7.pin (b, o) (List.mem_append_right _ (List.mem_append_right _ (mem_pinsAt hb e)))).2.1
    cases f with
    | next => obtain ⟨σ7, H7, I7, n7⟩ := q7; exact again I7 n7
    | cont => obtain ⟨σ7, H7, I7, n7⟩ := q7; exact again I7 n7
    | brk => obtain ⟨σ7, H7, I7, q7⟩ := q7; exact ⟨σ7, H7, I7.unpinned, q7⟩
    | ret v => obtain ⟨x7, σ7, H7, I7, r7, q7⟩ := q7; exact ⟨x7, σ7, H7, I7.unpinned, r7, q7⟩
end

/-! ### the forms one uses -/
/-- over a list that the body leaves as it is -/
theorem for_list {K : PySem.W.Frag} {a : Addr} {xs : List V} {g : TG} {tb : TS} {D : Ends} {σ : St} {H : Hp} (Pv : Nat → St → Hp → Prop) (h0 : Pv 0 σ H) (hl : ∀ i σ H, i ≤ xs.length → Pv i σ H → SqL K H a xs)
    (hs : ∀ i x σ H, xs[i]? = some x → Pv i σ H → g x σ H fun σ2 H2 => tb { D with nx := Pv (i + 1), ct := Pv (i + 1), bk := D.nx } σ2 H2) (hd : ∀ σ H, Pv xs.length σ H → D.nx σ H) :
    ∃ W : Nat → Nat → St → Hp → Prop, (∃ m, W 0 m σ H) ∧ ∀ i m σ H, W i m σ H →
      ((Itl K a).stop i H ∧ D.nx σ H) ∨ ((Itl K a).go i H ∧ ∃ N : St → Hp → Prop, (∀ σ' H', N σ' H' → ∃ m', m' < m ∧ W (i + 1) m' σ' H') ∧ ∀ x H', (Itl K a).yld i H x H' → g x σ H' fun σ2 H2 => tb { D with nx := N, ct := N, bk := D.nx } σ2 H2) := by
  refine ⟨fun i m σ H => m = xs.length - i ∧ i ≤ xs.length ∧ Pv i σ H, ⟨xs.length, by simp, Nat.zero_le _, h0⟩, ?_⟩
  rintro i m σ H ⟨rfl, hi, p⟩
  have q := hl i σ H hi p
  by_cases hlt : i < xs.length
  · refine .inr ⟨⟨xs, xs[i], q, by simp [hlt]⟩, Pv (i + 1), fun σ' H' p' => ⟨xs.length - (i + 1), by omega, rfl, hlt, p'⟩, fun x H' y => ?_⟩
    obtain ⟨e, y⟩ := y
    subst e
    exact hs i x σ _ (y xs q) p
  · have e : i = xs.length := by omega
    subst e
    exact .inl ⟨⟨xs, q, Nat.le_refl _⟩, hd σ H p⟩
theorem for_range {lo : Int} {n : Nat} {g : TG} {tb : TS} {D : Ends} {σ : St} {H : Hp} (Pv : Nat → St → Hp → Prop) (h0 : Pv 0 σ H)
    (hs : ∀ i σ H, i < n → Pv i σ H → g (.int (lo + i)) σ H fun σ2 H2 => tb { D with nx := Pv (i + 1), ct := Pv (i + 1), bk := D.nx } σ2 H2) (hd : ∀ σ H, Pv n σ H → D.nx σ H) :
    ∃ W : Nat → Nat → St → Hp → Prop, (∃ m, W 0 m σ H) ∧ ∀ i m σ H, W i m σ H →
      ((Itr lo n).stop i H ∧ D.nx σ H) ∨ ((Itr lo n).go i H ∧ ∃ N : St → Hp → Prop, (∀ σ' H', N σ' H' → ∃ m', m' < m ∧ W (i + 1) m' σ' H') ∧ ∀ x H', (Itr lo n).yld i H x H' → g x σ H' fun σ2 H2 => tb { D with nx := N, ct := N, bk := D.nx } σ2 H2) := by
  refine ⟨fun i m σ H => m = n - i ∧ i ≤ n ∧ Pv i σ H, ⟨n, by simp, Nat.zero_le _, h0⟩, ?_⟩
  rintro i m σ H ⟨rfl, hi, p⟩
  by_cases hlt : i < n
  · refine .inr ⟨hlt, Pv (i + 1), fun σ' H' p' => ⟨n - (i + 1), by omega, rfl, hlt, p'⟩, fun x H' y => ?_⟩
    obtain ⟨e, y⟩ := y
    subst e y
    exact hs i σ _ hlt p
  · have e : i = n := by omega
    subst e
    exact .inl ⟨Nat.le_refl _, hd σ H p⟩
end L2

namespace L2
open PySem PySem.Spec PyProof.Rows

abbrev R2 := V → V → Hp → VK → Prop
/-- a two-place operation on values: f is binaryOp op, inplaceOp op or compareOp op -/
def OpR (X : Cx) (f : Value → Value → Sem Value) (r : R2) : Prop :=
  ∀ (pins : List (Addr × Obj)) (s : Shared) (σ : St) (H : Hp) (x y : V) (v u : Value) (Q : VK), Inv X pins σ H s → RelV x v → RelV y u → r x y H Q →
    wpAny (model X.prog X.w) X.A (f v u) (EP X pins σ Q) X.xe s
/-- a call of a value that is known (a builtin, a type) with values -/
def CallR (X : Cx) (f : Value) (r : List V → Hp → VK → Prop) : Prop :=
  ∀ (pins : List (Addr × Obj)) (s : Shared) (σ : St) (H : Hp) (xs : List V) (us : List Value) (Q : VK), Inv X pins σ H s → Vals xs us → r xs H Q →
    wpAny (model X.prog X.w) X.A (call f us) (EP X pins σ Q) X.xe s

def tOp (r : R2) (ta tb : TE) : TE := fun σ H Q => ta σ H fun x H1 => tb σ H1 fun y H2 => r x y H2 Q
/-- ints in, under C, and a value out -/
def rI (C : Int → Int → Prop) (g : Int → Int → V) : R2 := fun x y H Q => ∃ i j, x = .int i ∧ y = .int j ∧ C i j ∧ Q (g i j) H
def rI0 (g : Int → Int → V) : R2 := fun x y H Q => ∃ i j, x = .int i ∧ y = .int j ∧ Q (g i j) H

section
variable {X : Cx} {a b c : Expr} {ta tb tc : TE} {pos : Pos}

theorem binT (ha : PE X a ta) (hb : PE X b tb) {pins : List (Addr × Obj)} {s : Shared} {σ : St} {H : Hp} {R : V → V → Hp → Prop} (I : Inv X pins σ H s)
    (h : ta σ H fun x H1 => tb σ H1 fun y H2 => R x y H2) {Q : Value → Shared → Prop} {f : Value → Value → Sem Value}
    (hf : ∀ v u s2 x y H2, Inv X pins σ H2 s2 → RelV x v → RelV y u → R x y H2 → wpAny (model X.prog X.w) X.A (f v u) Q X.xe s2) :
    wpAny (model X.prog X.w) X.A (eval a X.env) (fun v s₁ => wpAny (model X.prog X.w) X.A (eval b X.env) (fun u s₂ => wpAny (model X.prog X.w) X.A (f v u) Q X.xe s₂) X.xe s₁) X.xe s := by
  refine thn (ha pins s σ H _ I h) fun v s1 ⟨x, H1, I1, r1, q1⟩ => ?_
  refine thn (hb pins s1 σ H1 _ I1 q1) fun u s2 ⟨y, H2, I2, r2, q2⟩ => ?_
  exact hf v u s2 x y H2 I2 r1 r2 q2

theorem pe_op {op : Operator} {r : R2} (ho : OpR X (binaryOp op) r) (ha : PE X a ta) (hb : PE X b tb) : PE X (.BinOp a op b pos) (tOp r ta tb) := by
  intro pins s σ H Q I h
  exact wpAny_BinOp (binT ha hb I h fun v u s2 x y H2 I2 rx ry q => ho pins s2 σ H2 x y v u Q I2 rx ry q)

/-! ### ints -/
theorem opI {f : Value → Value → Sem Value} {C : Int → Int → Prop} {g : Int → Int → Int}
    (rule : ∀ (i j : Int) (t u : Tok) (s : Shared) (Q : Value → Shared → Prop) (E : Value → Shared → Prop), C i j → Q (.int (g i j) s.toks) { s with toks := s.toks + 1 } → wpAny (model X.prog X.w) X.A (f (.int i t) (.int j u)) Q E s) :
    OpR X f (rI C fun i j => .int (g i j)) := by
  intro pins s σ H x y v u Q I rx ry h
  obtain ⟨i, j, rfl, rfl, hc, q⟩ := h
  obtain ⟨t, rfl⟩ := rx
  obtain ⟨t', rfl⟩ := ry
  exact rule i j t t' s _ _ hc ⟨.int (g i j), H, I.tok _, ⟨_, rfl⟩, q⟩
theorem opI0 {f : Value → Value → Sem Value} {g : Int → Int → Int}
    (rule : ∀ (i j : Int) (t u : Tok) (s : Shared) (Q : Value → Shared → Prop) (E : Value → Shared → Prop), Q (.int (g i j) s.toks) { s with toks := s.toks + 1 } → wpAny (model X.prog X.w) X.A (f (.int i t) (.int j u)) Q E s) :
    OpR X f (rI0 fun i j => .int (g i j)) := by
  intro pins s σ H x y v u Q I rx ry h
  obtain ⟨i, j, rfl, rfl, q⟩ := h
  obtain ⟨t, rfl⟩ := rx
  obtain ⟨t', rfl⟩ := ry
  exact rule i j t t' s _ _ ⟨.int (g i j), H, I.tok _, ⟨_, rfl⟩, q⟩
theorem opB0 {f : Value → Value → Sem Value} {g : Int → Int → Bool}
    (rule : ∀ (i j : Int) (t u : Tok) (s : Shared) (Q : Value → Shared → Prop) (E : Value → Shared → Prop), Q (.bool (g i j)) s → wpAny (model X.prog X.w) X.A (f (.int i t) (.int j u)) Q E s) :
    OpR X f (rI0 fun i j => .bl (g i j)) := by
  intro pins s σ H x y v u Q I rx ry h
  obtain ⟨i, j, rfl, rfl, q⟩ := h
  obtain ⟨t, rfl⟩ := rx
  obtain ⟨t', rfl⟩ := ry
  exact rule i j t t' s _ _ ⟨.bl (g i j), H, I, rfl, q⟩

def CDiv (i j : Int) : Prop := 0 < j ∧ j < 1073741824
def CMul (i j : Int) : Prop := (-(2 ^ 64) < i ∧ i < 2 ^ 64) ∨ (-(2 ^ 64) < j ∧ j < 2 ^ 64)
theorem CMul.ok {i j : Int} (h : CMul i j) : IntMulOk i j := by
  rcases h with ⟨h1, h2⟩ | ⟨h1, h2⟩
  · exact .of_left (intBits_le_64 h1 h2)
  · exact .of_right (intBits_le_64 h1 h2)

theorem op_add : OpR X (binaryOp .Add) (rI0 fun i j => .int (i + j)) := opI0 fun _ _ _ _ _ _ _ q => add_int q
theorem op_mul : OpR X (binaryOp .Mult) (rI CMul fun i j => .int (i * j)) := opI fun _ _ _ _ _ _ _ hc q => mul_int q hc.ok
/-- // by a positive divisor -/
theorem op_fdiv : OpR X (binaryOp .FloorDiv) (rI CDiv fun i j => .int (i / j)) := opI fun i j _ _ _ _ _ hc q => by
  have h1 : (0 : Int) < j := hc.1
  have h2 : j < 1073741824 := hc.2
  exact floordiv_int (by omega) (by rw [Int.fdiv_eq_ediv_of_nonneg i (by omega)]; exact q) (.inl (PyProof.noPylong_small (by omega)))
/-- % by a positive divisor of any size -/
theorem op_mod : OpR X (binaryOp .Mod) (rI (fun _ j => 0 < j) fun i j => .int (i % j)) := opI fun i j _ _ _ _ _ hc q => by
  have h1 : (0 : Int) < j := hc
  exact mod_int' (by omega) (by rw [Int.fmod_eq_emod_of_nonneg i (by omega)]; exact q)

/-! ### bools among ints: n += (a < b) -/
end

/-! ### comparisons -/
/-- the scalars that == tells apart as data does -/
def scal : V → V → Bool
  | .non, .non => true | .non, .int _ => true | .int _, .non => true | .non, .bl _ => true | .bl _, .non => true | .non, .str _ => true | .str _, .non => true
  | .int _, .int _ => true | .bl _, .bl _ => true | .str _, .str _ => true | .byt _, .byt _ => true
  | .int _, .str _ => true | .str _, .int _ => true | .bl _, .str _ => true | .str _, .bl _ => true
  | _, _ => false
def rEq : R2 := fun x y H Q => scal x y = true ∧ Q (.bl (decide (x = y))) H
def rNe : R2 := fun x y H Q => scal x y = true ∧ Q (.bl (!decide (x = y))) H

theorem dec_int {i j : Int} : decide (V.int i = V.int j) = (i == j) := by
  rw [Bool.eq_iff_iff]
  simp
theorem dec_bl {i j : Bool} : decide (V.bl i = V.bl j) = (i == j) := by
  rw [Bool.eq_iff_iff]
  simp
theorem dec_str {i j : Str} : decide (V.str i = V.str j) = (i == j) := by
  rw [Bool.eq_iff_iff]
  simp
theorem dec_byt {i j : Array UInt8} : decide (V.byt i = V.byt j) = (i.toList == j.toList) := by
  rw [Bool.eq_iff_iff]
  cases i
  cases j
  simp

section
variable {X : Cx} {a b c : Expr} {ta tb tc : TE} {pos : Pos}
theorem fin_bl {pins : List (Addr × Obj)} {σ : St} {H : Hp} {s : Shared} {Q : VK} {k k' : Bool} (I : Inv X pins σ H s) (q : Q (.bl k) H) (e : k = k') : EP X pins σ Q (.bool k') s := by
  subst e
  exact ⟨.bl k, H, I, rfl, q⟩
theorem op_eq : OpR X (compareOp .Eq) rEq := by
  intro pins s σ H x y v u Q I rx ry h
  obtain ⟨hs, q⟩ := h
  cases x with
  | non =>
    cases rx
    cases y with
    | non => cases ry; exact PySem.EqNone.eq_none_none (fin_bl I q (by simp))
    | bl j => cases ry; exact PySem.EqNone.eq_none_bool (fin_bl I q (by simp))
    | int j => obtain ⟨t', rfl⟩ := ry; exact PySem.EqNone.eq_none_int (fin_bl I q (by simp))
    | str j => obtain ⟨t', rfl⟩ := ry; exact PySem.EqNone.eq_none_str (fin_bl I q (by simp))
    | _ => exact absurd (show false = true from hs) Bool.false_ne_true
  | bl i =>
    cases rx
    cases y with
    | non => cases ry; exact PySem.EqNone.eq_bool_none (fin_bl I q (by simp))
    | bl j => cases ry; exact eq_bool (fin_bl I q dec_bl)
    | str j => obtain ⟨t', rfl⟩ := ry; exact PySem.EqMixed.eq_bool_str (fin_bl I q (by simp))
    | _ => exact absurd (show false = true from hs) Bool.false_ne_true
  | int i =>
    obtain ⟨t, rfl⟩ := rx
    cases y with
    | non => cases ry; exact PySem.EqNone.eq_int_none (fin_bl I q (by simp))
    | int j => obtain ⟨t', rfl⟩ := ry; exact eq_int (fin_bl I q dec_int)
    | str j => obtain ⟨t', rfl⟩ := ry; exact PySem.EqMixed.eq_int_str (fin_bl I q (by simp))
    | _ => exact absurd (show false = true from hs) Bool.false_ne_true
  | str i =>
    obtain ⟨t, rfl⟩ := rx
    cases y with
    | non => cases ry; exact PySem.EqNone.eq_str_none (fin_bl I q (by simp))
    | bl j => cases ry; exact PySem.EqMixed.eq_str_bool (fin_bl I q (by simp))
    | int j => obtain ⟨t', rfl⟩ := ry; exact PySem.EqMixed.eq_str_int (fin_bl I q (by simp))
    | str j => obtain ⟨t', rfl⟩ := ry; exact eq_str (fin_bl I q dec_str)
    | _ => exact absurd (show false = true from hs) Bool.false_ne_true
  | byt i =>
    obtain ⟨t, rfl⟩ := rx
    cases y with
    | byt j => obtain ⟨t', rfl⟩ := ry; exact PySem.W.eq_bytes (fin_bl I q dec_byt)
    | _ => exact absurd (show false = true from hs) Bool.false_ne_true
  | _ => cases y <;> exact absurd (show false = true from hs) Bool.false_ne_true
theorem op_ne : OpR X (compareOp .NotEq) rNe := by
  intro pins s σ H x y v u Q I rx ry h
  obtain ⟨hs, q⟩ := h
  cases x with
  | non =>
    cases rx
    cases y with
    | non => cases ry; exact PySem.EqNone.ne_none_none (fin_bl I q (by simp))
    | bl j => cases ry; exact PySem.EqNone.ne_none_bool (fin_bl I q (by simp))
    | int j => obtain ⟨t', rfl⟩ := ry; exact PySem.EqNone.ne_none_int (fin_bl I q (by simp))
    | str j => obtain ⟨t', rfl⟩ := ry; exact PySem.EqNone.ne_none_str (fin_bl I q (by simp))
    | _ => exact absurd (show false = true from hs) Bool.false_ne_true
  | bl i =>
    cases rx
    cases y with
    | non => cases ry; exact PySem.EqNone.ne_bool_none (fin_bl I q (by simp))
    | bl j => cases ry; exact ne_bool (fin_bl I q (congrArg not dec_bl))
    | str j => obtain ⟨t', rfl⟩ := ry; exact PySem.EqMixed.ne_bool_str (fin_bl I q (by simp))
    | _ => exact absurd (show false = true from hs) Bool.false_ne_true
  | int i =>
    obtain ⟨t, rfl⟩ := rx
    cases y with
    | non => cases ry; exact PySem.EqNone.ne_int_none (fin_bl I q (by simp))
    | int j => obtain ⟨t', rfl⟩ := ry; exact ne_int (fin_bl I q (congrArg not dec_int))
    | str j => obtain ⟨t', rfl⟩ := ry; exact PySem.EqMixed.ne_int_str (fin_bl I q (by simp))
    | _ => exact absurd (show false = true from hs) Bool.false_ne_true
  | str i =>
    obtain ⟨t, rfl⟩ := rx
    cases y with
    | non => cases ry; exact PySem.EqNone.ne_str_none (fin_bl I q (by simp))
    | bl j => cases ry; exact PySem.EqMixed.ne_str_bool (fin_bl I q (by simp))
    | int j => obtain ⟨t', rfl⟩ := ry; exact PySem.EqMixed.ne_str_int (fin_bl I q (by simp))
    | str j => obtain ⟨t', rfl⟩ := ry; exact ne_str (fin_bl I q (congrArg not dec_str))
    | _ => exact absurd (show false = true from hs) Bool.false_ne_true
  | byt i =>
    obtain ⟨t, rfl⟩ := rx
    cases y with
    | byt j => obtain ⟨t', rfl⟩ := ry; exact PySem.W.ne_bytes (fin_bl I q (congrArg not dec_byt))
    | _ => exact absurd (show false = true from hs) Bool.false_ne_true
  | _ => cases y <;> exact absurd (show false = true from hs) Bool.false_ne_true

theorem op_lt : OpR X (compareOp .Lt) (rI0 fun i j => .bl (decide (i < j))) := opB0 fun _ _ _ _ _ _ _ q => lt_int q

/-- is None, is not None: the right side a value none -/
theorem op_isN : OpR X (compareOp .Is) (fun x y H Q => y = .non ∧ Q (.bl (decide (x = .non))) H) := by
  intro pins s σ H x y v u Q I rx ry h
  obtain ⟨rfl, q⟩ := h
  cases ry
  refine is_none_gen (fin_bl I q ?_)
  cases x <;> first
    | (cases rx; rfl)
    | (obtain ⟨t, rfl⟩ := rx; rfl)

/-- two rules for one operation: by cases -/
theorem OpR.or {f : Value → Value → Sem Value} {r r' : R2} (h : OpR X f r) (h' : OpR X f r') : OpR X f (fun x y H Q => r x y H Q ∨ r' x y H Q) := by
  intro pins s σ H x y v u Q I rx ry q
  rcases q with q | q
  · exact h pins s σ H x y v u Q I rx ry q
  · exact h' pins s σ H x y v u Q I rx ry q

theorem nomark (b : Expr) {op : CmpOp} (h : op ≠ .In := by decide) (h2 : op ≠ .NotIn := by decide) : behindInMarks op b = false := by
  have e1 : (op == CmpOp.In) = false := by cases op <;> first | rfl | exact absurd rfl h
  have e2 : (op == CmpOp.NotIn) = false := by cases op <;> first | rfl | exact absurd rfl h2
  cases b <;> simp [behindInMarks, e1, e2]
/-- a comparison as a value; hm: nomark b, or (for in, not in) by with_unfolding_all rfl -/
theorem pe_cmpR {op : CmpOp} {r : R2} (ho : OpR X (compareOp op) r) (ha : PE X a ta) (hb : PE X b tb) (hm : behindInMarks op b = false) : PE X (.Compare a [op] [b] pos) (tOp r ta tb) := by
  intro pins s σ H Q I h
  exact wpAny_Compare1 (binT ha hb I h fun v u s2 x y H2 I2 rx ry q => ho pins s2 σ H2 x y v u Q I2 rx ry q) hm
/-- a reading of a value as a test -/
def tTest (t : TE) : TT := fun σ H Q => t σ H fun x H' => ∃ k, x = .bl k ∧ Q k H'
theorem pt_cmpR {op : CmpOp} {r : R2} (ho : OpR X (compareOp op) r) (ha : PE X a ta) (hb : PE X b tb) (hm : behindInMarks op b = false) : PT X (.Compare a [op] [b] pos) (tTest (tOp r ta tb)) := by
  intro pins s σ H Q I h
  refine wpAny_isTrue_Compare1 (thn (ha pins s σ H _ I h) fun v s1 ⟨x, H1, I1, r1, q1⟩ => thn (hb pins s1 σ H1 _ I1 q1) fun u s2 ⟨y, H2, I2, r2, q2⟩ =>
    thn (ho pins s2 σ H2 x y v u _ I2 r1 r2 q2) fun c s3 ⟨z, H3, I3, r3, k, e, q3⟩ => ?_) hm
  subst e
  cases r3
  exact wpAny_truthy_bool ⟨H3, I3, q3⟩

/-! ### truth -/
theorem line63 : (sizeLine : Nat) < 2 ^ 63 := by rw [sizeLine_eq]; decide

/-! ### strs and bytes -/

/-! ### scalar builtins, by CallR -/
theorem vals2 {x y : V} {us : List Value} (r : Vals [x, y] us) : ∃ u w', us = [u, w'] ∧ RelV x u ∧ RelV y w' := by
  cases r with
  | cons r1 r2 =>
    cases r2 with
    | cons r3 r4 => cases r4; exact ⟨_, _, rfl, r1, r3⟩
end
end L2

namespace L2
open PySem PySem.Spec PyProof.Rows

/-! ### an instance, its attributes a map -/
structure ObjM (h : Heap) (x dx C : Addr) (mA : Str → Option Value) : Prop where
  obj : h.get? x = some (PySem.W.instObj C dx)
  ns : h.Ns1 dx mA
  ne : dx ≠ x

theorem lookIn_ns {h : Heap} {dx : Addr} {mA : Str → Option Value} (n : h.Ns1 dx mA) : ∃ od, h.get? dx = some od ∧ ∀ name, PySem.W.lookIn name od = some (mA name) := by
  obtain ⟨o, es, ep, ho, hd, hk, _, hm⟩ := n
  refine ⟨o, ho, fun name => ?_⟩
  have e := hm name
  unfold nsFind findBy at e
  rw [← Array.find?_toList] at e
  unfold PySem.W.lookIn
  rw [hd]
  dsimp only
  split
  · rename_i y q
    rw [q] at e
    exact congrArg some e
  · rename_i q
    rw [q] at e
    have a : es.toList.any (·.refKey) = false := by
      rw [List.any_eq_false]
      intro y hy
      obtain ⟨z, t, hkey⟩ := hk y (Array.mem_toList_iff.mp hy)
      simp [DictEntry.refKey, hkey]
    have a' : ¬ es.toList.any (·.refKey) = true := by rw [a]; exact Bool.false_ne_true
    rw [if_neg a']
    exact congrArg some e

theorem ObjM.look {h : Heap} {x dx C : Addr} {mA : Str → Option Value} (I : ObjM h x dx C mA) : ∃ od, PySem.W.InstAt h x (PySem.W.instObj C dx) C (some od) ∧ ∀ name, PySem.W.lookIn name od = some (mA name) :=
  let ⟨od, ho, hl⟩ := lookIn_ns I.ns
  ⟨od, ⟨I.obj, rfl, rfl, ho⟩, hl⟩

section
variable {prog : Program} {w : World} {A : Around} {E : Value → Shared → Prop} {s : Shared} {K : PySem.W.Frag} {x dx C f : Addr} {mA : Str → Option Value} {name : Str} {v : Value}

theorem get_map {expr : Bool} {Q : Value → Shared → Prop} (X : K.In s.heap) (I : ObjM s.heap x dx C mA) (hg : PySem.W.plainGet K C name = true) (hh : PySem.W.hasDictIn K C = true)
    (ha : PySem.W.findIn K (.ref C) name = some none) (hv : mA name = some v) (hv' : PySem.W.handedIn v = true) (h : Q v { s with toks := s.toks + 1 }) :
    wpAny (model prog w) A (getAttr (.ref x) name expr) Q E s := by
  obtain ⟨od, J, hl⟩ := I.look
  exact PySem.W.get_value X J (PySem.W.plainGet_of hg).1 (PySem.W.findObj_own hh ha rfl (by rw [hl, hv])) hv' h

theorem set_map {ns : List Str} {Q : Unit → Shared → Prop} (X : K.In s.heap) (I : ObjM s.heap x dx C mA)
    (hs : PySem.W.findIn K (.ref C) "__setattr__" = some (some (.builtin "object.__setattr__"))) (hp : PySem.W.plainOver K C = true) (ht : PySem.W.takerIn K C name = some none) (hh : PySem.W.hasDictIn K C = true)
    (hw : PySem.Within mA ns) (hsz : ns.length ≤ sizeLine)
    (h : ∀ h', ObjM h' x dx C (fun y => if y = name then some v else mA y) → Heap.SameBut dx s.heap h' → Q () { s with heap := h', toks := s.toks + 2 }) :
    wpAny (model prog w) A (setAttr (.ref x) name v) Q E s := by
  obtain ⟨od, J, hl⟩ := I.look
  refine PySem.W.set_plain X J hs (PySem.W.osa_open (s := { s with toks := s.toks + 1 }) (r := none) X J hp ht fun b => ?_)
  obtain ⟨cd, hc, hd'⟩ := PySem.W.any_some hh
  have hx : s.heap.get? x = some ⟨.ref C, some dx, .plain, #[]⟩ := I.obj
  refine wpAny_bind (wpAny_pure (wpAny_bind (wpAny_bind (wpAny_loadPart hx (wpAny_bind (PySem.W.Looks.here (s := { s with toks := s.toks + 1 }) (PySem.W.looks_clsIn X hc) ?_))))))
  rw [hd']
  refine wpAny_pure (a := some dx) (wpAny_bind (wpAny_pure (wpAny_bind ?_)))
  refine wpAny_nsSet1 (s := { s with toks := s.toks + 1 }) I.ns fun h' hn2 hs2 => ?_
  obtain ⟨oD, esD, epD, hoD, hdD, hcD⟩ := hn2.count (PySem.Within.cons name v hw)
  refine wpAny_bind (wpAny_lookBehind hoD (by rw [hdD]; exact pastItsLine_dict (Nat.le_trans hcD (by rw [List.length_cons]; omega))) ?_)
  exact wpAny_pure (h _ ⟨(hs2.2 _ (Ne.symm I.ne)).trans I.obj, hn2, I.ne⟩ hs2)

/-- C(..): the dict at the heap's end, the instance behind it; then its __init__ -/
theorem make_map {R : Result → Shared → Prop} {vs : List Value} {kw : List (Str × Value)} (X : K.In s.heap) (hm : PySem.W.makesIn K C = true)
    (hi : PySem.W.findIn K (.ref C) "__init__" = some (some (.ref f))) (hf : PySem.W.typeIn K (.ref f) = some (.type "function"))
    (h : codeAny (model prog w) (A.under (.builtin "type.__call__" ⟨.ref C :: vs, kw⟩)) (.call (.ref f) ⟨.ref (s.heap.objs.size + 1) :: vs, kw⟩) (PySem.W.InitBack (s.heap.objs.size + 1) R)
      { s with heap := (s.heap.push PySem.W.emptyDict).push (PySem.W.instObj C s.heap.objs.size) }) :
    codeAny (model prog w) A (.call (.ref C) ⟨vs, kw⟩) R s := by
  obtain ⟨hh, g, d, t, os⟩ := s
  exact PySem.W.make_core (PySem.W.makes_of X hm) (PySem.W.looks_findIn X hi) (fun self => PySem.W.bind_fn X self hf) (.inl rfl) h
end

/-! ### the attributes as a list of pairs -/
def putF (f : Str) (v : V) : List (Str × V) → List (Str × V)
  | [] => [(f, v)]
  | (g, x) :: r => if g = f then (g, v) :: r else (g, x) :: putF f v r
theorem lookup_putF (f g : Str) (v : V) : ∀ fs : List (Str × V), (putF f v fs).lookup g = if g = f then some v else fs.lookup g
  | [] => by
    show List.lookup g [(f, v)] = _
    by_cases h : g = f
    · have hb : (g == f) = true := beq_iff_eq.mpr h
      simp only [List.lookup, hb, if_pos h]
    · have hb : (g == f) = false := beq_eq_false_iff_ne.mpr h
      simp only [List.lookup, hb, if_neg h]
  | (k, x) :: r => by
    have ih := lookup_putF f g v r
    rw [show putF f v ((k, x) :: r) = (if k = f then (k, v) :: r else (k, x) :: putF f v r) from rfl]
    by_cases hk : k = f
    · rw [if_pos hk]
      by_cases h : g = k
      · have hb : (g == k) = true := beq_iff_eq.mpr h
        simp only [List.lookup, hb, if_pos (h.trans hk)]
      · have hb : (g == k) = false := beq_eq_false_iff_ne.mpr h
        simp only [List.lookup, hb, if_neg (fun e : g = f => h (e.trans hk.symm))]
    · rw [if_neg hk]
      by_cases h : g = k
      · have hb : (g == k) = true := beq_iff_eq.mpr h
        simp only [List.lookup, hb, if_neg (fun e : g = f => hk (h.symm.trans e))]
      · have hb : (g == k) = false := beq_eq_false_iff_ne.mpr h
        simp only [List.lookup, hb]
        exact ih
theorem keys_putF (f : Str) (v : V) : ∀ fs : List (Str × V), f ∈ (putF f v fs).map (·.1) ∧ ∀ g, g ∈ fs.map (·.1) → g ∈ (putF f v fs).map (·.1)
  | [] => ⟨by simp [putF], fun g h => by simp at h⟩
  | (k, x) :: r => by
    obtain ⟨i1, i2⟩ := keys_putF f v r
    rw [show putF f v ((k, x) :: r) = (if k = f then (k, v) :: r else (k, x) :: putF f v r) from rfl]
    by_cases hk : k = f
    · rw [if_pos hk]
      subst hk
      exact ⟨by simp, fun g h => by simpa using h⟩
    · rw [if_neg hk]
      refine ⟨?_, fun g h => ?_⟩
      · rw [List.map_cons]
        exact List.mem_cons_of_mem _ i1
      · rw [List.map_cons] at h ⊢
        rcases List.mem_cons.mp h with e | e
        · exact List.mem_cons.mpr (.inl e)
        · exact List.mem_cons_of_mem _ (i2 g e)
theorem length_putF (f : Str) (v : V) : ∀ fs : List (Str × V), (putF f v fs).length ≤ fs.length + 1
  | [] => by simp [putF]
  | (k, x) :: r => by
    have ih := length_putF f v r
    rw [show putF f v ((k, x) :: r) = (if k = f then (k, v) :: r else (k, x) :: putF f v r) from rfl]
    by_cases hk : k = f
    · rw [if_pos hk, List.length_cons, List.length_cons]; omega
    · rw [if_neg hk, List.length_cons, List.length_cons]; omega

theorem RelO.some_of {v : V} {o : Option Value} (r : RelO (some v) o) : ∃ u, o = some u ∧ RelV v u := by
  cases o with
  | none => exact (show False from r).elim
  | some u => exact ⟨u, rfl, r⟩
theorem RelO.none_of {o : Option Value} (r : RelO none o) : o = none := by
  cases o with
  | none => rfl
  | some u => exact (show False from r).elim
theorem handed_of {v : V} {u : Value} (r : RelV v u) : PySem.W.handedIn u = true := by
  cases v with
  | non => cases (show u = Value.none from r); rfl
  | bl b => cases (show u = Value.bool b from r); rfl
  | int i => obtain ⟨t, e⟩ := (show ∃ t, u = Value.int i t from r); cases e; rfl
  | str x => obtain ⟨t, e⟩ := (show ∃ t, u = Value.str x t from r); cases e; rfl
  | byt b => obtain ⟨t, e⟩ := (show ∃ t, u = Value.bytes b t from r); cases e; rfl
  | flt b => obtain ⟨t, e⟩ := (show ∃ t, u = Value.float b t from r); cases e; rfl
  | ref a => cases (show u = Value.ref a from r); rfl
  | ty n => cases (show u = Value.type n from r); rfl

section
variable {P : Program} {w : World} {H H' : Hp} {h h' : Heap} {a C dx : Addr} {fs fs' : List (Str × V)}
theorem ins_get (hok : HOk P w H h) (e : H a = some (.ins C dx fs)) : ∃ mA, ObjM h a dx C mA ∧ (∀ f, RelO (fs.lookup f) (mA f)) ∧ PySem.Within mA (fs.map (·.1)) ∧ fs.length ≤ 1000 ∧ H dx = some (.own a) := by
  obtain ⟨d, z, ne, ob, mA, n, r, q⟩ := (show ObjOk P w H h a (.ins C dx fs) from hok a _ e)
  exact ⟨mA, ⟨ob, n, ne⟩, r, q, z, d⟩
end

/-! ### what of the text a class must have -/
structure Cls (K : PySem.W.Frag) (C : Addr) : Prop where
  pg : PySem.W.plainGet K C Str.empty = true
  hd : PySem.W.hasDictIn K C = true
  po : PySem.W.plainOver K C = true
  sa : PySem.W.findIn K (.ref C) "__setattr__" = some (some (.builtin "object.__setattr__"))
theorem Cls.get {K : PySem.W.Frag} {C : Addr} (c : Cls K C) (f : Str) : PySem.W.plainGet K C f = true := c.pg
/-- no class of it has the name -/
def NoAttr (K : PySem.W.Frag) (C : Addr) (f : Str) : Prop := PySem.W.findIn K (.ref C) f = some none
theorem NoAttr.taker {K : PySem.W.Frag} {C : Addr} {f : Str} (n : NoAttr K C f) : PySem.W.takerIn K C f = some none := by
  unfold PySem.W.takerIn
  rw [show PySem.W.findIn K (.ref C) f = some none from n]
  rfl

section
variable {X : Cx} {pins : List (Addr × Obj)} {σ : St} {H : Hp} {s : Shared} {a C dx : Addr} {fs : List (Str × V)} {f : Str} {v : V} {A : Around} {E : Value → Shared → Prop}

theorem getattr_ok {b : Bool} {Q : Value → Shared → Prop} (I : Inv X pins σ H s) (e : H a = some (.ins C dx fs)) (c : Cls X.K C) (n : NoAttr X.K C f) (l : fs.lookup f = some v)
    (h : ∀ u s', Inv X pins σ H s' → RelV v u → Q u s') : wpAny (model X.prog X.w) A (getAttr (.ref a) f b) Q E s := by
  obtain ⟨mA, O, r, _, _, _⟩ := ins_get I.hok e
  obtain ⟨u, hu, ru⟩ := RelO.some_of (v := v) (o := mA f) (by rw [← l]; exact r f)
  exact get_map I.kIn O (c.get f) c.hd n hu (handed_of ru) (h u _ (I.tok _) ru)

theorem setattr_ok {y : V} {u : Value} {Q : Unit → Shared → Prop} (I : Inv X pins σ H s) (e : H a = some (.ins C dx fs)) (c : Cls X.K C) (n : NoAttr X.K C f) (hl : fs.length < 1000) (ry : RelV y u)
    (h : ∀ s', Inv X pins σ (upd H a (.ins C dx (putF f y fs))) s' → Q () s') : wpAny (model X.prog X.w) A (setAttr (.ref a) f u) Q E s := by
  obtain ⟨mA, O, r, wi, _, ho⟩ := ins_get I.hok e
  have hz : (fs.map (·.1)).length ≤ sizeLine := by rw [List.length_map, sizeLine_eq]; omega
  refine set_map I.kIn O c.sa c.po n.taker c.hd wi hz fun h' O' sb => h _ ?_
  have hd : ∃ o, h'.get? dx = some o := let ⟨o, _, _, e', _⟩ := O'.ns; ⟨o, e'⟩
  refine I.write (x := a) (e := dx) (by rw [e]; exact True.intro) (.inr ho) (fun b q hb z => (sb.2 b hb).trans z) hd ?_
  refine ⟨by rw [upd_ne O.ne]; exact ho, ?_, O.ne, O'.obj, _, O'.ns, fun g => ?_, fun g hg => ?_⟩
  · have := length_putF f y fs; omega
  · show RelO ((putF f y fs).lookup g) (if g = f then some u else mA g)
    rw [lookup_putF]
    by_cases q : g = f
    · rw [if_pos q, if_pos q]; exact ry
    · rw [if_neg q, if_neg q]; exact r g
  · by_cases q : g = f
    · rw [q]; exact (keys_putF f y fs).1
    · refine (keys_putF f y fs).2 g (wi g fun z => hg ?_)
      show (if g = f then some u else mA g) = none
      rw [if_neg q]; exact z

/-- a new instance, tracked, without attributes -/
theorem Inv.made (I : Inv X pins σ H s) : Inv X pins σ (upd (upd H s.heap.objs.size (.own (s.heap.objs.size + 1))) (s.heap.objs.size + 1) (.ins C s.heap.objs.size []))
    { s with heap := (s.heap.push PySem.W.emptyDict).push (PySem.W.instObj C s.heap.objs.size) } := by
  have e1 : (s.heap.push PySem.W.emptyDict).get? s.heap.objs.size = some PySem.W.emptyDict := Heap.get?_push_size s.heap rfl
  have e2 : ((s.heap.push PySem.W.emptyDict).push (PySem.W.instObj C s.heap.objs.size)).get? (s.heap.objs.size + 1) = some (PySem.W.instObj C s.heap.objs.size) := by
    have := Heap.get?_push_size (s.heap.push PySem.W.emptyDict) (o := PySem.W.instObj C s.heap.objs.size) rfl
    rwa [Heap.size_push] at this
  have e3 : (s.heap.push PySem.W.emptyDict).Ns s.heap.objs.size (fun _ => none) := ⟨PySem.W.emptyDict, #[], _, e1, rfl, (fun e he => absurd he (by simp)), fun _ => rfl⟩
  have I1 := I.laid (a := s.heap.objs.size) (o := .own (s.heap.objs.size + 1)) (h' := s.heap.push PySem.W.emptyDict) (t' := s.toks) (fun b u q => Heap.get?_push_of_some _ q) (Nat.le_refl _) ⟨_, e1⟩
  refine I1.laid (a := s.heap.objs.size + 1) (o := .ins C s.heap.objs.size []) (t' := s.toks) (fun b u q => Heap.get?_push_of_some _ q) (Nat.le_of_eq (Heap.size_push _ _)) ?_
  have ne : s.heap.objs.size ≠ s.heap.objs.size + 1 := Nat.ne_of_lt (Nat.lt_succ_self _)
  refine ⟨by rw [upd_ne ne, upd_same], Nat.zero_le _, ne, e2, fun _ => none, (Heap.Ns1.of_empty e3).at fun o q => Heap.get?_push_of_some _ q, fun _ => True.intro, fun y hy => absurd rfl hy⟩

/-- e.f where nothing but the object is asked: through attributeBase (super) and the last hold -/
theorem attr_of {prog : Program} {w : World} {env : Env} {e : Expr} {f : Str} {pos : Pos} {s : Shared} {Q : Value → Shared → Prop} (hb : attributeBase e f env (eval e env) = eval e env)
    (h : wpAny (model prog w) A (eval e env) (fun o s₁ => wpAny (model prog w) A (getAttr o f true) Q E s₁) E s) : wpAny (model prog w) A (eval (.Attribute e f pos) env) Q E s :=
  Attribute_any_ h (by rw [arm_eval_Attribute, hb])
end

/-! ### readings and rules -/
/-- e.f, an attribute of the instance -/
def tFld (K : PySem.W.Frag) (ta : TE) (f : Str) : TE := fun σ H Q => ta σ H fun x H1 => ∃ a C dx fs v, x = .ref a ∧ H1 a = some (.ins C dx fs) ∧ Cls K C ∧ NoAttr K C f ∧ fs.lookup f = some v ∧ Q v H1
/-- e.f = value -/
def sFld (K : PySem.W.Frag) (ta tv : TE) (f : Str) : TS := fun D σ H => tv σ H fun y H1 => ta σ H1 fun x H2 => ∃ a C dx fs, x = .ref a ∧ H2 a = some (.ins C dx fs) ∧ Cls K C ∧ NoAttr K C f ∧ fs.length < 1000 ∧
  D.nx σ (upd H2 a (.ins C dx (putF f y fs)))

section
variable {X : Cx} {o e value : Expr} {f : Str} {pos pos' tpos : Pos} {ta tv : TE}
theorem pe_fld (he : PE X e ta) (hb : attributeBase e f X.env (eval e X.env) = eval e X.env) : PE X (.Attribute e f pos) (tFld X.K ta f) := by
  intro pins s σ H Q I h
  refine attr_of hb (thn (he pins s σ H _ I h) fun u s1 ⟨x, H1, I1, rx, a, C, dx, fs, v, ex, ea, c, n, l, q⟩ => ?_)
  subst ex
  obtain rfl : u = Value.ref a := rx
  exact getattr_ok I1 ea c n l fun u' s2 I2 ru => ⟨v, H1, I2, ru, q⟩
theorem ps_fld (ha : PE X o ta) (hv : PE X value tv) (hs : swapsWith value (some (.Attribute o f pos')) pos.line X.env = pure false) : PS X (.Assign [.Attribute o f pos'] value pos) (sFld X.K ta tv f) := by
  intro pins s σ H D I h
  refine plainObj_wpAny_Assign_Attribute (thn (hv pins s σ H _ I h) fun u s1 ⟨y, H1, I1, ry, q⟩ => thn (ha pins s1 σ H1 _ I1 q) fun ov s2 ⟨x, H2, I2, rx, a, C, dx, fs, ex, ea, c, n, l, q2⟩ => ?_) hs
  subst ex
  obtain rfl : ov = Value.ref a := rx
  exact setattr_ok I2 ea c n l ry fun s3 I3 => ⟨σ, _, I3, q2⟩

end

/-! ### isinstance -/
section
variable {X : Cx} {pins : List (Addr × Obj)} {σ : St} {H : Hp} {s : Shared} {A : Around} {E : Value → Shared → Prop} {Q : Value → Shared → Prop} {c : Value} {b : Bool}
/-- the type of a value, as the fragment's deciders take it; for an instance its class -/
inductive TyOf (K : PySem.W.Frag) (H : Hp) : V → Value → Prop where
  | non : TyOf K H .non (.type "NoneType")
  | bl (x : Bool) : TyOf K H (.bl x) (.type "bool")
  | int (i : Int) : TyOf K H (.int i) (.type "int")
  | str (x : Str) : TyOf K H (.str x) (.type "str")
  | flt (x : UInt64) : TyOf K H (.flt x) (.type "float")
  | lst {a : Addr} {xs : List V} (e : H a = some (.lst xs)) : TyOf K H (.ref a) (.type "list")
  | frz {a : Addr} {o : Obj} {xs : List V} (e : H a = some (.frz o (.lst xs))) : TyOf K H (.ref a) (.type "list")
  | tup {a : Addr} {xs : List V} (e : H a = some (.tup xs)) : TyOf K H (.ref a) (.type "tuple")
  | dK {a : Addr} {kvs : List (Key × V)} (e : H a = some (.dK kvs)) : TyOf K H (.ref a) (.type "dict")
  | dT {a : Addr} {kvs : List (List Key × V)} (e : H a = some (.dT kvs)) : TyOf K H (.ref a) (.type "dict")
  | ins {a C dx : Addr} {fs : List (Str × V)} (e : H a = some (.ins C dx fs)) (cl : Cls K C) (ha : PySem.W.findIn K (.ref C) "__class__" = some (some (.builtin "object.__class__")))
      (hn : PySem.W.specialIn K (.builtin "object.__class__") "__get__" = some (some (.builtin "getset_descriptor.__get__"))) (htk : PySem.W.takesIn K (.builtin "object.__class__") = some true)
      (hm : PySem.W.mroIn K C (.type "object") = some true) : TyOf K H (.ref a) (.ref C)
/-- isinstance(x, c) for one class c, a built-in or an own one: kitOne's answer -/
theorem isinst_ok {x : V} {u t : Value} (I : Inv X pins σ H s) (rx : RelV x u) (ty : TyOf X.K H x t) (e : PySem.W.kitOne X.K t c = some b) (h : ∀ tk, Q (.bool b) { s with toks := tk }) :
    wpAny (model X.prog X.w) A (call (.builtin "isinstance") [u, c]) Q E s := by
  cases ty with
  | non => cases (show u = Value.none from rx); exact PySem.W.kia_one PySem.W.kitx_none I.kIn True.intro e (fun z => nomatch z) h
  | bl y => cases (show u = Value.bool y from rx); exact PySem.W.kia_one PySem.W.kitx_bool I.kIn True.intro e (fun z => nomatch z) h
  | int i => obtain ⟨t, q⟩ := (show ∃ t, u = Value.int i t from rx); cases q; exact PySem.W.kia_one PySem.W.kitx_int I.kIn True.intro e (fun z => nomatch z) h
  | str y => obtain ⟨t, q⟩ := (show ∃ t, u = Value.str y t from rx); cases q; exact PySem.W.kia_one PySem.W.kitx_str I.kIn True.intro e (fun z => nomatch z) h
  | flt y => obtain ⟨t, q⟩ := (show ∃ t, u = Value.float y t from rx); cases q; exact PySem.W.kia_one PySem.W.kitx_float I.kIn True.intro e (fun z => nomatch z) h
  | @lst a xs ea =>
    cases (show u = Value.ref a from rx)
    obtain ⟨_, _, n, _, h1⟩ := (show ObjOk X.prog X.w H s.heap a (.lst xs) from I.hok a _ ea)
    exact PySem.W.kia_one PySem.W.kitx_list I.kIn ⟨_, h1, rfl⟩ e (fun z => nomatch z) h
  | @frz a ob xs ea =>
    cases (show u = Value.ref a from rx)
    obtain ⟨_, _, _, n, _, h1⟩ := (show ObjOk X.prog X.w H s.heap a (.frz ob (.lst xs)) from I.hok a _ ea)
    exact PySem.W.kia_one PySem.W.kitx_list I.kIn ⟨_, h1, rfl⟩ e (fun z => nomatch z) h
  | @tup a xs ea =>
    cases (show u = Value.ref a from rx)
    obtain ⟨_, _, _, p⟩ := (show ObjOk X.prog X.w H s.heap a (.tup xs) from I.hok a _ ea)
    obtain ⟨o, h1, h2, _⟩ := p
    exact PySem.W.kia_one PySem.W.kitx_tuple I.kIn ⟨o, h1, h2⟩ e (fun z => nomatch z) h
  | @dK a kvs ea =>
    cases (show u = Value.ref a from rx)
    obtain ⟨_, _, vs, _, p⟩ := (show ObjOk X.prog X.w H s.heap a (.dK kvs) from I.hok a _ ea)
    obtain ⟨o, es, ep, h1, h2, _⟩ := p
    exact PySem.W.kia_one PySem.W.kitx_dict I.kIn ⟨o, h1, h2.1⟩ e (fun z => nomatch z) h
  | @dT a kvs ea =>
    cases (show u = Value.ref a from rx)
    obtain ⟨_, _, xs, _, o, es, ep, h1, h2, _⟩ := (show ObjOk X.prog X.w H s.heap a (.dT kvs) from I.hok a _ ea)
    exact PySem.W.kia_one PySem.W.kitx_dict I.kIn ⟨o, h1, h2.1⟩ e (fun z => nomatch z) h
  | @ins a C dx fs ea cl ha hn htk hm =>
    cases (show u = Value.ref a from rx)
    obtain ⟨mA, O, _⟩ := ins_get I.hok ea
    obtain ⟨od, J, _⟩ := O.look
    exact PySem.W.kia_one (PySem.W.kitx_own (cl.get _) cl.hd ha hn htk hm) I.kIn J e (fun z => nomatch z) h
end
end L2

namespace L2
open PySem PySem.Spec PyProof.Rows

/-! ### room -/
structure Room (k : Nat) (A : Around) : Prop where
  hd : A.handled = none
  dp : A.depth + 3 * k + 5 < recursionLimit
  un : A.units + 16 * k + 200 < cLine
theorem Room.mono {j k : Nat} {A : Around} (r : Room k A) (h : j ≤ k) : Room j A := ⟨r.hd, by have := r.dp; omega, by have := r.un; omega⟩
theorem Room.deeper {k : Nat} {A : Around} (r : Room (k + 1) A) (env : Env) : Room k (A.deeper env) :=
  ⟨r.hd, by have := r.dp; show A.depth + 1 + 3 * k + 5 < _; omega, by have := r.un; show A.units + 3 + 16 * k + 200 < _; omega⟩
theorem make_depth {A : Around} {C : Addr} {us : List Value} {kw : List (Str × Value)} : (A.under (.builtin "type.__call__" ⟨.ref C :: us, kw⟩)).depth = A.depth + 1 := by
  first | rfl | simp [Around.under, Code.weight, Code.isCreation, Code.isGuard, Code.isCaller, Code.frames, Code.isFrame, guardIds]
theorem make_units {A : Around} {C : Addr} {us : List Value} {kw : List (Str × Value)} : (A.under (.builtin "type.__call__" ⟨.ref C :: us, kw⟩)).units = A.units + 1 := by
  first | rfl | simp [Around.under, Code.cUnits, Code.frames, Code.isFrame]
theorem Room.make {k : Nat} {A : Around} (r : Room (k + 1) A) (C : Addr) (us : List Value) (kw : List (Str × Value)) : Room k (A.under (.builtin "type.__call__" ⟨.ref C :: us, kw⟩)) :=
  ⟨r.hd, by have := r.dp; rw [make_depth]; omega, by have := r.un; rw [make_units]; omega⟩
theorem Room.depth {k : Nat} {A : Around} (r : Room k A) : A.depth < recursionLimit := by have := r.dp; omega
theorem Room.units {k : Nat} {A : Around} (r : Room k A) : A.units + 64 < cLine := by have := r.un; omega
theorem Room.units0 {k : Nat} {A : Around} (r : Room k A) : A.units < cLine := by have := r.un; omega

/-! ### argument lists and displays -/
def tNil : TA := fun _ H Q => Q [] H
def tCons (ta : TE) (tr : TA) : TA := fun σ H Q => ta σ H fun x H1 => tr σ H1 fun xs H2 => Q (x :: xs) H2
section
variable {X : Cx} {e : Expr} {es : List Expr} {te : TE} {t : TA} {pos : Pos}
theorem pa_nil : PA X [] tNil := fun _ _ _ _ H Q I h => Calls.spliced_nil ⟨[], H, I, .nil, h⟩
theorem pa_cons (ha : PE X e te) (hr : PA X es t) (hs : starEach (e :: es) X.env = (false, eval e X.env) :: starEach es X.env := by rfl) : PA X (e :: es) (tCons te t) := by
  intro pos pins s σ H Q I h
  rw [hs]
  show wpAny _ _ (spliced ((false, eval e X.env) :: backTo pos (starEach es X.env))) _ _ s
  refine Calls.spliced_cons (thn (ha pins s σ H _ I h) fun u s1 ⟨x, H1, I1, r1, q1⟩ => ?_)
  exact thn (hr pos pins s1 σ H1 _ I1 q1) fun us s2 ⟨xs, H2, I2, r2, q2⟩ => ⟨x :: xs, H2, I2, .cons r1 r2, q2⟩

/-- a tuple, a list of written items -/
def tTup (t : TA) : TE := fun σ H Q => t σ H fun xs H1 => xs.length ≤ sizeLine ∧ ∀ p, H1 p = none → Q (.ref p) (upd H1 p (.tup xs))
def tLst (t : TA) : TE := fun σ H Q => t σ H fun xs H1 => xs.length ≤ sizeLine ∧ ∀ p, H1 p = none → Q (.ref p) (upd H1 p (.lst xs))
theorem pe_tup {x1} (h : PA X es t) : PE X (.Tuple es x1 pos) (tTup t) := by
  intro pins s σ H Q I hq
  refine wpAny_Tuple_spliced (thn (h pos pins s σ H _ I hq) fun us s1 ⟨xs, H1, I1, r, z, q⟩ => ⟨by rw [← r.length]; exact z, ?_⟩)
  have hf : H1 s1.heap.objs.size = none := I1.hok.fresh (Nat.le_refl _)
  refine ⟨.ref s1.heap.objs.size, upd H1 s1.heap.objs.size (.tup xs), I1.laid (t' := s1.toks) (fun b u e => Heap.get?_push_of_some _ e) (Nat.le_refl _) ?_, rfl, q _ hf⟩
  exact ⟨z, us, r, ⟨_, Heap.get?_push_size _ rfl, rfl, _, rfl⟩⟩
theorem pe_lst (h : PA X es t) : PE X (.List es pos) (tLst t) := by
  intro pins s σ H Q I hq
  refine wpAny_List_spliced (thn (h pos pins s σ H _ I hq) fun us s1 ⟨xs, H1, I1, r, z, q⟩ => ⟨by rw [← r.length]; exact z, ?_⟩)
  have hf : H1 s1.heap.objs.size = none := I1.hok.fresh (Nat.le_refl _)
  refine ⟨.ref s1.heap.objs.size, upd H1 s1.heap.objs.size (.lst xs), I1.laid (t' := s1.toks) (fun b u e => Heap.get?_push_of_some _ e) (Nat.le_refl _) ?_, rfl, q _ hf⟩
  exact ⟨z, us, 0, r, Heap.get?_push_size _ rfl⟩
end

/-! ### what a def promises -/
/-- a def's promise: the bound arguments in the parameters' order, the heap, the wanted end, the wanted exception -/
abbrev Sp := List V → Hp → VK → XK → Prop
/-- how an exception lies behind a call (file 08 gives it): the callers' frames, abstract heap and state ahead of the call, the wish, the exception, the state -/
abbrev CXT := List Env → Hp → Shared → XK → Value → Shared → Prop

/-- the state at a call -/
structure Env0 (P : Program) (w : World) (K : PySem.W.Frag) (mg : Str → Option Value) (base : Heap) (A : Around) (outer : List Env) (s : Shared) (H : Hp) : Prop where
  frames : A.frames = some outer
  mod : Mod K mg base
  bs : ∀ b o, base.get? b = some o → s.heap.get? b = some o ∧ H b = none
  bsz : base.objs.size ≤ s.heap.objs.size
  funs : s.heap.FunFrames base outer
  frf : ∀ b ∈ frs outer, H b = none
  hok : HOk P w H s.heap
  bare : AllBare s.gens
/-- a call's end -/
def CE (outer : List Env) (P : Program) (w : World) (H : Hp) (s : Shared) (Q : VK) (u : Value) (s' : Shared) : Prop :=
  ∃ v H', s'.os = s.os ∧ AllBare s'.gens ∧ Un (frs outer) [] H H' s.heap s'.heap ∧ HOk P w H' s'.heap ∧ RelV v u ∧ Q v H'
def CR (CX : CXT) (outer : List Env) (P : Program) (w : World) (H : Hp) (s : Shared) (Q : VK) (E : XK) (r : Result) (s' : Shared) : Prop :=
  match r with
  | .ok (.ret u) => CE outer P w H s Q u s'
  | .ok _ => False
  | .error e => CX outer H s E e s'
structure FnOk (P : Program) (w : World) (K : PySem.W.Frag) (mg : Str → Option Value) (base : Heap) (CX : CXT) (k : Nat) (f : Addr) (fd : FuncData) (ps : List Str) (sp : Sp) : Prop where
  len : ∀ vs H Q E, sp vs H Q E → vs.length = ps.length
  run : ∀ (A : Around) (outer : List Env) (s : Shared) (H : Hp) (args : Args) (us : List Value) (vs : List V) (Q : VK) (E : XK), Room k A → Env0 P w K mg base A outer s H → BindsTo s fd args (ps.zip us) → Vals vs us → sp vs H Q E →
    codeAny (model P w) A (.call (.ref f) args) (CR CX outer P w H s Q E) s
theorem FnOk.mono {P : Program} {w : World} {K : PySem.W.Frag} {mg : Str → Option Value} {base : Heap} {CX : CXT} {j k : Nat} {f : Addr} {fd : FuncData} {ps : List Str} {sp : Sp} (F : FnOk P w K mg base CX j f fd ps sp) (h : j ≤ k) :
    FnOk P w K mg base CX k f fd ps sp := ⟨F.len, fun A outer s H args us vs Q E hr => F.run A outer s H args us vs Q E (hr.mono h)⟩
/-- a weaker promise -/
theorem FnOk.imp {P : Program} {w : World} {K : PySem.W.Frag} {mg : Str → Option Value} {base : Heap} {CX : CXT} {k : Nat} {f : Addr} {fd : FuncData} {ps : List Str} {sp sp' : Sp} (F : FnOk P w K mg base CX k f fd ps sp)
    (h : ∀ vs H Q E, sp' vs H Q E → sp vs H Q E) : FnOk P w K mg base CX k f fd ps sp' :=
  ⟨fun vs H Q E q => F.len vs H Q E (h _ _ _ _ q), fun A outer s H args us vs Q E hr he hb hv hs => F.run A outer s H args us vs Q E hr he hb hv (h _ _ _ _ hs)⟩

theorem Env0.make {P : Program} {w : World} {K : PySem.W.Frag} {mg : Str → Option Value} {base : Heap} {A : Around} {outer : List Env} {s : Shared} {H : Hp} (e : Env0 P w K mg base A outer s H) (C : Addr) (us : List Value) (kw : List (Str × Value)) :
    Env0 P w K mg base (A.under (.builtin "type.__call__" ⟨.ref C :: us, kw⟩)) outer s H := ⟨by first | exact e.frames | (simpa [Around.under, Code.envs, Code.isFrame, pushEnvs] using e.frames), e.mod, e.bs, e.bsz, e.funs, e.frf, e.hok, e.bare⟩

section
variable {X : Cx} {pins : List (Addr × Obj)} {σ : St} {H : Hp} {s s' : Shared}
/-- from a body: what a callee wants -/
theorem Inv.env0 (I : Inv X pins σ H s) : Env0 X.prog X.w X.K X.mg X.base X.A X.stack s H :=
  ⟨I.ok.frames, I.ok.mod, I.bs, Nat.le_trans I.ok.bsz I.sz, I.stack, I.stkFree, I.hok, I.bare⟩
/-- behind a call -/
theorem Inv.after {Q : VK} {u : Value} (I : Inv X pins σ H s) (h : CE X.stack X.prog X.w H s Q u s') : EP X pins σ Q u s' := by
  obtain ⟨v, H', os, bare, un, hok, r, q⟩ := h
  obtain ⟨hh, g, d, t, os'⟩ := s'
  obtain rfl : os' = s.os := os
  exact ⟨v, H', I.call (h' := hh) (g' := g) (d' := d) (t' := t) (ch := []) un hok bare (fun b z => absurd z (by simp)), r, q⟩
end

/-! ### calls -/
/-- f(..): the written arguments, then the defaults dvs; E: what is wanted of an exception -/
def tCall (sp : Sp) (dvs : List V) (E : XK) (t : TA) : TE := fun σ H Q => t σ H fun vs H1 => sp (vs ++ dvs) H1 Q E
/-- C(..): a new instance and its dict, then __init__ -/
def tMake (C : Addr) (sp : Sp) (dvs : List V) (E : XK) (t : TA) : TE := fun σ H Q => t σ H fun vs H1 => ∀ x dx, H1 x = none → H1 dx = none → dx ≠ x →
  sp (.ref x :: (vs ++ dvs)) (upd (upd H1 dx (.own x)) x (.ins C dx [])) (fun v H2 => v = .non ∧ Q (.ref x) H2) E

/-- how the parameters are bound: us the positional arguments, kw the keywords' values by name, ds the defaults that fill up -/
def Binds (K : PySem.W.Frag) (fd : FuncData) (ps : List Str) (ds : List Value) : Prop :=
  ∀ (s : Shared) (us : List Value), K.In s.heap → (us ++ ds).length = ps.length → BindsTo s fd ⟨us, []⟩ (ps.zip (us ++ ds))
/-- every parameter is given -/
theorem Binds.all {K : PySem.W.Frag} {fd : FuncData} {ps : List Str} (h : ∀ us : List Value, us.length = ps.length → bindArgs fd ⟨us, []⟩ = pure (ps.zip us)) : Binds K fd ps [] := fun s us _ hl => by
  rw [List.append_nil] at hl ⊢
  exact .of_eq (h us hl)

/-- an exception of a callee reaches what this body wants of exceptions -/
def Passes (CX : CXT) (X : Cx) (E : XK) : Prop := ∀ (pins : List (Addr × Obj)) (σ : St) (H : Hp) (s : Shared) (e : Value) (s' : Shared), Inv X pins σ H s → CX X.stack H s E e s' → X.xe e s'

section
variable {X : Cx} {CX : CXT} {k : Nat} {f C : Addr} {fd : FuncData} {ps : List Str} {sp : Sp} {dvs : List V} {ds : List Value} {E : XK} {x m : Str} {p pos apos : Pos} {e o : Expr} {es : List Expr} {ta : TE} {t : TA}

/-- the callee runs -/
theorem run_fn {pins : List (Addr × Obj)} {σ : St} {H : Hp} {s : Shared} {Q : VK} {us : List Value} {vs : List V} (F : FnOk X.prog X.w X.K X.mg X.base CX k f fd ps sp) (hr : Room k X.A) (hb : Binds X.K fd ps ds) (hd : Vals dvs ds) (hx : Passes CX X E)
    (I : Inv X pins σ H s) (r : Vals vs us) (h : sp (vs ++ dvs) H Q E) : wpAny (model X.prog X.w) X.A (call (.ref f) us) (EP X pins σ Q) X.xe s := by
  have r2 : Vals (vs ++ dvs) (us ++ ds) := r.append hd
  have hl : (us ++ ds).length = ps.length := by rw [← r2.length]; exact F.len _ _ _ _ h
  refine wpAny_call (codeAny_mono (F.run X.A X.stack s H ⟨us, []⟩ (us ++ ds) (vs ++ dvs) Q E hr I.env0 (hb s us I.kIn hl) r2 h) fun r s' hq => ?_)
  cases r with
  | error e => exact hx pins σ H s e s' I hq
  | ok fl =>
    cases fl with
    | ret u => exact I.after hq
    | next => exact False.elim hq
    | brk => exact False.elim hq
    | cont => exact False.elim hq

theorem pe_call (F : FnOk X.prog X.w X.K X.mg X.base CX k f fd ps sp) (hr : Room k X.A) (hg : Gl X x) (hm : X.mg x = some (.ref f)) (hk : PySem.W.keepIn X.K (.ref f) = true) (hb : Binds X.K fd ps ds) (hd : Vals dvs ds) (hx : Passes CX X E)
    (ha : PA X (e :: es) t) (hdb : (x == ("__debug__" : Str)) = false := by decide) (he : starEach (e :: es) X.env = (false, eval e X.env) :: starEach es X.env := by rfl) (hpl : (backTo pos (starEach es X.env)).any (·.1) = false := by rfl) :
    PE X (.Call (.Name x p) (e :: es) [] pos) (tCall sp dvs E t) := by
  intro pins s σ H Q I h
  refine wpAny_Call_Name_kw (ld_glob I hg hm ?_ hdb)
  refine PySem.W.callWith_K (h₀ := X.base) I.ok.mod.kin hk (thn (ha pos pins s σ H _ I h) fun us s1 ⟨vs, H1, I1, r, q⟩ => ⟨I1.kIn, ?_⟩) he hpl
  exact run_fn F hr hb hd hx I1 r q

/-- what a class must have to be made -/
structure Mk (K : PySem.W.Frag) (C f : Addr) : Prop where
  makes : PySem.W.makesIn K C = true
  init : PySem.W.findIn K (.ref C) "__init__" = some (some (.ref f))
  fn : PySem.W.isFn K (.ref f) = true
  kp : PySem.W.keepIn K (.ref C) = true

theorem run_make {pins : List (Addr × Obj)} {σ : St} {H : Hp} {s : Shared} {Q : VK} {us : List Value} {vs : List V} (M : Mk X.K C f) (F : FnOk X.prog X.w X.K X.mg X.base CX k f fd ps sp) (hr : Room (k + 1) X.A) (hb : Binds X.K fd ps ds) (hd : Vals dvs ds)
    (hx : Passes CX X E) (I : Inv X pins σ H s) (r : Vals vs us)
    (h : ∀ x dx, H x = none → H dx = none → dx ≠ x → sp (.ref x :: (vs ++ dvs)) (upd (upd H dx (.own x)) x (.ins C dx [])) (fun v H2 => v = .non ∧ Q (.ref x) H2) E) :
    wpAny (model X.prog X.w) X.A (call (.ref C) us) (EP X pins σ Q) X.xe s := by
  have hq := h (s.heap.objs.size + 1) s.heap.objs.size (I.hok.fresh (Nat.le_succ _)) (I.hok.fresh (Nat.le_refl _)) (Nat.ne_of_lt (Nat.lt_succ_self _))
  have I2 := Inv.made (C := C) I
  have r2 : Vals (V.ref (s.heap.objs.size + 1) :: (vs ++ dvs)) (Value.ref (s.heap.objs.size + 1) :: (us ++ ds)) := .cons rfl (r.append hd)
  have hl : (Value.ref (s.heap.objs.size + 1) :: us ++ ds).length = ps.length := by
    have e := r2.length
    rw [F.len _ _ _ _ hq] at e
    exact e.symm
  refine wpAny_call (make_map (f := f) I.kIn M.makes M.init (beq_iff_eq.mp M.fn) (codeAny_mono (F.run _ X.stack _ _ ⟨Value.ref (s.heap.objs.size + 1) :: us, []⟩ (Value.ref (s.heap.objs.size + 1) :: (us ++ ds)) _ _ E (hr.make C us [])
    (I2.env0.make C us []) (hb _ (Value.ref (s.heap.objs.size + 1) :: us) I2.kIn hl) r2 hq) fun r s' hq' => ?_))
  cases r with
  | error e => exact hx pins σ _ _ e s' I2 hq'
  | ok fl =>
    cases fl with
    | ret u =>
      obtain ⟨v, H', I3, rv, ev, q3⟩ := I2.after hq'
      subst ev
      exact ⟨rv, ⟨V.ref (s.heap.objs.size + 1), H', I3, rfl, q3⟩⟩
    | next => exact False.elim hq'
    | brk => exact False.elim hq'
    | cont => exact False.elim hq'
theorem pe_make (M : Mk X.K C f) (F : FnOk X.prog X.w X.K X.mg X.base CX k f fd ps sp) (hr : Room (k + 1) X.A) (hg : Gl X x) (hm : X.mg x = some (.ref C)) (hb : Binds X.K fd ps ds) (hd : Vals dvs ds) (hx : Passes CX X E)
    (ha : PA X (e :: es) t) (hdb : (x == ("__debug__" : Str)) = false := by decide) (he : starEach (e :: es) X.env = (false, eval e X.env) :: starEach es X.env := by rfl) (hpl : (backTo pos (starEach es X.env)).any (·.1) = false := by rfl) :
    PE X (.Call (.Name x p) (e :: es) [] pos) (tMake C sp dvs E t) := by
  intro pins s σ H Q I h
  refine wpAny_Call_Name_kw (ld_glob I hg hm ?_ hdb)
  refine PySem.W.callWith_K (h₀ := X.base) I.ok.mod.kin M.kp (thn (ha pos pins s σ H _ I h) fun us s1 ⟨vs, H1, I1, r, q⟩ => ⟨I1.kIn, ?_⟩) he hpl
  exact run_make M F hr hb hd hx I1 r q
theorem pe_make0 (M : Mk X.K C f) (F : FnOk X.prog X.w X.K X.mg X.base CX k f fd ps sp) (hr : Room (k + 1) X.A) (hg : Gl X x) (hm : X.mg x = some (.ref C)) (hb : Binds X.K fd ps ds) (hd : Vals dvs ds) (hx : Passes CX X E)
    (hdb : (x == ("__debug__" : Str)) = false := by decide) : PE X (.Call (.Name x p) [] [] pos) (tMake C sp dvs E tNil) := by
  intro pins s σ H Q I h
  refine wpAny_Call_Name_kw (ld_glob I hg hm ?_ hdb)
  exact PySem.W.callWith_K0 I.kIn M.kp (run_make (us := []) M F hr hb hd hx I .nil h)
end

/-! ### keywords -/
/-- the values of the keywords, from the left -/
def PK (X : Cx) (kws : List Keyword) (t : TA) : Prop :=
  ∀ (pos : Pos) (pins : List (Addr × Obj)) (s : Shared) (σ : St) (H : Hp) (Q : List V → Hp → Prop), Inv X pins σ H s → t σ H Q → wpAny (model X.prog X.w) X.A (evalAll ((backToKw pos (keywordEach kws X.env)).map (·.2))) (AP X pins σ Q) X.xe s
section
variable {X : Cx} {CX : CXT} {k : Nat} {f C : Addr} {fd : FuncData} {ps ks : List Str} {sp : Sp} {E : XK} {x m : Str} {p pos apos kpos : Pos} {e o : Expr} {es : List Expr} {kws : List Keyword} {te ta : TE} {t tk : TA} {nm : Option Str}
theorem pk_nil : PK X [] tNil := fun _ _ _ _ H Q I h => wpAny_evalAll_nil ⟨[], H, I, .nil, h⟩
theorem pk_cons (ha : PE X e te) (hr : PK X kws t) : PK X (⟨nm, e, kpos⟩ :: kws) (tCons te t) := by
  intro pos pins s σ H Q I h
  show wpAny _ _ (evalAll ((do let v ← eval e X.env; standAt pos; pure v) :: (backToKw pos (keywordEach kws X.env)).map (·.2))) _ _ s
  refine wpAny_evalAll_cons (wpAny_bind (thn (ha pins s σ H _ I h) fun u s1 ⟨x, H1, I1, r1, q1⟩ => wpAny_bind (wpAny_standAt (wpAny_pure ?_))))
  exact thn (hr pos pins s1 σ H1 _ I1 q1) fun us s2 ⟨xs, H2, I2, r2, q2⟩ => ⟨x :: xs, H2, I2, .cons r1 r2, q2⟩

/-- how a call with keywords binds: g puts the positional values us and the keywords' values ws (names ks) in the parameters' order, defaults among them -/
structure KBinds (K : PySem.W.Frag) (fd : FuncData) (ps ks : List Str) (g : List Value → List Value → List Value) (gV : List V → List V → List V) : Prop where
  to : ∀ (s : Shared) (us ws : List Value), K.In s.heap → (g us ws).length = ps.length → BindsTo s fd ⟨us, ks.zip ws⟩ (ps.zip (g us ws))
  rel : ∀ {vs : List V} {us : List Value} {zs : List V} {ws : List Value}, Vals vs us → Vals zs ws → Vals (gV vs zs) (g us ws)
variable {g : List Value → List Value → List Value} {gV : List V → List V → List V}
end

/-! ### a def's body keeps its promise -/
/-- names: the parameters first -/
structure FnScope (N P : List Str) (sc : Scope) : Prop where
  kind : sc.kind = .function
  co : sc.isCoroutine = false
  gen : sc.isGenerator = false
  nd : N.Nodup
  pre : N.take P.length = P
  par : ∀ x ∈ P, sc.names.lookup x = some .local ∨ sc.names.lookup x = some .cell
  nofree : ∀ y ∈ sc.names, y.2 ≠ .free

theorem bindL_out {kindOf : Str → Option NameKind} {x : Str} : ∀ {binds : List (Str × Value)} {m : Str → Option Value}, (∀ v, (x, v) ∉ binds) → bindL kindOf binds m x = m x
  | [], _, _ => rfl
  | (n, v) :: r, m, h => by
    unfold bindL
    rw [bindL_out fun w hw => h w (List.mem_cons_of_mem _ hw)]
    split
    · have : x ≠ n := by rintro rfl; exact h v List.mem_cons_self
      simp [this]
    · rfl
theorem bindC_out {kindOf : Str → Option NameKind} {x : Str} : ∀ {binds : List (Str × Value)} {m : Str → Option Value}, (∀ v, (x, v) ∉ binds) → bindC kindOf binds m x = m x
  | [], _, _ => rfl
  | (n, v) :: r, m, h => by
    unfold bindC
    rw [bindC_out fun w hw => h w (List.mem_cons_of_mem _ hw)]
    split
    · rfl
    · have : x ≠ n := by rintro rfl; exact h v List.mem_cons_self
      simp [this]
theorem bindL_get {kindOf : Str → Option NameKind} {x : Str} {v : Value} : ∀ {P : List Str} {vs : List Value} {i : Nat} {m : Str → Option Value}, P.Nodup → P[i]? = some x → vs[i]? = some v → kindOf x = some .local →
    bindL kindOf (P.zip vs) m x = some v
  | [], _, _, _, _, h, _, _ => by simp at h
  | _ :: _, [], _, _, _, _, h, _ => by simp at h
  | p :: P, w :: vs, 0, m, nd, h1, h2, hk => by
    simp at h1 h2; subst h1; subst h2
    show bindL kindOf ((p, w) :: P.zip vs) m p = _
    unfold bindL
    rw [bindL_out fun v hv => (List.nodup_cons.mp nd).1 (List.of_mem_zip hv).1, if_pos hk]
    simp
  | p :: P, w :: vs, i + 1, m, nd, h1, h2, hk => by
    show bindL kindOf ((p, w) :: P.zip vs) m x = _
    unfold bindL
    exact bindL_get (i := i) (List.nodup_cons.mp nd).2 (by simpa using h1) (by simpa using h2) hk
theorem bindC_get {kindOf : Str → Option NameKind} {x : Str} {v : Value} : ∀ {P : List Str} {vs : List Value} {i : Nat} {m : Str → Option Value}, P.Nodup → P[i]? = some x → vs[i]? = some v → kindOf x ≠ some .local →
    bindC kindOf (P.zip vs) m x = some v
  | [], _, _, _, _, h, _, _ => by simp at h
  | _ :: _, [], _, _, _, _, h, _ => by simp at h
  | p :: P, w :: vs, 0, m, nd, h1, h2, hk => by
    simp at h1 h2; subst h1; subst h2
    show bindC kindOf ((p, w) :: P.zip vs) m p = _
    unfold bindC
    rw [bindC_out fun v hv => (List.nodup_cons.mp nd).1 (List.of_mem_zip hv).1, if_neg hk]
    simp
  | p :: P, w :: vs, i + 1, m, nd, h1, h2, hk => by
    show bindC kindOf ((p, w) :: P.zip vs) m x = _
    unfold bindC
    exact bindC_get (i := i) (List.nodup_cons.mp nd).2 (by simpa using h1) (by simpa using h2) hk

/-- the names' values at the entry -/
def start (N : List Str) (vs : List V) : St := vs.map some ++ List.replicate (N.length - vs.length) none

/-- the context of a def's body, at its entry; an exception leaves the frame, then lies as CX says -/
def cxOf (CX : CXT) (P : Program) (w : World) (K : PySem.W.Frag) (mg : Str → Option Value) (base : Heap) (N : List Str) (qual : Str) (scope : Scope) (f : Addr) (cd : Value) (A : Around) (outer : List Env) (s : Shared) (H : Hp) (E : XK) : Cx where
  prog := P
  w := w
  K := K
  mg := mg
  base := base
  A := A.deeper (envOfC qual scope s.heap.objs.size f cd)
  N := N
  s₀ := s
  H₀ := H
  env := envOfC qual scope s.heap.objs.size f cd
  outer := outer
  stack := envOfC qual scope s.heap.objs.size f cd :: outer
  ex := []
  calm := true
  fn := fun _ => true
  pn := []
  xe := fun e s' => wpAny (model P w) (A.deeper (envOfC qual scope s.heap.objs.size f cd)) (leaving (envOfC qual scope s.heap.objs.size f cd) e) (fun _ s'' => CX outer H s E e s'') (fun e' s'' => CX outer H s E e' s'') s'

theorem cell_has {sc : Scope} {n : Nat} {x : Str} (h : sc.names.lookup x = some .cell) : ∃ c, (cellsFrom n sc.names []).lookup x = some c := by
  have q := PySem.W.cellsFrom_some sc.names n [] (.inl h)
  exact Option.isSome_iff_exists.mp q

theorem inv_start {CX : CXT} {P : Program} {w : World} {K : PySem.W.Frag} {mg : Str → Option Value} {base : Heap} {N ps : List Str} {qual : Str} {scope : Scope} {f : Addr} {cd : Value} {A : Around} {outer : List Env} {s s1 : Shared} {H : Hp} {E : XK} {us : List Value} {vs : List V}
    (S : FnScope N ps scope) (hd : A.handled = none) (e0 : Env0 P w K mg base A outer s H) (hl : vs.length = ps.length) (r : Vals vs us)
    (x : InCallC s s.heap.objs.size (bindL (envOfC qual scope s.heap.objs.size f cd).kindOf (ps.zip us) fun _ => none) (cellsFrom (s.heap.objs.size + 1) scope.names []) (bindC (envOfC qual scope s.heap.objs.size f cd).kindOf (ps.zip us) fun _ => none) s1) :
    Inv (cxOf CX P w K mg base N qual scope f cd A outer s H E) [] (start N vs) H s1 := by
  have hpl : ps.length ≤ N.length := by have := congrArg List.length S.pre; rw [List.length_take] at this; omega
  obtain ⟨h1, tk, rfl, hk⟩ := x.done
  have noA : ∀ b : Addr, b ∉ (cxOf CX P w K mg base N qual scope f cd A outer s H E).ex := fun b z => absurd (show b ∈ ([] : List Addr) from z) (by simp)
  refine ⟨⟨e0.mod, S.kind, rfl, rfl, Nat.le_refl _, fun y z c h1 h2 => ?_, fun y hy => ?_, fun y c _ h => ?_, fun _ => hd, Around.frames_deeper e0.frames, .inr ⟨rfl, rfl⟩, fun b z => absurd z (noA b), e0.bs, e0.bsz, fun b _ _ => noA b, fun b z => absurd z (noA b), e0.funs, e0.frf⟩,
    rfl, e0.bare, Un.kept hk, ⟨_, x.toInCall.ns, fun i y v h1 h2 h3 => ?_⟩, fun y c h => ⟨_, x.cell y c h⟩, e0.hok.fresh (Nat.le_refl _), fun y c h => ?_, fun p hp => absurd (show p ∈ ([] : List (Addr × Obj)) from hp) (by simp), e0.hok.kept hk, ?_⟩
  · exact name_of_addr x.apart (PySem.mem_of_lookup h1) (PySem.mem_of_lookup h2)
  · have hy : scope.names.lookup y = some .cell ∨ scope.names.lookup y = some .free := hy
    rcases hy with hy | hy
    · exact cell_has hy
    · exact absurd rfl (S.nofree _ (PySem.mem_of_lookup hy))
  · exact Nat.le_of_lt (x.above y c (PySem.mem_of_lookup h))
  · have hi : i < vs.length := by
      unfold start at h2
      by_cases hi : i < vs.length
      · exact hi
      · rw [List.getElem?_append_right (by simpa using hi)] at h2
        rw [List.getElem?_replicate] at h2
        split at h2 <;> cases h2
    have ha : vs[i]? = some v := by
      unfold start at h2
      rw [List.getElem?_append_left (by simpa using hi), List.getElem?_map] at h2
      cases e : vs[i]? with
      | none => rw [e] at h2; cases h2
      | some a => rw [e] at h2; cases h2; rfl
    obtain ⟨u, hu, rv⟩ := r.get ha
    have hp : ps[i]? = some y := by
      rw [← S.pre, List.getElem?_take_of_lt (by omega)]; exact h1
    have ndP : ps.Nodup := by rw [← S.pre]; exact S.nd.sublist (List.take_sublist _ _)
    refine ⟨u, rv, ?_⟩
    rcases S.par y (List.mem_of_getElem? hp) with k | k
    · exact .inl ⟨k, bindL_get ndP hp hu k⟩
    · obtain ⟨c, e⟩ := cell_has (n := s.heap.objs.size + 1) k
      refine .inr ⟨.inl k, c, e, ?_⟩
      have q := x.cell y c e
      rw [bindC_get ndP hp hu (by show scope.names.lookup y ≠ _; rw [k]; decide)] at q
      exact q
  · exact e0.hok.fresh (Nat.le_of_lt (x.above y c (PySem.mem_of_lookup h)))
  · unfold start
    show _ = N.length
    rw [List.length_append, List.length_map, List.length_replicate]
    omega

/-- THE RULE: a def (or a method) of the text, by its body. The body's reading t is chosen for each entry; it is run at the parameters' values -/
theorem fn_of {CX : CXT} {P : Program} {w : World} {K : PySem.W.Frag} {mg : Str → Option Value} {base : Heap} {k : Nat} {f : Addr} {name qual : Str} {params : Arguments} {body : List Stmt} {scope : Scope} {dV kV doc pm cdv ct oc : Value} {an od : Option Addr}
    {osl : Array (Option Value)} {N ps : List Str} {sp : Sp} (lk : K.lookup f = some ⟨oc, od, .func (PySem.W.fnOf name qual params body scope dV kV doc pm an cdv ct), osl⟩) (hcd : PySem.W.codeIn K cdv qual = true) (S : FnScope N ps scope)
    (len : ∀ vs H Q E, sp vs H Q E → vs.length = ps.length)
    (hbody : ∀ (A : Around) (outer : List Env) (s : Shared) (H : Hp) (vs : List V) (Q : VK) (E : XK), Room k (A.deeper (envOfC qual scope s.heap.objs.size f cdv)) → sp vs H Q E →
      ∃ t, PSs (cxOf CX P w K mg base N qual scope f cdv A outer s H E) body t ∧ t { nx := fun _ H' => Q .non H', rt := Q } (start N vs) H) :
    FnOk P w K mg base CX (k + 1) f (PySem.W.fnOf name qual params body scope dV kV doc pm an cdv ct) ps sp := by
  refine ⟨len, fun A outer s H args us vs Q E hr e0 hb r hsp => ?_⟩
  have hl := len _ _ _ _ hsp
  have KX : K.In s.heap := e0.mod.kin.keeps fun b o e => (e0.bs b o e).1
  have lim : s.heap.NoLimit := e0.mod.nolimit.keeps fun b o e => (e0.bs b o e).1
  have hkind : ∀ y ∈ ps.zip us, scope.names.lookup y.1 = some .local ∨ (scope.names.lookup y.1 = some .cell ∧ ((cellsFrom (s.heap.objs.size + 1) scope.names []).lookup y.1).isSome = true) := fun ⟨n, v⟩ hy => by
    rcases S.par n (List.of_mem_zip hy).1 with q | q
    · exact .inl q
    · exact .inr ⟨q, PySem.W.cellsFrom_some _ _ _ (.inl q)⟩
  refine codeAny_call_function hr.depth (KX _ _ lk) rfl S.co S.gen rfl (PySem.W.codeRec_of KX hcd) (hb _ _ _ _ ?_)
  refine wpAny_newFunctionEnv_cells S.kind hkind fun env he s1 x => ?_
  subst he
  refine ⟨lim.keeps x.toInCall.keep, codeAny_func ?_⟩
  obtain ⟨t, ht, hq⟩ := hbody A outer s H vs Q E (hr.deeper _) hsp
  have I : Inv (cxOf CX P w K mg base N qual scope f cdv A outer s H E) [] (start N vs) H s1 := inv_start S hr.hd e0 hl r x
  refine wpAny_mono (ht [] s1 (start N vs) H _ I hq) (fun fl s' hs => ?_) fun e s' hs => hs
  have fin : ∀ {σ' : St} {H' : Hp} {v : V} {u : Value}, Inv (cxOf CX P w K mg base N qual scope f cdv A outer s H E) [] σ' H' s' → RelV v u → Q v H' → CE outer P w H s Q u s' :=
    fun {σ' H' v u} J rv q => ⟨v, H', J.os, J.bare, J.base, J.hok, rv, q⟩
  cases fl with
  | ret u =>
    obtain ⟨v, σ', H', J, rv, q⟩ := hs
    exact fin J rv q
  | next =>
    obtain ⟨σ', H', J, q⟩ := hs
    exact fin (v := V.non) (u := Value.none) J rfl q
  | brk =>
    obtain ⟨_, _, _, q⟩ := hs
    exact False.elim q
  | cont =>
    obtain ⟨_, _, _, q⟩ := hs
    exact False.elim q
end L2

namespace L2
open PySem PySem.Spec PyProof.Rows
section
variable {X : Cx} {x : Str} {p pos : Pos} {e : Expr} {es : List Expr} {t : TA} {id T : String} {r : List V → Hp → VK → Prop}

def tCB (r : List V → Hp → VK → Prop) (t : TA) : TE := fun σ H Q => t σ H fun vs H1 => r vs H1 Q
/-- f(e, ..), f a built-in function -/
theorem pe_callB (hc : CallR X (.builtin id) r) (hg : Gl X x) (hm : X.mg x = none) (hv : bootBuiltins x = some (.builtin id)) (ha : PA X (e :: es) t) (hn : x ≠ "__name__" := by decide) (hdb : (x == ("__debug__" : Str)) = false := by decide)
    (he : starEach (e :: es) X.env = (false, eval e X.env) :: starEach es X.env := by rfl) (hpl : (backTo pos (starEach es X.env)).any (·.1) = false := by rfl) : PE X (.Call (.Name x p) (e :: es) [] pos) (tCB r t) := by
  intro pins s σ H Q I h
  refine wpAny_Call_Name_kw (ld_blt I hg hm hv ?_ hn hdb)
  exact PyProof.Rows.callWith_builtin1 (thn (ha pos pins s σ H _ I h) fun us s1 ⟨vs, H1, I1, r1, q1⟩ => hc pins s1 σ H1 vs us Q I1 r1 q1) he hpl
end
end L2

namespace HT
open PySem PyProof.Rows

section
open PySem.SeqAt
open PySem.AutoSeq1 (wpAny_loadPart')
open PySem.MeetsSeq PySem.MeetsSeq2 PySem.MeetsSeq3

end

section
variable {prog : Program} {w : World} {A : Around} {E : Value → Shared → Prop} {s : Shared}

/-! ### t[a:b], not the whole -/

end
end HT

namespace L2
open PySem PySem.Spec PyProof.Rows

/-! ### the parts of a slice -/
abbrev TO := St → Hp → (Option Int → Hp → Prop) → Prop

section
variable {X : Cx} {e : Expr} {te : TE} {lo hi : Option Expr} {tl th : TO} {pos p2 : Pos}

/-- what a slice of a value is, by values: the slice object stands at sl -/
def SlR (X : Cx) (r : V → Option Int → Option Int → Hp → VK → Prop) : Prop :=
  ∀ (pins : List (Addr × Obj)) (s : Shared) (σ : St) (H : Hp) (x : V) (v vl vu : Value) (lo hi : Option Int) (sl : Addr) (Q : VK), Inv X pins σ H s → RelV x v → s.heap.IsSliceOf sl vl vu .none → IsPart vl lo → IsPart vu hi → r x lo hi H Q →
    ∃ T id, typeLookup (.type T) "__getitem__" = pure (some (.builtin id)) ∧ s.TypeIs v T ∧ wpAny (model X.prog X.w) X.A (getItem v (.ref sl)) (EP X pins σ Q) X.xe s
theorem SlR.or {r r' : V → Option Int → Option Int → Hp → VK → Prop} (h : SlR X r) (h' : SlR X r') : SlR X (fun x lo hi H Q => r x lo hi H Q ∨ r' x lo hi H Q) := by
  intro pins s σ H x v vl vu lo hi sl Q I rx hs pl pu q
  rcases q with q | q
  · exact h pins s σ H x v vl vu lo hi sl Q I rx hs pl pu q
  · exact h' pins s σ H x v vl vu lo hi sl Q I rx hs pl pu q

/-! ### t < u, t + u -/
end
end L2

namespace L2
open PySem PySem.Spec PyProof.Rows

/-! ### places -/
/-- the place that an index of any sign means -/
def ixN (n : Nat) (i : Int) : Option Nat := if 0 ≤ i then (if i < n then some i.toNat else none) else if -(n : Int) ≤ i then some (i + n).toNat else none
def atI {α : Type} (xs : List α) (i : Int) : Option α := (ixN xs.length i).bind fun j => xs[j]?
theorem ixN_seq {n : Nat} {i : Int} {j : Nat} (h : ixN n i = some j) : seqIndex? i n = some j ∧ j < n ∧ -(n : Int) ≤ i ∧ i < n := by
  unfold ixN at h
  by_cases h0 : 0 ≤ i
  · rw [if_pos h0] at h
    by_cases h1 : i < n
    · rw [if_pos h1] at h
      have e : i.toNat = j := Option.some.inj h
      exact ⟨by rw [seqIndex_of h0 h1, e], by omega, by omega, h1⟩
    · rw [if_neg h1] at h; cases h
  · rw [if_neg h0] at h
    by_cases h1 : -(n : Int) ≤ i
    · rw [if_pos h1] at h
      have e : (i + n).toNat = j := Option.some.inj h
      exact ⟨by rw [seqIndex_neg (by omega) h1, e], by omega, h1, by omega⟩
    · rw [if_neg h1] at h; cases h
theorem atI_get {α : Type} {xs : List α} {i : Int} {v : α} (h : atI xs i = some v) : ∃ j, seqIndex? i xs.length = some j ∧ xs[j]? = some v ∧ j < xs.length ∧ -(xs.length : Int) ≤ i ∧ i < xs.length := by
  unfold atI at h
  cases e : ixN xs.length i with
  | none => rw [e] at h; cases h
  | some j =>
    rw [e] at h
    obtain ⟨h1, h2, h3, h4⟩ := ixN_seq e
    exact ⟨j, h1, h, h2, h3, h4⟩
theorem atI_nat {α : Type} {xs : List α} {j : Nat} {v : α} (h : xs[j]? = some v) : atI xs (j : Int) = some v := by
  have hj : j < xs.length := (List.getElem?_eq_some_iff.mp h).1
  have e : ixN xs.length (j : Int) = some j := by
    unfold ixN
    rw [if_pos (by omega), if_pos (by omega)]; simp
  unfold atI; rw [e]; exact h

/-! ### what may be subscripted -/
/-- what stands as an index of a plain subscript -/
def PlainIx (b : Expr) : Prop := ∀ o i, subscripted b false o i = operate [o, i] (getItem o i)
/-- a subscript by values -/
def IxR (X : Cx) (r : R2) : Prop :=
  ∀ (value slice : Expr) (pins : List (Addr × Obj)) (s : Shared) (σ : St) (H : Hp) (x y : V) (v u : Value) (Q : VK), Inv X pins σ H s → RelV x v → RelV y u → r x y H Q →
    subscripted slice false v u = operate [v, u] (getItem v u) → wpAny (model X.prog X.w) X.A (subscriptTail value slice v u) (EP X pins σ Q) X.xe s
/-- a call of a builtin's method by values: the receiver, the arguments -/
def MtR (X : Cx) (id : String) (r : V → List V → Hp → VK → Prop) : Prop :=
  ∀ (pins : List (Addr × Obj)) (s : Shared) (σ : St) (H : Hp) (x : V) (xs : List V) (v : Value) (us : List Value) (Q : VK), Inv X pins σ H s → RelV x v → Vals xs us → r x xs H Q →
    wpAny (model X.prog X.w) X.A (call (.builtin id) (v :: us)) (EP X pins σ Q) X.xe s
section
variable {X : Cx} {a b : Expr} {ta tb : TE} {pos : Pos}
theorem IxR.or {r r' : R2} (h : IxR X r) (h' : IxR X r') : IxR X (fun x y H Q => r x y H Q ∨ r' x y H Q) := by
  intro value slice pins s σ H x y v u Q I rx ry q hs
  rcases q with q | q
  · exact h value slice pins s σ H x y v u Q I rx ry q hs
  · exact h' value slice pins s σ H x y v u Q I rx ry q hs
theorem MtR.or {id : String} {r r' : V → List V → Hp → VK → Prop} (h : MtR X id r) (h' : MtR X id r') : MtR X id (fun x xs H Q => r x xs H Q ∨ r' x xs H Q) := by
  intro pins s σ H x xs v us Q I rx rs q
  rcases q with q | q
  · exact h pins s σ H x xs v us Q I rx rs q
  · exact h' pins s σ H x xs v us Q I rx rs q
/-- a[b] -/
theorem pe_ix {r : R2} (hr : IxR X r) (ha : PE X a ta) (hb : PE X b tb) (hs : PlainIx b) : PE X (.Subscript a b pos) (tOp r ta tb) := by
  intro pins s σ H Q I h
  exact Subscript_ (binT ha hb I h fun v u s2 x y H2 I2 rx ry q => hr a b pins s2 σ H2 x y v u Q I2 rx ry q (hs _ _))

def rIxL (K : PySem.W.Frag) : R2 := fun x y H Q => ∃ p xs i v, x = .ref p ∧ y = .int i ∧ SqL K H p xs ∧ atI xs i = some v ∧ Q v H
theorem ix_list : IxR X (rIxL X.K) := by
  intro value slice pins s σ H x y v u Q I rx ry h hs
  obtain ⟨p, xs, i, z, rfl, rfl, hq, he, q⟩ := h
  cases rx
  obtain ⟨t, rfl⟩ := ry
  obtain ⟨its, r, pl, hz⟩ := I.list hq
  obtain ⟨j, h1, h2, h3, h4, h5⟩ := atI_get he
  obtain ⟨w, ew, rw'⟩ := r.get h2
  have hl := r.length
  have hn := line63
  have fin : EP X pins σ Q w s := ⟨z, H, I, rw', q⟩
  by_cases h0 : 0 ≤ i
  · have hj : i.toNat = j := by
      rw [seqIndex_of h0 h5] at h1
      exact Option.some.inj h1
    exact item_listR pl.isList h0 (by omega) (by rw [hj]; simpa using ew) fin hs
  · have hj : (i + (its.toArray.size : Int)).toNat = j := by
      rw [seqIndex_neg (by omega) h4] at h1
      rw [List.size_toArray, ← hl]
      exact Option.some.inj h1
    exact subscriptTail_builtinR (x := w) pl.isList.typeIs slot_list_getitem.lookup
      (wpAny_getItem_list_neg (Q := fun r s' => r = w ∧ EP X pins σ Q r s') pl.isList (by omega) (by rw [List.size_toArray] <;> omega) (by omega) (by rw [hj]; simpa using ew) ⟨rfl, fin⟩) hs

/-! ### xs[i] = v, any sign -/
/-- the list's object behind a store -/
theorem mapSeq_set (its : List Value) (n j : Nat) (u : Value) : Obj.mapSeq (·.setIfInBounds j u) { cls := .type "list", data := .seq its.toArray n } = { cls := .type "list", data := .seq (its.set j u).toArray n } := by
  simp [Obj.mapSeq]
theorem Inv.lst {pins : List (Addr × Obj)} {σ : St} {H : Hp} {s : Shared} {p : Addr} {xs : List V} (I : Inv X pins σ H s) (h : H p = some (.lst xs)) :
    ∃ (its : List Value) (n : Nat), Vals xs its ∧ s.heap.get? p = some { cls := .type "list", data := .seq its.toArray n } ∧ xs.length ≤ sizeLine := by
  obtain ⟨z, its, n, r, e⟩ := I.hok p _ h
  exact ⟨its, n, r, e, z⟩
/-- the list at p is written by an update of its object -/
theorem Inv.lstUpd {pins : List (Addr × Obj)} {σ : St} {H : Hp} {s : Shared} {p : Addr} {xs ys : List V} {its its' : List Value} {n n' : Nat} {f : Obj → Obj} (I : Inv X pins σ H s) (h : H p = some (.lst xs))
    (ho : s.heap.get? p = some { cls := .type "list", data := .seq its.toArray n }) (hf : f { cls := .type "list", data := .seq its.toArray n } = { cls := .type "list", data := .seq its'.toArray n' }) (r : Vals ys its') (hz : ys.length ≤ sizeLine) (t : Nat) :
    Inv X pins σ (upd H p (.lst ys)) { s with heap := s.heap.update p f, toks := t } := by
  have e : (s.heap.update p f).get? p = some { cls := .type "list", data := .seq its'.toArray n' } := by
    rw [Heap.get?_update_self f ho (by rw [hf] <;> rfl), hf]
  refine I.write (x := p) (e := p) (by rw [h]; trivial) (.inl rfl) (fun b u hb q => (Heap.get?_update_other _ _ (Ne.symm hb)).trans q) ⟨_, e⟩ ?_
  exact ⟨hz, its', n', r, e⟩
def rSetL : V → V → V → Hp → (Hp → Prop) → Prop := fun o i v H Q => ∃ p xs k j, o = .ref p ∧ i = .int k ∧ H p = some (.lst xs) ∧ ixN xs.length k = some j ∧ Q (upd H p (.lst (xs.set j v)))
theorem set_list : PSet X rSetL := by
  intro pins s σ H o i v ov iv u Q I ro ri rv h
  obtain ⟨p, xs, k, j, rfl, rfl, hp, hj, q⟩ := h
  cases ro
  obtain ⟨t, rfl⟩ := ri
  obtain ⟨its, n, r, ho, hz⟩ := I.lst hp
  obtain ⟨h1, h2, h3, h4⟩ := ixN_seq hj
  have hl := r.length
  have hn := line63
  have I' : Inv X pins σ (upd H p (.lst (xs.set j v))) { s with heap := s.heap.update p (Obj.mapSeq (·.setIfInBounds j u)) } :=
    I.lstUpd hp ho (mapSeq_set its n j u) (r.set rv j) (by rw [List.length_set]; exact hz) s.toks
  by_cases h0 : 0 ≤ k
  · have hk : k.toNat = j := by
      rw [seqIndex_of h0 h4] at h1
      exact Option.some.inj h1
    exact PySem.W.ki_setAt ho h0 (by omega) (by rw [List.size_toArray, ← hl]; exact h4) (by rw [hk]; exact ⟨_, I', q⟩)
  · have hk : (k + (its.toArray.size : Int)).toNat = j := by
      rw [seqIndex_neg (by omega) h3] at h1
      rw [List.size_toArray, ← hl]
      exact Option.some.inj h1
    exact PySem.W.ki_setBack ho (by omega) (by rw [List.size_toArray, ← hl]; exact h3) (by omega) (by rw [hk]; exact ⟨_, I', q⟩)

/-! ### slices -/

/-! ### in, not in: flat items -/
def flatV : V → Bool
  | .non => true
  | .bl _ => true
  | .int _ => true
  | .str _ => true
  | _ => false
/-- == of flat values -/
def eqV : V → V → Bool
  | .non, .non => true
  | .bl a, .bl b => a == b
  | .bl a, .int b => (if a then 1 else 0) == b
  | .int a, .bl b => a == (if b then 1 else 0)
  | .int a, .int b => a == b
  | .str a, .str b => a == b
  | _, _ => false
theorem eqAt_V {A : Around} {s : Shared} {y x : V} {u v : Value} (ry : RelV y u) (rx : RelV x v) (fy : flatV y = true) (fx : flatV x = true) : SeqAt.EqAt A s u v (eqV y x) := by
  cases y with
  | non =>
    cases ry
    cases x with
    | non => cases rx; exact SeqAt.EqAt.same _
    | bl b => cases rx; exact SeqAt.EqAt.none_bool b
    | int b => obtain ⟨t, rfl⟩ := rx; exact SeqAt.EqAt.none_int b t
    | str b => obtain ⟨t, rfl⟩ := rx; exact SeqAt.EqAt.none_str b t
    | _ => exact absurd (show false = true from fx) Bool.false_ne_true
  | bl a =>
    cases ry
    cases x with
    | non => cases rx; exact SeqAt.EqAt.bool_none a
    | bl b => cases rx; exact SeqAt.EqAt.bool_bool a b
    | int b => obtain ⟨t, rfl⟩ := rx; exact SeqAt.EqAt.bool_int a b t
    | str b => obtain ⟨t, rfl⟩ := rx; exact SeqAt.EqAt.bool_str a b t
    | _ => exact absurd (show false = true from fx) Bool.false_ne_true
  | int a =>
    obtain ⟨t', rfl⟩ := ry
    cases x with
    | non => cases rx; exact SeqAt.EqAt.int_none a t'
    | bl b => cases rx; exact SeqAt.EqAt.int_bool a t' b
    | int b => obtain ⟨t, rfl⟩ := rx; exact SeqAt.EqAt.int_int a t' b t
    | str b => obtain ⟨t, rfl⟩ := rx; exact SeqAt.EqAt.int_str a t' b t
    | _ => exact absurd (show false = true from fx) Bool.false_ne_true
  | str a =>
    obtain ⟨t', rfl⟩ := ry
    cases x with
    | non => cases rx; exact SeqAt.EqAt.str_none a t'
    | bl b => cases rx; exact SeqAt.EqAt.str_bool a t' b
    | int b => obtain ⟨t, rfl⟩ := rx; exact SeqAt.EqAt.str_int a t' b t
    | str b => obtain ⟨t, rfl⟩ := rx; exact SeqAt.EqAt.str_str a t' b t
    | _ => exact absurd (show false = true from fx) Bool.false_ne_true
  | _ => exact absurd (show false = true from fy) Bool.false_ne_true
/-- the items' answers, read off the values (a value's own answer does not lean on its token) -/
def eqU (x : V) (u : Value) : Bool := match u with
  | .none => eqV .non x
  | .bool b => eqV (.bl b) x
  | .int i _ => eqV (.int i) x
  | .str z _ => eqV (.str z) x
  | _ => false
theorem eqU_of {x y : V} {u : Value} (r : RelV y u) (f : flatV y = true) : eqU x u = eqV y x := by
  cases y with
  | non => cases r; rfl
  | bl b => cases r; rfl
  | int i => obtain ⟨t, rfl⟩ := r; rfl
  | str z => obtain ⟨t, rfl⟩ := r; rfl
  | _ => exact absurd (show false = true from f) Bool.false_ne_true
theorem any_eqU {x : V} : ∀ {xs : List V} {us : List Value}, Vals xs us → xs.all flatV = true → us.any (eqU x) = xs.any fun y => eqV y x
  | _, _, .nil, _ => rfl
  | y :: xs, u :: us, .cons r t, f => by
    rw [List.all_cons, Bool.and_eq_true] at f
    rw [List.any_cons, List.any_cons, eqU_of r f.1, any_eqU t f.2]
theorem mem_eqAt {A : Around} {s : Shared} {x : V} {v : Value} (rx : RelV x v) (fx : flatV x = true) : ∀ {xs : List V} {us : List Value}, Vals xs us → xs.all flatV = true → ∀ u ∈ us, SeqAt.EqAt A s u v (eqU x u)
  | _, _, .nil, _ => fun u hu => by cases hu
  | y :: xs, u :: us, .cons r t, f => fun u' hu => by
    rw [List.all_cons, Bool.and_eq_true] at f
    rcases List.mem_cons.mp hu with rfl | hu
    · rw [eqU_of r f.1]; exact eqAt_V r rx f.1 fx
    · exact mem_eqAt rx fx t f.2 u' hu
def inV (x : V) (xs : List V) : Bool := xs.any fun y => eqV y x
/-- x in a list or tuple of flat items -/
def rIn (K : PySem.W.Frag) (neg : Bool) : R2 := fun x y H Q => ∃ p xs, y = .ref p ∧ (SqL K H p xs ∨ SqT K H p xs) ∧ flatV x = true ∧ xs.all flatV = true ∧ Q (.bl (if neg then !inV x xs else inV x xs)) H
theorem op_in_seq : OpR X (compareOp .In) (rIn X.K false) := by
  intro pins s σ H x y v u Q I rx ry h
  obtain ⟨p, xs, rfl, hq, fx, fs, q⟩ := h
  cases ry
  rcases hq with hq | hq
  · obtain ⟨its, r, pl, hz⟩ := I.list hq
    refine SeqAt.in_listAt (eqU x) pl.isList (fun w hw => mem_eqAt rx fx r fs w (by simpa using hw)) ⟨.bl _, H, I, rfl, ?_⟩
    rw [show its.toArray.any (eqU x) = its.any (eqU x) by simp, any_eqU r fs]
    exact q
  · obtain ⟨its, r, pl, hz⟩ := I.tuple hq
    refine SeqAt.in_tupleAt (eqU x) pl (fun w hw => mem_eqAt rx fx r fs w (by simpa using hw)) ⟨.bl _, H, I, rfl, ?_⟩
    rw [show its.toArray.any (eqU x) = its.any (eqU x) by simp, any_eqU r fs]
    exact q

/-! ### len, list(x), tuple(x) of any list or tuple that is read -/
theorem CallR.or {f : Value} {r r' : List V → Hp → VK → Prop} (h : CallR X f r) (h' : CallR X f r') : CallR X f (fun xs H Q => r xs H Q ∨ r' xs H Q) := by
  intro pins s σ H xs us Q I rs q
  rcases q with q | q
  · exact h pins s σ H xs us Q I rs q
  · exact h' pins s σ H xs us Q I rs q

/-! ### the call of a builtin's method: o.m(..) -/
/-- the value is of that builtin type -/
def tyV (K : PySem.W.Frag) (T : String) (x : V) (H : Hp) : Prop := match x with
  | .str _ => T = "str"
  | .int _ => T = "int"
  | .ref p => (T = "list" ∧ ∃ xs, SqL K H p xs) ∨ (T = "tuple" ∧ ∃ o, K.lookup p = some o ∧ o.cls = .type "tuple" ∧ o.dict = none) ∨
      (T = "dict" ∧ ((∃ kvs, H p = some (.dK kvs)) ∨ ∃ kvs, H p = some (.dT kvs))) ∨ (T = "set" ∧ ∃ S n, H p = some (.set S n))
  | _ => False
theorem tyV_is {pins : List (Addr × Obj)} {σ : St} {H : Hp} {s : Shared} {T : String} {x : V} {v : Value} (I : Inv X pins σ H s) (r : RelV x v) (ty : tyV X.K T x H) :
    s.TypeIs v T ∧ ∀ a, v = .ref a → ∃ ob, s.heap.get? a = some ob ∧ ob.dict = none := by
  cases x with
  | str z =>
    obtain ⟨t, rfl⟩ := r
    cases (show T = "str" from ty)
    exact ⟨typeIs_str s z t, fun _ e => nomatch e⟩
  | int i =>
    obtain ⟨t, rfl⟩ := r
    cases (show T = "int" from ty)
    exact ⟨typeIs_int s i t, fun _ e => nomatch e⟩
  | ref p =>
    cases r
    rcases ty with ⟨rfl, xs, hq⟩ | ⟨rfl, o, hk, hc, hd⟩ | ⟨rfl, hk⟩ | ⟨rfl, S, n, hk⟩
    · obtain ⟨its, _, pl, _⟩ := I.list hq
      refine ⟨pl.isList.typeIs, fun a e => ?_⟩
      cases e
      obtain ⟨o, n, e, c, hd, _⟩ := pl
      exact ⟨o, e, hd⟩
    · refine ⟨⟨o, I.kIn p o hk, hc⟩, fun a e => ?_⟩
      cases e
      exact ⟨o, I.kIn _ o hk, hd⟩
    · have z : ∃ o, s.heap.get? p = some o ∧ o.ExactDict := by
        rcases hk with ⟨kvs, hk⟩ | ⟨kvs, hk⟩
        · obtain ⟨_, _, _, _, o, _, _, e, ex, _⟩ := I.hok p _ hk
          exact ⟨o, e, ex⟩
        · obtain ⟨_, _, _, _, o, _, _, e, ex, _⟩ := I.hok p _ hk
          exact ⟨o, e, ex⟩
      obtain ⟨o, e, ex⟩ := z
      refine ⟨⟨o, e, ex.1⟩, fun a e2 => ?_⟩
      cases e2
      exact ⟨o, e, ex.2.1⟩
    · obtain ⟨o, _, _, _, e, ex, _⟩ := I.hok p _ hk
      refine ⟨⟨o, e, ex.1⟩, fun a e2 => ?_⟩
      cases e2
      exact ⟨o, e, ex.2.1⟩
  | _ => exact False.elim ty
def tBM (K : PySem.W.Frag) (T : String) (r : V → List V → Hp → VK → Prop) (to : TE) (t : TA) : TE := fun σ H Q => to σ H fun x H1 => tyV K T x H1 ∧ t σ H1 fun xs H2 => r x xs H2 Q
variable {o e : Expr} {es : List Expr} {to : TE} {t : TA} {name : Str} {apos cpos : Pos} {T id : String} {r : V → List V → Hp → VK → Prop}
theorem pe_bm (pa : PlainAttrs T) (slot : Slot T name id) (hty : typeOf (.builtin id) = pure (.type "method_descriptor")) (hm : MtR X id r) (ho : PE X o to) (ha : PA X (e :: es) t)
    (hbase : attributeBase o name X.env (eval o X.env) = eval o X.env := by rfl)
    (hfew : ((backTo cpos (starEach (e :: es) X.env)).all (fun x => !x.1) && (backToKw cpos (keywordEach [] X.env)).all (fun x => x.1.isSome)
      && decide ((e :: es).length + ([] : List Keyword).length + (if ([] : List Keyword).isEmpty then 0 else 1) < 30)) = true := by rfl)
    (hline : (apos.endLine == cpos.line) = true := by rfl) (hs : starEach (e :: es) X.env = (false, eval e X.env) :: starEach es X.env := by rfl) (hplain : (backTo cpos (starEach es X.env)).any (·.1) = false := by rfl) :
    PE X (.Call (.Attribute o name apos) (e :: es) [] cpos) (tBM X.K T r to t) := by
  intro pins s σ H Q I h
  refine wpAny_Call_method_late hbase hfew hline rfl (thn (ho pins s σ H _ I h) fun v s1 ⟨x, H1, I1, r1, ty, q1⟩ => ?_)
  obtain ⟨h1, h2⟩ := tyV_is I1 r1 ty
  refine ⟨T, id, pa, slot, hty, h1, h2, ?_⟩
  have hA := ha cpos pins s1 σ H1 _ I1 q1
  rw [hs] at hA ⊢
  refine Calls.callWith_builtin (by show (false || (backTo cpos (starEach es X.env)).any (·.1)) = false; rw [hplain] <;> rfl) (Calls.evalArgs_plain ?_)
  exact thn hA fun us s2 ⟨vs, H2, I2, r2, q2⟩ => hm pins s2 σ H2 x vs v us Q I2 r1 r2 q2
/- xs.append(e), list.index on a module's tuple .. are MtR facts of 06m -/
end
end L2

namespace L2
open PySem PySem.Spec PyProof.Rows

def MtM (X : Cx) (id : String) (r : V → List V → Hp → VK → Prop) : Prop :=
  ∀ (pins : List (Addr × Obj)) (s : Shared) (σ : St) (H : Hp) (x : V) (xs : List V) (v : Value) (us : List Value) (Q : VK), Inv X pins σ H s → RelV x v → Vals xs us → r x xs H Q →
    wpAny (model X.prog X.w) X.A (call (.builtin id) (v :: us)) (EP X pins σ Q) X.xe s

/-! ### lists of values -/
theorem Vals.one : ∀ {x : V} {us : List Value}, Vals [x] us → ∃ u, us = [u] ∧ RelV x u
  | _, _, .cons r .nil => ⟨_, rfl, r⟩
theorem Vals.two : ∀ {x y : V} {us : List Value}, Vals [x, y] us → ∃ u v, us = [u, v] ∧ RelV x u ∧ RelV y v
  | _, _, _, .cons r (.cons q .nil) => ⟨_, _, rfl, r, q⟩
theorem Vals.zero : ∀ {us : List Value}, Vals [] us → us = []
  | _, .nil => rfl

section
variable {X : Cx} {pins : List (Addr × Obj)} {σ : St} {H : Hp} {s : Shared} {l b : Addr} {xs ys zs : List V}

/-! ### the two steps: a tracked list is rewritten, a new list is laid -/
theorem Inv.lset {its its' : List Value} {n : Nat} {f : Array Value → Array Value} {t' : Nat} (I : Inv X pins σ H s) (hH : H l = some (.lst xs))
    (e : s.heap.get? l = some { cls := .type "list", data := .seq its.toArray n }) (hf : f its.toArray = its'.toArray) (hv : Vals ys its') (hz : ys.length ≤ sizeLine) :
    Inv X pins σ (upd H l (.lst ys)) { s with heap := s.heap.update l (Obj.mapSeq f), toks := t' } := by
  have q := PySem.IsL.update e f
  rw [hf] at q
  refine I.write (x := l) (e := l) (by rw [hH]; exact trivial) (.inl rfl) (fun b' u hb hu => (Heap.get?_update_other s.heap (Obj.mapSeq f) (Ne.symm hb)).trans hu) ⟨_, q⟩ ?_
  exact ⟨hz, its', _, hv, q⟩
theorem Inv.lnew {its : List Value} {t' : Nat} (I : Inv X pins σ H s) (hv : Vals ys its) (hz : ys.length ≤ sizeLine) :
    Inv X pins σ (upd H s.heap.objs.size (.lst ys)) { s with heap := s.heap.push { cls := .type "list", data := .seq its.toArray }, toks := t' } :=
  I.laid (fun _ _ q => Heap.get?_push_of_some _ q) (Nat.le_refl _) ⟨hz, its, 0, hv, Heap.get?_push_size _ rfl⟩
theorem Inv.fresh (I : Inv X pins σ H s) : H s.heap.objs.size = none := I.hok.fresh (Nat.le_refl _)
theorem Inv.lstM (I : Inv X pins σ H s) (hH : H l = some (.lst xs)) : xs.length ≤ sizeLine ∧ ∃ (its : List Value) (n : Nat), Vals xs its ∧ xs.length = its.length ∧ s.heap.get? l = some { cls := .type "list", data := .seq its.toArray n } := by
  obtain ⟨z, its, n, r, e⟩ := I.hok l _ hH
  exact ⟨z, its, n, r, r.length, e⟩

theorem notLongL {n : Nat} (h : n ≤ sizeLine) : Builtin.List.listTooLong n = false := by
  unfold Builtin.List.listTooLong
  exact decide_eq_false (by omega)
end

section
variable {X : Cx}

/-! ### methods -/

def rExtend : V → List V → Hp → VK → Prop := fun x vs H Q => ∃ l b xs zs, x = .ref l ∧ vs = [.ref b] ∧ H l = some (.lst xs) ∧ H b = some (.lst zs) ∧ xs.length + zs.length ≤ sizeLine ∧ Q .non (upd H l (.lst (xs ++ zs)))
theorem mt_extend : MtM X "list.extend" rExtend := by
  intro pins s σ H x vs v us Q I rx rv h
  obtain ⟨l, b, xs, zs, rfl, rfl, hH, hB, hz, q⟩ := h
  cases rx
  obtain ⟨u, rfl, ru⟩ := rv.one
  cases ru
  obtain ⟨z, its, n, r, hl, e⟩ := I.lstM hH
  obtain ⟨z2, its2, n2, r2, hl2, e2⟩ := I.lstM hB
  have hsz : its.toArray.size + its2.toArray.size ≤ sizeLine := by rw [List.size_toArray, List.size_toArray]; omega
  have hlong : ¬ (!its.toArray.isEmpty && Builtin.List.listTooLong (its.toArray.size + its2.toArray.size)) = true := by
    rw [notLongL hsz, Bool.and_false]
    exact Bool.false_ne_true
  refine call_meets F.slot_list_extend ⟨_, e, rfl⟩ F.entry_list_extend (F.args_list_extend_2 _ _)
    (AutoSeq1.list_extend_list_list_0 l its.toArray n b its2.toArray n2 hlong (by rw [List.size_toArray]; omega) (by omega)) ⟨e, e2, ?_⟩
  refine ⟨.non, _, I.lset (its' := its ++ its2) hH e (by simp) (r.append r2) ?_, rfl, q⟩
  rw [List.length_append]
  omega

/-! ### list + list, list += list, list * int -/
def rCat : R2 := fun x y H Q => ∃ l b xs zs, x = .ref l ∧ y = .ref b ∧ H l = some (.lst xs) ∧ H b = some (.lst zs) ∧ xs.length + zs.length ≤ sizeLine ∧ ∀ p, H p = none → Q (.ref p) (upd H p (.lst (xs ++ zs)))
theorem op_cat : OpR X (binaryOp .Add) rCat := by
  intro pins s σ H x y v u Q I rx ry h
  obtain ⟨l, b, xs, zs, rfl, rfl, hH, hB, hz, q⟩ := h
  cases rx
  cases ry
  obtain ⟨z, its, n, r, hl, e⟩ := I.lstM hH
  obtain ⟨z2, its2, n2, r2, hl2, e2⟩ := I.lstM hB
  refine PySem.P.add_list e e2 ?_ (by rw [List.size_toArray, List.size_toArray]; omega)
  have ea : its.toArray ++ its2.toArray = (its ++ its2).toArray := by simp
  rw [ea]
  exact ⟨.ref _, _, I.lnew (t' := s.toks) (r.append r2) (by rw [List.length_append]; omega), rfl, q _ I.fresh⟩

/-! ### del xs[i] -/
end

/-! ### xs[a:b] = ys -/
section
variable {prog : Program} {w : World} {A : Around} {E : Value → Shared → Prop} {s : Shared}
set_option maxRecDepth 100000 in
end

section
variable {X : Cx}
end
end L2

namespace Att
open PySem PySem.W PySem.Calls PyProof.Rows

/-! ### the script -/
theorem ints_of_wellAll {P : Params} {h : Heap} : ∀ (ns : List Int) (vs : List Value), WellAll P h vs (ns.map WData.int) → IntsAre vs ns := by
  intro ns
  induction ns with
  | nil =>
    intro vs w
    rw [List.map_nil] at w
    cases w
    exact .nil
  | cons n ns ih =>
    intro vs w
    rw [List.map_cons] at w
    cases w with
    | cons a b =>
      cases a
      exact .cons _ _ (ih _ b)

theorem script_of {l : OpenLaw} {n : Nat} (hn : l.most = some n) {P : Params} {h : Heap} {args : List WData} {vals : List Value}
    (hpre : l.row.toRowW.claim.pre args = true) (hwl : WellAll P h vals args) :
    ∃ a vs ns, vals = [Value.ref a] ∧ args = [WData.list (ns.map WData.int)] ∧ h.get? a = some { cls := .type "list", data := .seq vs.toArray } ∧ IntsAre vs ns ∧ ns.length ≤ n := by
  have hsh : WShape.hasAll [] args [.list .int] = true := (pre_splitW hpre).1
  have hc : l.pre.holds [] { args := args } = true := (pre_splitW hpre).2
  obtain ⟨d, r, rfl, h1, h2⟩ := hasAllW_cons hsh
  obtain rfl := hasAllW_nil h2
  obtain ⟨xs, rfl, h3⟩ := hasW_list h1
  obtain ⟨ns, rfl⟩ := items_int h3
  have hlen : ns.length ≤ n := by
    unfold OpenLaw.pre at hc
    have h4 : (WTm.not (.lt (.lit (.int (n : Int))) (.len (.arg 0)))).holds [] { args := [.list (ns.map .int)] } = true := by
      have h4 := (holds_andW hc).1
      rw [hn] at h4
      exact h4
    have h5 := condW_of h4 (w_not (w_lt w_lit (w_len_list (w_arg rfl))))
    rw [List.length_map] at h5
    refine Nat.le_of_not_lt fun q => ?_
    have q' : (n : Int) < ((ns.length : Nat) : Int) := by omega
    first
      | (rw [decide_eq_true q'] at h5; exact absurd h5 (by decide))
      | (simp at h5; omega)
  cases hwl with
  | cons w1 w2 =>
    cases w2
    cases w1 with
    | list ho hall => exact ⟨_, _, ns, rfl, rfl, ho, ints_of_wellAll ns _ hall, hlen⟩

theorem post_true (l : OpenLaw) (args : List WData) : l.row.toRowW.claim.post args (.bool true) args = true :=
  postW_of (r := l.row.toRowW) (X := (true == true))
    (show WShape.has [] (.bool true) .bool = true by first | rfl | decide | simp [WShape.has, WShape.arms, WShape.armsAll])
    (show (WTm.eq .res (.lit (.bool true))).value [] { args := args, res := some (.bool true), after := args } = some (.bool (true == true)) from w_eq_bool (w_res rfl) w_lit) rfl

/-! ### the attachment: holds_open's last premise (the goal 'hc' behind k_head) from a wpAny of the law's body -/

/-- the same from a codeAny of the CALL (for a layer whose function contracts speak of calls) -/
theorem attach_call {l : OpenLaw} {n : Nat} {q : Program} {loose : List Str} {XP : (Str → Option Value) → Heap → Prop} {YP : World → Heap → Prop} {d : DefRec}
    (hn : l.most = some n) (hdf : d.params.defaults = [])
    (call : ∀ (w : World) (s₀ s₁ : Shared) (mg mb : Str → Option Value) (fa : Addr) (o : Obj) (pm cd doc : Value) (a : Addr) (vs : List Value) (ns : List Int),
      Ground q loose [] XP w s₀ mg mb s₁.heap → YP w s₁.heap →
      s₁.heap.get? fa = some o → o.data = .func (docDef d.name d.params d.body d.scope pm cd doc) → s₁.heap.CodeRec cd d.name → mg d.name = some (.ref fa) →
      s₁.heap.get? a = some { cls := .type "list", data := .seq vs.toArray } → IntsAre vs ns → ns.length ≤ n → s₁.gens = #[] →
      codeAny (model l.prog w) callerA (.call (.ref fa) ⟨[.ref a], []⟩) (fun r s' => r = .ok (.ret (.bool true)) ∧ OldK s₁.heap s'.heap ∧ s'.os = s₁.os ∧ AllBare s'.gens) s₁) :
    WalkO q loose XP YP l.row.toRowW d [] (fun f vs => PySem.call f vs) := by
  intro w s₀ s₁ mg mb G Y fa o pm cd doc dV kV ho hd hcd hD hmg hg args vals as hpre hlay hrd hwl hlo
  obtain rfl : dV = .none := Dflts.none hD hdf
  obtain rfl : kV = .none := Dflts.noKw hD
  obtain ⟨a, vs, ns, rfl, rfl, hobj, hints, hlen⟩ := script_of hn hpre hwl
  refine enter_call (codeAny_mono (call w s₀ s₁ mg mb fa o pm cd doc a vs ns G Y ho (fd_plain hd) hcd hmg hobj hints hlen hg) fun r s' hq => ?_)
  obtain ⟨rfl, h2, h3, h4⟩ := hq
  exact ⟨.inl ⟨.bool true, .bool true, [], rfl, fun _ => rfl, .bool true, post_true l _, fun _ => ⟨List.Pairwise.nil, fun _ hm => (nomatch hm)⟩⟩, h2, h3, h4⟩

/-! ### rules over ANY heap (no ledger) from facts about the written part K: the library's own take a ledger (News) for what they write -/
section
variable {prog : Program} {w : World} {A : Around} {E : Value → Shared → Prop} {s : Shared} {K : Frag}

/-! the whole heap as the ledger: makes every rule that writes through a ledger a rule over any heap -/

end
end Att

namespace L2
open PySem PySem.Spec PyProof.Rows

theorem vals_ints : ∀ {vs : List Value} {ns : List Int}, IntsAre vs ns → Vals (ns.map V.int) vs
  | _, _, .nil => .nil
  | _, _, .cons n t h => .cons ⟨t, rfl⟩ (vals_ints h)

/-- nothing is tracked but the script, known to the object (or it is an object of the module) -/
def Only (H : Hp) : Prop := ∀ b, H b = none ∨ ∃ o xs, H b = some (.frz o (.lst xs))

/-- THE HEAD: the law's promise, at the heap behind the top. F, the promise of the law's def, may use that base is part of the heap (so K.In base, base.Ns mainGlobals mg stand in Mod) -/
theorem law_call {P : Program} {w : World} {K : PySem.W.Frag} {mg mb : Str → Option Value} {CX : CXT} {k : Nat} {fa a : Addr} {fd : FuncData} {x : Str} {sp : Sp} {s₁ : Shared} {vs : List Value} {ns : List Int}
    (KX : K.In s₁.heap) (hns : s₁.heap.Ns mainGlobals mg) (hb : s₁.heap.Ns builtinsNs mb) (hbb : ∀ x : Str, x ≠ "__name__" → mb x = bootBuiltins x) (hlim : s₁.heap.NoLimit) (hg : s₁.gens = #[])
    (ha : s₁.heap.get? a = some { cls := .type "list", data := .seq vs.toArray }) (hi : IntsAre vs ns) (hl : ns.length ≤ sizeLine) (hr : Room k callerA)
    (F : ∀ base : Heap, K.In base → base.Ns mainGlobals mg → FnOk P w K mg base CX k fa fd [x] sp) (hbind : ∀ (s : Shared) (u : Value), BindsTo s fd ⟨[u], []⟩ [(x, u)])
    (hsp : ∀ H : Hp, Only H → SqL K H a (ns.map V.int) → sp [.ref a] H (fun v _ => v = .bl true) fun _ _ _ => False)
    (hCX : ∀ H e s', CX [] H s₁ (fun _ _ _ => False) e s' → False) :
    codeAny (model P w) callerA (.call (.ref fa) ⟨[.ref a], []⟩) (fun r s' => r = .ok (.ret (.bool true)) ∧ OldK s₁.heap s'.heap ∧ s'.os = s₁.os ∧ AllBare s'.gens) s₁ := by
  have rv := vals_ints hi
  have lenV := hi.length
  -- from an abstract heap in which nothing but the script may be tracked
  have core : ∀ H : Hp, Only H → SqL K H a (ns.map V.int) → HOk P w H s₁.heap → (∀ b, H b ≠ none → b = a) → (H a ≠ none → K.lookup a = none) →
      codeAny (model P w) callerA (.call (.ref fa) ⟨[.ref a], []⟩) (fun r s' => r = .ok (.ret (.bool true)) ∧ OldK s₁.heap s'.heap ∧ s'.os = s₁.os ∧ AllBare s'.gens) s₁ := by
    intro H hO hS hok hA hK
    have base_of : ∀ {b : Addr} {o : Obj}, s₁.heap.get? b = some o → H b = none → (hidT s₁.heap H).get? b = some o := fun e n => hidT_get e n
    have noA : ∀ {b : Addr} {o : Obj} {es : Array DictEntry} {ep : Nat}, s₁.heap.get? b = some o → o.data = .dict es ep → H b = none := fun {b o es ep} e d => by
      cases q : H b with
      | none => rfl
      | some u =>
        have e' : b = a := hA b (by rw [q]; simp)
        subst e'
        rw [ha] at e; cases e
        have d' : Data.seq vs.toArray _ = Data.dict es ep := d
        cases d'
    have nsK : ∀ {b : Addr} {m : Str → Option Value}, s₁.heap.Ns b m → (hidT s₁.heap H).Ns b m := fun {b m} ⟨o, es, ep, e, d, r⟩ => ⟨o, es, ep, base_of e (noA e d), d, r⟩
    have hKb : K.In (hidT s₁.heap H) := fun b o e => base_of (KX b o e) (by
      cases q : H b with
      | none => rfl
      | some u =>
        have e' : b = a := hA b (by rw [q]; simp)
        subst e'
        rw [hK (by rw [q]; simp)] at e; cases e)
    have hM : Mod K mg (hidT s₁.heap H) := ⟨hKb, nsK hns, ⟨mb, nsK hb, hbb⟩, let ⟨mc, h1, h2⟩ := hlim; ⟨mc, nsK h1, h2⟩⟩
    have e0 : Env0 P w K mg (hidT s₁.heap H) callerA [] s₁ H := ⟨rfl, hM, fun b o e => of_hidT e, Nat.le_of_eq (hidT_size _ _), trivial, fun b hb => absurd (show b ∈ ([] : List Addr) from hb) (by simp), hok, .of_eq hg⟩
    refine codeAny_mono ((F _ hKb (nsK hns)).run callerA [] s₁ H ⟨[.ref a], []⟩ [.ref a] [.ref a] _ _ hr e0 (hbind s₁ (.ref a)) (.cons rfl .nil) (hsp H hO hS)) fun r s' h => ?_
    cases r with
    | error e => exact (hCX H e s' h).elim
    | ok fl =>
      cases fl with
      | next => exact False.elim h
      | brk => exact False.elim h
      | cont => exact False.elim h
      | ret u =>
        obtain ⟨v, H', os, bare, un, hok', r', q⟩ := h
        have q' : v = .bl true := q
        subst q'
        obtain rfl : u = Value.bool true := r'
        refine ⟨rfl, OldK.of_keep fun b o e => ?_, os, bare⟩
        cases q : H b with
        | none => exact un.keep b o e q (by intro z; exact absurd (show b ∈ ([] : List Addr) from z) (by simp)) (by simp)
        | some u =>
          rcases hO b with z | ⟨ob, xs, z⟩
          · rw [q] at z; cases z
          · have z2 := un.frzs b ob _ z
            obtain ⟨e1, _⟩ := hok b _ z
            obtain ⟨e2, _⟩ := hok' b _ z2
            rw [e] at e1; cases e1
            exact e2
  cases hk : K.lookup a with
  | some o =>
    -- the script is one of the module's own objects
    have e := KX a o hk
    rw [ha] at e
    cases e
    refine core (fun _ => none) (fun _ => .inl rfl) (.inr ⟨_, vs.toArray, _, hk, rfl, rfl, rfl, by rw [List.size_toArray, lenV]; exact hl, by simpa using rv⟩) (fun b u z => by have z' : (none : Option HO) = some u := z; cases z') (fun b z => absurd rfl z) fun z => absurd rfl z
  | none =>
    refine core (fun b => if b = a then some (.frz { cls := .type "list", data := .seq vs.toArray } (.lst (ns.map V.int))) else none) (fun b => ?_) (.inl (.inr ⟨{ cls := .type "list", data := .seq vs.toArray }, if_pos rfl⟩)) (fun b u z => ?_) (fun b z => ?_) fun _ => hk
    · by_cases hb : b = a
      · exact .inr ⟨_, _, if_pos hb⟩
      · exact .inl (if_neg hb)
    · by_cases hb : b = a
      · have z' := (if_pos hb).symm.trans z
        cases z'
        subst hb
        exact ⟨ha, by rw [List.length_map]; exact hl, vs, _, rv, ha⟩
      · have z' := (if_neg hb).symm.trans z
        cases z'
    · by_cases hb : b = a
      · exact hb
      · exact absurd (if_neg hb) z
end L2

namespace L2
open PySem PySem.Spec PyProof.Rows

/-- the goal that k_head leaves (case hc), from the law's promise. F gives the function object fd (K's own) once, then the promise over every base -/
theorem walk_of {l : PySem.W.OpenLaw} {n k : Nat} {q : Program} {loose : List Str} {XP : (Str → Option Value) → Heap → Prop} {YP : World → Heap → Prop} {d : DefRec} {K : Params → PySem.W.Frag} {CX : World → CXT} {sp : World → Sp} {x : Str}
    (hn : l.most = some n) (hn2 : n ≤ sizeLine) (hdf : d.params.defaults = []) (hr : Room k callerA)
    (hY : ∀ (w : World) (h : Heap), YP w h → (K w.params).In h)
    (F : ∀ (w : World) (mg : Str → Option Value) (fa : Addr) (h : Heap), (K w.params).In h → h.Ns mainGlobals mg → mg d.name = some (.ref fa) →
      ∃ fd : FuncData, (∀ (s : Shared) (u : Value), BindsTo s fd ⟨[u], []⟩ [(x, u)]) ∧
        ∀ base : Heap, (K w.params).In base → base.Ns mainGlobals mg → FnOk l.prog w (K w.params) mg base (CX w) k fa fd [x] (sp w))
    (hsp : ∀ (w : World) (H : Hp) (a : Addr) (ns : List Int), ns.length ≤ n → Only H → SqL (K w.params) H a (ns.map V.int) → sp w [.ref a] H (fun v _ => v = .bl true) fun _ _ _ => False)
    (hCX : ∀ (w : World) (H : Hp) (s : Shared) (e : Value) (s' : Shared), CX w [] H s (fun _ _ _ => False) e s' → False) :
    PySem.W.WalkO q loose XP YP l.row.toRowW d [] (fun f vs => PySem.call f vs) := by
  refine Att.attach_call hn hdf fun w s₀ s₁ mg mb fa o pm cd doc a vs ns G Y ho hd hcd hmg hobj hints hlen hg => ?_
  have KX := hY w _ Y
  obtain ⟨fd, hb, hF⟩ := F w mg fa _ KX G.T.g hmg
  exact law_call KX G.T.g G.T.b G.T.builtins G.T.nolimit hg hobj hints (Nat.le_trans hlen hn2) hr hF hb (fun H hO hS => hsp w H a ns hlen hO hS) fun H e s' => hCX w H s₁ e s'
end L2

/- THE LAST THEOREM (shape; LID, My.* are yours):
   My.Adr: a structure of the addresses that your layer names (classes, functions); My.Txt K t: a structure (Prop) of the equations over K;
   My.txt_mk : {K} {implicit addresses ..} (e1 : nsIn K mainGlobals "law" = some (some (.ref f))) (e2 : K.lookup f = some ⟨oc, od, .func (fnOf "law" "law" params body scope dV kV doc pm an cdv ct), sl⟩) (e3 : codeIn K cdv "law" = true) .. : ∃ t, My.Txt K t

set_option maxRecDepth 100000 in
set_option maxHeartbeats 0 in
(the tactic k_is has no namespace: write k_is) -/

/-! SHORT WORDS over the layer: a def of the text, its body, what a loop and a test want. -/
namespace L2
open PySem PySem.Spec PyProof.Rows

/-! ### the text by places -/
/-- the j-th statement of a class's body -/
def inClass (s : Stmt) (j : Nat) : Stmt := match s with
  | .ClassDef _ _ _ body _ _ _ _ _ _ _ => body.getD j (.Pass ⟨0, 0, 0, 0⟩)
  | _ => .Pass ⟨0, 0, 0, 0⟩
def defArgs (s : Stmt) : Arguments := match s with
  | .FunctionDef _ a _ _ _ _ _ _ _ _ => a
  | _ => { posonlyargs := [], args := [], vararg := none, kwonlyargs := [], kw_defaults := [], kwarg := none, defaults := [] }
def defBody (s : Stmt) : List Stmt := match s with
  | .FunctionDef _ _ b _ _ _ _ _ _ _ => b
  | _ => []
def defScope (s : Stmt) : Scope := match s with
  | .FunctionDef _ _ _ _ _ _ sc _ _ _ => sc
  | _ => { kind := .function, names := [], isGenerator := false, isCoroutine := false }

/-! ### no exception leaves a def -/
abbrev CX0 : CXT := fun _ _ _ _ _ _ => False
abbrev E0 : XK := fun _ _ _ => False
theorem pass0 {X : Cx} : Passes CX0 X E0 := fun _ _ _ _ _ _ _ h => h.elim

/-! ### a def (or method) of the text as it stands behind the top -/
structure Fun (K : PySem.W.Frag) (x qual : Str) (st : Stmt) (f : Addr) (fd : FuncData) : Prop where
  ex : ∃ (oc : Value) (od : Option Addr) (kV doc pm : Value) (an : Option Addr) (cdv ct : Value) (osl : Array (Option Value)),
    fd = PySem.W.fnOf x qual (defArgs st) (defBody st) (defScope st) .none kV doc pm an cdv ct ∧ K.lookup f = some ⟨oc, od, .func fd, osl⟩ ∧ PySem.W.codeIn K cdv qual = true
  kp : PySem.W.keepIn K (.ref f) = true
section
variable {P : Program} {w : World} {K : PySem.W.Frag} {mg : Str → Option Value} {base : Heap}
/-- THE RULE for a def: its body as a term of rules, and the reading of that term -/
theorem Fun.ok {x qual : Str} {st : Stmt} {f : Addr} {fd : FuncData} {N ps : List Str} {k : Nat} {sp : Sp} (F : Fun K x qual st f fd) (S : FnScope N ps (defScope st)) (len : ∀ vs H Q E, sp vs H Q E → vs.length = ps.length)
    (hbody : ∀ (cdv : Value) (A : Around) (outer : List Env) (s : Shared) (H : Hp) (vs : List V) (Q : VK) (E : XK), Room k (A.deeper (envOfC qual (defScope st) s.heap.objs.size f cdv)) → sp vs H Q E →
      ∃ t, PSs (cxOf CX0 P w K mg base N qual (defScope st) f cdv A outer s H E).nox (defBody st) t ∧ t { nx := fun _ H' => Q .non H', rt := Q } (start N vs) H) : FnOk P w K mg base CX0 (k + 1) f fd ps sp := by
  obtain ⟨oc, od, kV, doc, pm, an, cdv, ct, osl, rfl, lk, hcd⟩ := F.ex
  refine fn_of lk hcd S len fun A outer s H vs Q E hr hsp => ?_
  obtain ⟨t, h, q⟩ := hbody cdv A outer s H vs Q E hr hsp
  exact ⟨t, h.nox, q⟩
/-- how its arguments bind (no defaults): h is «fun _ _ _ _ _ _ us hl => match us, hl with | [_, _], _ => rfl», one _ a parameter -/
theorem Fun.binds {x qual : Str} {st : Stmt} {f : Addr} {fd : FuncData} {ps : List Str} (F : Fun K x qual st f fd)
    (h : ∀ (kV doc pm : Value) (an : Option Addr) (cdv ct : Value) (us : List Value), us.length = ps.length → bindArgs (PySem.W.fnOf x qual (defArgs st) (defBody st) (defScope st) .none kV doc pm an cdv ct) ⟨us, []⟩ = pure (ps.zip us)) : Binds K fd ps [] := by
  obtain ⟨oc, od, kV, doc, pm, an, cdv, ct, osl, rfl, lk, hcd⟩ := F.ex
  exact .all (h kV doc pm an cdv ct)
end
theorem small1000 {n : Nat} (h : n ≤ 1000) : n < sizeLine := Nat.lt_of_le_of_lt h (by decide)

/-! ### expressions in short: the name that stands in the i-th slot -/
section
variable {X : Cx}
theorem pv (i : Nat) {x : Str} {pos : Pos} (hN : X.N[i]? = some x := by rfl) (hv : Vis X.env.scope x := by first | exact Or.inl rfl | exact Or.inr (Or.inl rfl) | exact Or.inr (Or.inr rfl)) (hd : (x == ("__debug__" : Str)) = false := by decide)
    (hcd : (x == ("__classdict__" : Str)) = false := by decide) : PE X (.Name x pos) (tVar i) := pe_var hN hv hd hcd
end

/-! ### tests -/
theorem iteF {A B : Prop} (h : B) : if false = true then A else B := by
  rw [if_neg Bool.false_ne_true]
  exact h
theorem iteT {A B : Prop} (h : A) : if true = true then A else B := by
  rw [if_pos rfl]
  exact h
theorem ite2 {c A B : Prop} [Decidable c] (h1 : c → A) (h2 : ¬ c → B) : if c then A else B := by
  by_cases h : c
  · rw [if_pos h]
    exact h1 h
  · rw [if_neg h]
    exact h2 h

/-! ### heaps -/
/-- all that was tracked is as it was -/
def Same (H H' : Hp) : Prop := ∀ b o, H b = some o → H' b = some o
theorem Same.refl (H : Hp) : Same H H := fun _ _ h => h
theorem Same.trans {H H1 H2 : Hp} (a : Same H H1) (b : Same H1 H2) : Same H H2 := fun c o h => b c o (a c o h)
theorem Same.free {H H' : Hp} (e : Same H H') {l : Addr} (h : H' l = Option.none) : H l = Option.none := by
  cases q : H l with
  | none => rfl
  | some o =>
    rw [e l o q] at h
    cases h
theorem Same.seq {K : PySem.W.Frag} {H H' : Hp} {a : Addr} {xs : List V} (e : Same H H') (h : SqL K H a xs) : SqL K H' a xs := by
  rcases h with (h | ⟨o, h⟩) | h
  · exact .inl (.inl (e _ _ h))
  · exact .inl (.inr ⟨o, e _ _ h⟩)
  · exact .inr h

end L2
set_option maxHeartbeats 4000000
/-! My own rules over the hand layer: sum, == and != of lists, isinstance, // by a great number, list comprehensions, range with a step. -/
namespace L3
end L3
namespace L2
open PySem PySem.Spec PyProof.Rows

section
variable {X : Cx}

/-! ### // by a divisor of any size that is met here -/

/-! ### sum of a list of ints -/

/-! ### == and != of lists of flat things -/
def eqVs : List V → List V → Bool
  | [], [] => true
  | x :: xs, y :: ys => eqV x y && eqVs xs ys
  | _, _ => false
theorem eqVs_len : ∀ {xs ys : List V}, xs.length ≠ ys.length → eqVs xs ys = false
  | [], [], h => absurd rfl h
  | [], _ :: _, _ => rfl
  | _ :: _, [], _ => rfl
  | x :: xs, y :: ys, h => by
    show (eqV x y && eqVs xs ys) = false
    rw [eqVs_len (fun e => h (by simp [e])), Bool.and_false]
theorem range_eqVs : ∀ (xs ys : List V), xs.length = ys.length → (List.range xs.length).all (fun j => eqV (xs.getD j .non) (ys.getD j .non)) = eqVs xs ys
  | [], [], _ => rfl
  | [], _ :: _, h => by simp at h
  | _ :: _, [], h => by simp at h
  | x :: xs, y :: ys, h => by
    have ih := range_eqVs xs ys (by simpa using h)
    show (List.range (xs.length + 1)).all _ = (eqV x y && eqVs xs ys)
    rw [List.range_succ_eq_map, List.all_cons, List.all_map]
    show (eqV x y && _) = _
    rw [← ih]
    rfl
theorem eqV_refl : ∀ {x : V}, flatV x = true → eqV x x = true
  | .non, _ => rfl
  | .bl b, _ => by simp [eqV]
  | .int i, _ => by simp [eqV]
  | .str z, _ => by simp [eqV]
theorem eqVs_refl : ∀ {xs : List V}, xs.all flatV = true → eqVs xs xs = true
  | [], _ => rfl
  | x :: xs, h => by
    rw [List.all_cons, Bool.and_eq_true] at h
    show (eqV x x && eqVs xs xs) = true
    rw [eqV_refl h.1, eqVs_refl h.2]
    rfl
def rEqL (K : PySem.W.Frag) (neg : Bool) : R2 := fun x y H Q => ∃ a b xs ys, x = .ref a ∧ y = .ref b ∧ SqL K H a xs ∧ SqL K H b ys ∧ xs.all flatV = true ∧ ys.all flatV = true ∧ Q (.bl (if neg then !eqVs xs ys else eqVs xs ys)) H
theorem flat_at {xs : List V} (h : xs.all flatV = true) {j : Nat} (hj : j < xs.length) : flatV xs[j] = true := by
  rw [List.all_eq_true] at h
  exact h _ (List.getElem_mem hj)
theorem eqAt_at {A : Around} {s : Shared} {xs ys : List V} {us ws : List Value} (r : Vals xs us) (q : Vals ys ws) (fx : xs.all flatV = true) (fy : ys.all flatV = true) :
    ∀ j (h1 : j < us.toArray.size) (h2 : j < ws.toArray.size), SeqAt.EqAt A s us.toArray[j] ws.toArray[j] (eqV (xs.getD j .non) (ys.getD j .non)) := by
  intro j h1 h2
  have l1 := r.length
  have l2 := q.length
  have h1' : j < us.length := by simpa using h1
  have h2' : j < ws.length := by simpa using h2
  have k1 : j < xs.length := by omega
  have k2 : j < ys.length := by omega
  obtain ⟨u, e1, r1⟩ := r.get (i := j) (x := xs[j]) (by simp [k1])
  obtain ⟨w, e2, r2⟩ := q.get (i := j) (x := ys[j]) (by simp [k2])
  have g1 : us.toArray[j] = u := by
    have := List.getElem?_eq_some_iff.mp e1
    obtain ⟨_, e⟩ := this
    simpa using e
  have g2 : ws.toArray[j] = w := by
    have := List.getElem?_eq_some_iff.mp e2
    obtain ⟨_, e⟩ := this
    simpa using e
  have d1 : xs.getD j .non = xs[j] := by simp [k1]
  have d2 : ys.getD j .non = ys[j] := by simp [k2]
  rw [g1, g2, d1, d2]
  exact eqAt_V r1 r2 (flat_at fx k1) (flat_at fy k2)
theorem op_neL (hu : X.A.units < cLine) : OpR X (compareOp .NotEq) (rEqL X.K true) := by
  intro pins s σ H x y v u Q I rx ry h
  obtain ⟨a, b, xs, ys, rfl, rfl, hx, hy, fx, fy, q⟩ := h
  cases rx
  cases ry
  obtain ⟨us, r1, p1, z1⟩ := I.list hx
  obtain ⟨ws, r2, p2, z2⟩ := I.list hy
  have l1 := r1.length
  have l2 := r2.length
  show wpAny _ _ (richCompare .NotEq (.ref a) (.ref b)) _ _ s
  by_cases hl : xs.length = ys.length
  · refine SeqAt.RcNeAt.lists p1.isList p2.isList (by simp; omega) hu (eqAt_at r1 r2 fx fy) _ _ _ _ ⟨.bl (!eqVs xs ys), H, I, ?_, q⟩
    have e : us.toArray.size = xs.length := by simp [l1]
    rw [e, range_eqVs xs ys hl]
    rfl
  · refine SeqAt.RcNeAt.lists_lengths p1.isList p2.isList (by simp; omega) hu _ _ _ _ ⟨.bl (!eqVs xs ys), H, I, ?_, q⟩
    rw [eqVs_len hl]
    rfl

/-! ### isinstance -/
def cV : V → Value
  | .ty n => .type n
  | .ref a => .ref a
  | _ => .none
theorem call_isinst : CallR X (.builtin "isinstance") (fun xs H Q => ∃ x c t b, xs = [x, c] ∧ ((∃ n, c = .ty n) ∨ ∃ a, c = .ref a) ∧ TyOf X.K H x t ∧ PySem.W.kitOne X.K t (cV c) = some b ∧ Q (.bl b) H) := by
  intro pins s σ H xs us Q I r h
  obtain ⟨x, c, t, b, rfl, hc, ty, e, q⟩ := h
  obtain ⟨u, w', rfl, r1, r2⟩ := vals2 r
  have ew : w' = cV c := by
    rcases hc with ⟨n, rfl⟩ | ⟨a, rfl⟩
    · exact r2
    · exact r2
  subst ew
  exact isinst_ok I r1 ty e fun tk => ⟨.bl b, H, I.tok tk, rfl, q⟩
theorem b_isi : bootBuiltins "isinstance" = some (.builtin "isinstance") := by decide +kernel
theorem b_int : bootBuiltins "int" = some (.type "int") := by decide +kernel
theorem b_bool : bootBuiltins "bool" = some (.type "bool") := by decide +kernel
theorem kit_same (K : PySem.W.Frag) (t : Value) : PySem.W.kitOne K t t = some true := by
  unfold PySem.W.kitOne
  rw [if_pos (by simp)]
theorem kit_int_bool (K : PySem.W.Frag) : PySem.W.kitOne K (.type "int") (.type "bool") = some false := by
  have e : (Value.type "int" == Value.type "bool") = false := by decide +kernel
  unfold PySem.W.kitOne PySem.W.kitCls PySem.W.subIn
  rw [e, if_neg Bool.false_ne_true]
  show (if PySem.W.kitMeta "bool" = true then _ else _) = _
  rw [if_pos (by decide +kernel)]
  show (fastBuiltinMro "int").map (·.contains (Value.type "bool")) = some false
  decide +kernel
/-! ### a reading cut in two: what a statement reaches, and what follows of it -/
def tCut (t : TS) : TS := fun D σ H => ∃ P : St → Hp → Prop, t { D with nx := P } σ H ∧ ∀ σ' H', P σ' H' → D.nx σ' H'
theorem ps_cut {st : Stmt} {t : TS} (h : PS X st t) : PS X st (tCut t) := by
  intro pins s σ H D I hw
  obtain ⟨P, h1, h2⟩ := hw
  refine thn (h pins s σ H { D with nx := P } I h1) fun f s' q => ?_
  cases f with
  | next =>
    obtain ⟨σ', H', I', q'⟩ := q
    exact ⟨σ', H', I', h2 σ' H' q'⟩
  | brk => exact q
  | cont => exact q
  | ret u => exact q
def tCutE (t : TE) : TE := fun σ H Q => ∃ P : V → Hp → Prop, t σ H P ∧ ∀ v H', P v H' → Q v H'
theorem pe_cut {e : Expr} {t : TE} (h : PE X e t) : PE X e (tCutE t) := by
  intro pins s σ H Q I hw
  obtain ⟨P, h1, h2⟩ := hw
  exact thn (h pins s σ H P I h1) fun u s' ⟨v, H', I', r, q⟩ => ⟨v, H', I', r, h2 v H' q⟩

/-! ### range with a step -/
end
/-! ### slices of a list of ints -/
end L2
/-! List comprehensions over the hand layer: the block has a context of its own; its list is no tracked thing till the end. -/
namespace L2
open PySem PySem.Spec PyProof.Rows

/-- an untracked object of ours becomes a tracked one -/
theorem Inv.adopt {X : Cx} {pins : List (Addr × Obj)} {σ : St} {H : Hp} {s : Shared} {a : Addr} {o : HO} (I : Inv X pins σ H s) (f : FpOk X pins H a) (h0 : X.s₀.heap.objs.size ≤ a) (new : ObjOk X.prog X.w (upd H a o) s.heap a o) : Inv X pins σ (upd H a o) s := by
  obtain ⟨hn, hL, _, _, hC, hp⟩ := f
  have nt : ∀ b u, H b = some u → b ≠ a := fun b u e => ne_of_none e hn
  refine ⟨I.ok, I.os, I.bare, ⟨I.base.keep, I.base.slot, fun b ob e n hx => ?_, I.base.there, fun b xs e => ?_, fun b ob u e => ?_, fun b ps e => ?_⟩, I.loc, I.cell, ?_, fun x c e => ?_, fun p hp' => ?_, fun b u e => ?_, I.len⟩
  · rw [upd_ne (Nat.ne_of_lt (Nat.lt_of_lt_of_le (Heap.lt_size e) h0))]
    exact I.base.free b ob e n hx
  · have q := I.base.tups b xs e
    rw [upd_ne (nt _ _ q)]
    exact q
  · have q := I.base.frzs b ob u e
    rw [upd_ne (nt _ _ q)]
    exact q
  · obtain ⟨m, q⟩ := I.base.tbls b ps e
    exact ⟨m, by rw [upd_ne (nt _ _ q)]; exact q⟩
  · rw [upd_ne (Ne.symm hL)]
    exact I.free
  · rw [upd_ne (hC x c e)]
    exact I.freeC x c e
  · obtain ⟨e, n, r⟩ := I.pin p hp'
    exact ⟨e, by rw [upd_ne (hp p hp')]; exact n, r⟩
  · by_cases hb : b = a
    · subst hb
      rw [upd_same] at e
      cases e
      exact new
    · rw [upd_ne hb] at e
      exact (I.hok b u e).stay (fun c v _ q => q) (fun c q => by rw [upd_ne (nt _ _ q)]; exact q) fun c xs q => by rw [upd_ne (nt _ _ q)]; exact q

/-- the values of the names that a block draws from around it -/
def capσ (cap : List (Option Nat)) (σ : St) : St := cap.map fun o => match o with
  | some i => (σ[i]?).getD none
  | none => none
/-- the cells that a block draws from around -/
def closL (cells : List (Str × Addr)) (names : List (Str × NameKind)) : List (Str × Addr) → List (Str × Addr) := fun acc => names.foldl (fun acc p => if p.2 == .free then (p.1, (cells.lookup p.1).getD 0) :: acc else acc) acc
theorem forIn_foldl {α β : Type} {f : α → β → Sem (ForInStep β)} {g : β → α → β} : ∀ (l : List α) (b : β), (∀ x ∈ l, ∀ b, f x b = pure (.yield (g b x))) → forIn l b f = pure (l.foldl g b)
  | [], b, _ => by rw [List.forIn_nil]; rfl
  | x :: l, b, h => by
    rw [List.forIn_cons, h x List.mem_cons_self]
    show forIn l (g b x) f = _
    rw [forIn_foldl l (g b x) fun y hy => h y (List.mem_cons_of_mem _ hy)]
    rfl
theorem closureFor_eq {scope : Scope} {env : Env} (h : ∀ x ∈ scope.names, x.2 = .free → ∃ c, env.cells.lookup x.1 = some c) : closureFor scope env = pure (closL env.cells scope.names []) := by
  unfold closureFor
  dsimp only
  rw [forIn_foldl (g := fun acc p => if p.2 == .free then (p.1, (env.cells.lookup p.1).getD 0) :: acc else acc) scope.names [] fun x hx b => ?_]
  · rfl
  · obtain ⟨n, k⟩ := x
    by_cases hk : k = .free
    · subst hk
      obtain ⟨c, ec⟩ := h _ hx rfl
      have ec' : env.cells.lookup n = some c := ec
      have e1 : cellOf env n = pure c := by unfold cellOf; rw [ec']
      simp only [beq_self_eq_true, if_true, e1, ec', Option.getD_some]
      rfl
    · have : (k == NameKind.free) = false := by simpa using hk
      simp only [this, Bool.false_eq_true, if_false]
theorem closL_cons (cells : List (Str × Addr)) (p : Str × NameKind) (r : List (Str × NameKind)) (acc : List (Str × Addr)) : closL cells (p :: r) acc = closL cells r (if p.2 == .free then (p.1, (cells.lookup p.1).getD 0) :: acc else acc) := rfl
theorem closL_of {cells : List (Str × Addr)} {x : Str} {c : Addr} : ∀ (names : List (Str × NameKind)) (acc : List (Str × Addr)), (closL cells names acc).lookup x = some c → (((x, NameKind.free) ∈ names ∧ c = (cells.lookup x).getD 0) ∨ acc.lookup x = some c)
  | [], acc, h => .inr h
  | (n, k) :: r, acc, h => by
    rw [closL_cons] at h
    rcases closL_of r _ h with ⟨h1, h2⟩ | h1
    · exact .inl ⟨List.mem_cons_of_mem _ h1, h2⟩
    · by_cases hk : k = .free
      · subst hk
        simp only [beq_self_eq_true, if_true] at h1
        rw [List.lookup_cons] at h1
        by_cases hx : x = n
        · subst hx
          simp only [beq_self_eq_true] at h1
          exact .inl ⟨List.mem_cons_self, (Option.some.inj h1).symm⟩
        · have hb : (x == n) = false := beq_eq_false_iff_ne.mpr hx
          rw [hb] at h1
          exact .inr h1
      · have : (k == NameKind.free) = false := by simpa using hk
        simp only [this, Bool.false_eq_true, if_false] at h1
        exact .inr h1
theorem closL_has {cells : List (Str × Addr)} {x : Str} : ∀ (names : List (Str × NameKind)) (acc : List (Str × Addr)), ((x, NameKind.free) ∈ names ∨ ∃ c, acc.lookup x = some c) → ∃ c, (closL cells names acc).lookup x = some c
  | [], acc, h => by
    rcases h with h | h
    · cases h
    · exact h
  | (n, k) :: r, acc, h => by
    rw [closL_cons]
    refine closL_has r _ ?_
    by_cases hm : (x, NameKind.free) ∈ r
    · exact .inl hm
    · refine .inr ?_
      rcases h with h | ⟨c, h⟩
      · rcases List.mem_cons.mp h with e | h
        · cases e
          simp [List.lookup_cons]
        · exact absurd h hm
      · split
        · rw [List.lookup_cons]
          by_cases hx : x = n
          · subst hx
            simp
          · have hb : (x == n) = false := beq_eq_false_iff_ne.mpr hx
            rw [hb]
            exact ⟨c, h⟩
        · exact ⟨c, h⟩
theorem cellsFrom_app : ∀ (names : List (Str × NameKind)) (n : Nat) (acc acc' : List (Str × Addr)), cellsFrom n names (acc ++ acc') = cellsFrom n names acc ++ acc'
  | [], _, _, _ => rfl
  | (m, k) :: r, n, acc, acc' => by
    unfold cellsFrom
    split
    · exact cellsFrom_app r (n + 1) ((m, n) :: acc) acc'
    · exact cellsFrom_app r n acc acc'
theorem cellsFrom_split (names : List (Str × NameKind)) (n : Nat) (acc : List (Str × Addr)) (x : Str) : (cellsFrom n names acc).lookup x = ((cellsFrom n names []).lookup x).or (acc.lookup x) := by
  rw [← List.lookup_append, ← cellsFrom_app, List.nil_append]
theorem cellsFrom_not {x : Str} : ∀ (names : List (Str × NameKind)) (n : Nat) (acc : List (Str × Addr)), (x, NameKind.cell) ∉ names → (cellsFrom n names acc).lookup x = acc.lookup x
  | [], _, _, _ => rfl
  | (m, k) :: r, n, acc, h => by
    unfold cellsFrom
    by_cases hk : k = .cell
    · subst hk
      simp only [beq_self_eq_true, if_true]
      rw [cellsFrom_not r _ _ fun z => h (List.mem_cons_of_mem _ z), List.lookup_cons]
      have hx : x ≠ m := fun e => h (by rw [e]; exact List.mem_cons_self)
      have hb : (x == m) = false := beq_eq_false_iff_ne.mpr hx
      rw [hb]
    · have : (k == NameKind.cell) = false := by simpa using hk
      simp only [this, Bool.false_eq_true, if_false]
      exact cellsFrom_not r _ _ fun z => h (List.mem_cons_of_mem _ z)
/-- names after the block is looked at from around -/
def relN (names ns : List (Str × NameKind)) : List (Str × NameKind) := names.map fun (n, k) => if (k == .free && ns.lookup n == some .cell) then (n, .cell) else (n, k)
theorem relabel_names {scope : Scope} {env : Env} (hk : env.scope.kind = .function) : (relabel scope env).names = relN scope.names env.scope.names := by
  unfold relabel relN
  have e : (ScopeKind.function == ScopeKind.function) = true := by decide
  simp only [hk, e, Bool.and_true]
  rfl
theorem relN_lookup {ns : List (Str × NameKind)} {x : Str} : ∀ (names : List (Str × NameKind)), (relN names ns).lookup x = (names.lookup x).map fun k => if (k == .free && ns.lookup x == some .cell) then .cell else k
  | [] => rfl
  | (n, k) :: r => by
    have ih := relN_lookup (ns := ns) (x := x) r
    show List.lookup x ((if (k == .free && ns.lookup n == some .cell) = true then (n, NameKind.cell) else (n, k)) :: relN r ns) = _
    by_cases hx : x = n
    · subst hx
      by_cases hc : (k == .free && ns.lookup x == some .cell) = true
      · rw [if_pos hc]
        simp only [List.lookup_cons, beq_self_eq_true, Option.map_some]
        rw [if_pos hc]
      · rw [if_neg hc]
        simp only [List.lookup_cons, beq_self_eq_true, Option.map_some]
        rw [if_neg hc]
    · have hb : (x == n) = false := beq_eq_false_iff_ne.mpr hx
      by_cases hc : (k == .free && ns.lookup n == some .cell) = true
      · rw [if_pos hc]
        simp only [List.lookup_cons, hb]
        exact ih
      · rw [if_neg hc]
        simp only [List.lookup_cons, hb]
        exact ih
theorem relN_of {names ns : List (Str × NameKind)} {x : Str} (h : (relN names ns).lookup x = some .cell ∨ (relN names ns).lookup x = some .free) : names.lookup x = some .cell ∨ names.lookup x = some .free := by
  rw [relN_lookup] at h
  cases e : names.lookup x with
  | none => rw [e] at h; simp at h
  | some k =>
    rw [e] at h
    cases k <;> simp_all
theorem relN_free {names ns : List (Str × NameKind)} {x : Str} (h : names.lookup x = some .free) : (relN names ns).lookup x = some .cell ∨ (relN names ns).lookup x = some .free := by
  rw [relN_lookup, h]
  by_cases hc : ns.lookup x == some .cell
  · left; simp [hc]
  · right; simp [hc]
/-- a block's names: its own (cap: none) and those that it draws from around (cap: their place there) -/
structure CompScope (X : Cx) (scope : Scope) (N : List Str) (cap : List (Option Nat)) : Prop where
  kind : scope.kind = .function
  names : ∀ x ∈ scope.names, x.2 = .local → scope.names.lookup x.1 = some .local
  free : ∀ x ∈ scope.names, x.2 = .free → X.env.scope.names.lookup x.1 = some .cell ∨ X.env.scope.names.lookup x.1 = some .free
  nd : N.Nodup
  len : cap.length = N.length
  cap : ∀ (j i : Nat) (x : Str), cap[j]? = some (some i) → N[j]? = some x → X.N[i]? = some x ∧ scope.names.lookup x = some .free ∧ (x, NameKind.cell) ∉ scope.names
/-- the block's cells -/
def bcells (X : Cx) (scope : Scope) (C : Addr) : List (Str × Addr) := cellsFrom (C + 1) scope.names (closL X.env.cells scope.names [])
/-- the context of a block -/
def cxC (X : Cx) (scope : Scope) (N : List Str) (fp : List Addr) (s : Shared) (H : Hp) (C : Addr) : Cx :=
  { X with N := N, s₀ := s, H₀ := H, env := compEnvC scope (bcells X scope C) C X.env, outer := X.stack, ex := fp, fn := fun x => scope.names.lookup x == some .cell, pn := [], xe := fun _ _ => False }
theorem newEnv_around {M : Model} {A : Around} {E : Value → Shared → Prop} {s : Shared} {scope : Scope} {globals : Addr} {cl : List (Str × Addr)} {qual : Str} {func : Option Addr} {code : Value} {outer : Env} {builtins : Addr} {Q : Env → Shared → Prop}
    (hQ : Q (newEnv scope s.heap.objs.size globals (cellsFrom (s.heap.objs.size + 1) scope.names cl) qual func code (some outer) builtins) { s with heap := pushCells (s.heap.push { cls := .type "dict", data := .dict #[] }) scope.names }) :
    wpAny M A (newFunctionEnv scope globals cl [] qual func code (some outer) builtins) Q E s := by
  simp only [newFunctionEnv, Option.isSome_some, if_true]
  refine wpAny_bind (wpAny_alloc ?_)
  refine wpAny_bind (wpAny_layCells _ (fun name kind cells => by cases hkc : kind == NameKind.cell <;> simp [hkc]) _ _ _ _ ?_)
  rw [show ({ s with heap := s.heap.push { cls := .type "dict", data := .dict #[] } } : Shared).heap.objs.size = s.heap.objs.size + 1 from Heap.size_push ..]
  exact wpAny_bind (wpAny_pure (wpAny_pure hQ))

section
variable {X : Cx} {scope : Scope} {N : List Str} {cap : List (Option Nat)} {pins : List (Addr × Obj)} {σ : St} {H : Hp} {s : Shared}
theorem stk_lt (I : Inv X pins σ H s) {b : Addr} (hb : b ∈ frs X.stack) : b < s.heap.objs.size := by
  obtain ⟨_, o, ho, _⟩ := I.stack.mem hb
  exact Heap.lt_size ho
theorem comp_clos (S : CompScope X scope N cap) (I : Inv X pins σ H s) : closureFor scope X.env = pure (closL X.env.cells scope.names []) :=
  closureFor_eq fun x hx hf => I.ok.has x.1 (S.free x hx hf)
/-- a cell of the block is new, or one from around -/
theorem bcells_of {C : Addr} {x : Str} {c : Addr} (S : CompScope X scope N cap) (I : Inv X pins σ H s) (h : (bcells X scope C).lookup x = some c) : (cellsFrom (C + 1) scope.names []).lookup x = some c ∨ X.env.cells.lookup x = some c := by
  unfold bcells at h
  rw [cellsFrom_split] at h
  cases e : (cellsFrom (C + 1) scope.names []).lookup x with
  | some c' =>
    rw [e] at h
    exact .inl h
  | none =>
    rw [e] at h
    have h' : (closL X.env.cells scope.names []).lookup x = some c := h
    rcases closL_of _ _ h' with ⟨h1, h2⟩ | h1
    · obtain ⟨c', ec⟩ := I.ok.has x (S.free _ h1 rfl)
      rw [ec] at h2
      rw [h2]
      exact .inr ec
    · cases h1
theorem inv_comp {fp : List Addr} {C D : Addr} {o : Obj} {s4 : Shared} {m : Str → Option Value} (S : CompScope X scope N cap) (I : Inv X pins σ H s) (f : ∀ b ∈ fp, FpOk X pins H b) (hfp : ∀ b ∈ fp, b < s.heap.objs.size)
    (hk : ∀ b u, s.heap.get? b = some u → s4.heap.get? b = some u) (hns : s4.heap.Ns C m) (hC : s.heap.objs.size ≤ C) (hD : s.heap.objs.size ≤ D) (hDC : D ≠ C) (eD : s4.heap.get? D = some o) (hcell : ∀ v, o.data ≠ .cell v)
    (hnew : CellsOk s4.heap (C + 1) (cellsFrom (C + 1) scope.names [])) (hos : s4.os = s.os) (hg : s4.gens = s.gens) : Inv (cxC X scope N fp s H C) [(D, o)] (capσ cap σ) H s4 := by
  have stkne : ∀ b ∈ fp, b ∉ frs X.stack := fun b hb hz => by
    obtain ⟨_, h1, h2, _⟩ := f b hb
    rcases List.mem_cons.mp (I.stkSub b hz) with e | e
    · exact h1 e
    · exact h2 e
  have nw : ∀ {x : Str} {c : Addr}, (cellsFrom (C + 1) scope.names []).lookup x = some c → s4.heap.IsCell c none ∧ Nat.lt C c := fun {x c} h => hnew.empty x c (PySem.mem_of_lookup h)
  have od : ∀ {x : Str} {c : Addr}, X.env.cells.lookup x = some c → c < s.heap.objs.size := fun {x c} h => let ⟨_, q⟩ := I.cell x c h; q.lt
  refine ⟨⟨I.ok.mod, S.kind, I.ok.glob, I.ok.blt, hC, fun x y c h1 h2 => ?_, fun x h => ?_, fun x c h1 h2 => ?_, I.ok.hd, I.ok.frames, .inl rfl, fun b hb => ⟨?_, fun x c e => ?_⟩, I.bs, Nat.le_trans I.ok.bsz I.sz, fun b ob e hb => ?_, stkne, I.stack, I.stkFree⟩,
    hos, by rw [hg]; exact I.bare, Un.kept hk, ⟨m, hns, fun j x v e1 e2 e3 => ?_⟩, fun x c e => ?_, I.hok.fresh hC, fun x c e => ?_, fun p hp => ?_, I.hok.kept hk, ?_⟩
  · rcases bcells_of S I h1 with q1 | q1 <;> rcases bcells_of S I h2 with q2 | q2
    · exact name_of_addr hnew.apart (PySem.mem_of_lookup q1) (PySem.mem_of_lookup q2)
    · exact absurd (Nat.lt_of_le_of_lt hC (nw q1).2) (Nat.not_lt_of_lt (od q2))
    · exact absurd (Nat.lt_of_le_of_lt hC (nw q2).2) (Nat.not_lt_of_lt (od q1))
    · exact I.ok.inj x y c q1 q2
  · have h' : (relabel scope X.env).names.lookup x = some .cell ∨ (relabel scope X.env).names.lookup x = some .free := h
    rw [relabel_names I.ok.kind] at h'
    show ∃ c, (cellsFrom (C + 1) scope.names (closL X.env.cells scope.names [])).lookup x = some c
    rw [cellsFrom_split]
    rcases relN_of h' with q | q
    · obtain ⟨c, e⟩ := cell_has (n := C + 1) q
      exact ⟨c, by rw [e]; rfl⟩
    · obtain ⟨c, e⟩ := closL_has (cells := X.env.cells) scope.names [] (.inl (PySem.mem_of_lookup q))
      cases e2 : (cellsFrom (C + 1) scope.names []).lookup x with
      | some c' => exact ⟨c', rfl⟩
      | none => exact ⟨c, e⟩
  · have h1' : (scope.names.lookup x == some .cell) = true := h1
    have q : scope.names.lookup x = some .cell := by simpa using h1'
    obtain ⟨c', e⟩ := cell_has (n := C + 1) q
    have h2' : (cellsFrom (C + 1) scope.names (closL X.env.cells scope.names [])).lookup x = some c := h2
    rw [cellsFrom_split, e] at h2'
    have h3 : c' = c := Option.some.inj h2'
    rw [← h3]
    exact Nat.le_of_lt (Nat.lt_of_le_of_lt hC (nw e).2)
  · exact Nat.ne_of_lt (Nat.lt_of_lt_of_le (hfp b hb) hC)
  · rcases bcells_of S I e with q | q
    · exact Nat.ne_of_gt (Nat.lt_trans (Nat.lt_of_lt_of_le (hfp b hb) hC) (nw q).2)
    · exact (f b hb).2.2.2.2.1 x c q
  · obtain ⟨_, _, _, h4, _⟩ := f b hb
    rcases h4 with h4 | h4
    · exact I.ok.noex b ob e h4
    · exact absurd (Nat.lt_of_lt_of_le (Heap.lt_size e) (Nat.le_trans I.ok.bsz h4)) (Nat.lt_irrefl _)
  · -- a name that is drawn from around
    have e2' : (cap.map fun o => match o with | some i => (σ[i]?).getD none | none => none)[j]? = some (some v) := e2
    rw [List.getElem?_map] at e2'
    cases ec : cap[j]? with
    | none => rw [ec] at e2'; cases e2'
    | some oi =>
      rw [ec] at e2'
      cases oi with
      | none => cases e2'
      | some i =>
        have e4 : (σ[i]?).getD none = some v := Option.some.inj e2'
        have e5 : σ[i]? = some (some v) := by
          cases q : σ[i]? with
          | none => rw [q] at e4; cases e4
          | some w => rw [q] at e4; exact congrArg some e4
        obtain ⟨h1, hf, hnc⟩ := S.cap j i x ec e1
        have hm := PySem.mem_of_lookup hf
        have h2 := S.free _ hm rfl
        obtain ⟨mo, _, hl⟩ := I.loc
        obtain ⟨u, ru, lk⟩ := hl i x v h1 e5 (.inr h2)
        have h3 : (relabel scope X.env).names.lookup x = some .cell ∨ (relabel scope X.env).names.lookup x = some .free := by
          rw [relabel_names I.ok.kind]
          exact relN_free hf
        refine ⟨u, ru, .inr ⟨h3, ?_⟩⟩
        rcases lk with ⟨k1, _⟩ | ⟨_, c, ec', z⟩
        · have k1' : X.env.scope.names.lookup x = some .local := k1
          rcases h2 with h2 | h2 <;> rw [h2] at k1' <;> cases k1'
        · obtain ⟨c', ec2⟩ := closL_has (cells := X.env.cells) scope.names [] (.inl hm)
          have ec3 : (bcells X scope C).lookup x = some c' := by
            unfold bcells
            rw [cellsFrom_not _ _ _ hnc]
            exact ec2
          rcases closL_of _ _ ec2 with ⟨_, q2⟩ | q2
          · rw [ec'] at q2
            have q3 : c' = c := q2
            subst q3
            obtain ⟨oc, ho, hd⟩ := z
            exact ⟨c', ec3, oc, hk _ _ ho, hd⟩
          · cases q2
  · rcases bcells_of S I e with q | q
    · exact ⟨none, (nw q).1⟩
    · obtain ⟨v, oc, ho, hd⟩ := I.cell x c q
      exact ⟨v, oc, hk _ _ ho, hd⟩
  · rcases bcells_of S I e with q | q
    · exact I.hok.fresh (Nat.le_trans hC (Nat.le_of_lt (nw q).2))
    · exact I.freeC x c q
  · have e : p = (D, o) := by simpa [cxC] using hp
    subst e
    exact ⟨eD, I.hok.fresh hD, hDC, fun hz => absurd (stk_lt I hz) (Nat.not_lt.mpr hD), hcell⟩
  · show (cap.map _).length = N.length
    rw [List.length_map, S.len]
/-- behind the block -/
theorem comp_back {fp : List Addr} {C : Addr} {σ' : St} {H' : Hp} {s' : Shared} (I : Inv X pins σ H s) (f : ∀ b ∈ fp, FpOk X pins H b) (J : Inv (cxC X scope N fp s H C) [] σ' H' s') : Inv X pins σ H' s' :=
  I.call' (ch := fp) J.os J.base J.hok J.bare fun b hb => let ⟨_, h1, _, h3, h4, h5⟩ := f b hb; ⟨h3, h1, h4, h5⟩
end

/-! ### the tests of a block -/
def PIf (X : Cx) (ifs : List Expr) (t : TT) : Prop := ∀ (pins : List (Addr × Obj)) (s : Shared) (σ : St) (H : Hp) (Q : Bool → Hp → Prop), Inv X pins σ H s → t σ H Q →
  wpAny (model X.prog X.w) X.A (forIn ifs true fun c r => if r = true then do let ok ← isTrue c X.env (eval c X.env); pure (ForInStep.yield ok) else pure (ForInStep.yield r)) (TP X pins σ Q) X.xe s
def tYes : TT := fun _ H Q => Q true H
theorem pif_nil {X : Cx} : PIf X [] tYes := fun _ _ _ H _ I h => wpAny_tests_nil ⟨H, I, h⟩
theorem compLoop_any {prog : Program} {w : World} {A : Around} {R : Result → Shared → Prop} {s : Shared} {elt target iter : Expr} {ifs : List Expr} {scope : Scope} {pos : Pos} {it acc : Value} {env : Env} (I : Nat → Shared → Prop)
    (turn : ∀ n s, I n s → wpAny (model prog w) A (pyNext it) (fun r s₁ => match r with
      | none => R (.ok .next) s₁
      | some v => wpAny (model prog w) A (letOwnedTupleGo target it v) (fun _ s₁' => wpAny (model prog w) A (assign target env v) (fun _ s₂ =>
          wpAny (model prog w) A (forIn ifs true fun c r => if r = true then do let ok ← isTrue c env (eval c env); pure (ForInStep.yield ok) else pure (ForInStep.yield r)) (fun ok s₂' =>
            if ok = true then wpAny (model prog w) A (eval elt env) (fun x s₃ =>
              wpAny (model prog w) A (call (.builtin "list.append") [acc, x]) (fun _ s₄ => ∃ m, m < n ∧ I m s₄) (fun _ _ => False) s₃) (fun _ _ => False) s₂'
            else ∃ m, m < n ∧ I m s₂') (fun _ _ => False) s₂) (fun _ _ => False) s₁') (fun _ _ => False) s₁) (fun _ _ => False) s)
    (n : Nat) (h : I n s) : codeAny (model prog w) A (.compLoop (.ListComp elt [⟨target, iter, ifs, 0⟩] scope pos) 0 it acc env) R s := by
  refine codeAny_loop rfl I (fun n s hI => ?_) n h
  show wpAny _ _ ((compTurn (.ListComp elt [⟨target, iter, ifs, 0⟩] scope pos) 0 it acc env).onRaise (fun x => do noteFrame x env; theTreesLotGoes x)) _ _ s
  refine wpAny_noted ?_
  rw [compTurn_list]
  refine wpAny_bind (wpAny_standAt (wpAny_bind (wpAny_mono (turn n s hI) (fun r s₁ h₁ => ?_) fun _ _ h' => h'.elim)))
  cases r with
  | none => exact wpAny_pure h₁
  | some v =>
    refine wpAny_bind (wpAny_mono h₁ (fun _ s₁' h₁' => ?_) fun _ _ h' => h'.elim)
    refine wpAny_bind (wpAny_mono h₁' (fun _ s₂ h₂ => wpAny_bind (wpAny_mono h₂ (fun ok s₂' h₂' => ?_) fun _ _ h' => h'.elim)) fun _ _ h' => h'.elim)
    cases ok with
    | false => exact wpAny_pure ⟨rfl, h₂'⟩
    | true =>
      exact wpAny_bind (wpAny_bind (wpAny_mono h₂' (fun x s₃ h₃ => wpAny_bind (wpAny_mono h₃ (fun _ s₄ h₄ => wpAny_pure (wpAny_pure ⟨rfl, h₄⟩)) fun _ _ h' => h'.elim)) fun _ _ h' => h'.elim))

def tComp (wi : TI) (cap : List (Option Nat)) (g : TG) (te : TE) : TE := fun σ H Q => wi σ H fun J H1 => ∃ W : Nat → Nat → St → List V → Hp → Prop, (∃ m, W 0 m (capσ cap σ) [] H1) ∧ ∀ i m σ' ys H', W i m σ' ys H' →
  (J.stop i H' ∧ ∀ D, H' D = none → Q (.ref D) (upd H' D (.lst ys))) ∨ (J.go i H' ∧ ys.length < sizeLine ∧ ∃ N : St → V → Hp → Prop, (∀ σ2 y H4, N σ2 y H4 → ∃ m', m' < m ∧ W (i + 1) m' σ2 (ys ++ [y]) H4) ∧
    ∀ x H2, J.yld i H' x H2 → g x σ' H2 fun σ2 H3 => te σ2 H3 (N σ2))

section
variable {X : Cx} {scope : Scope} {N : List Str} {cap : List (Option Nat)} {pins : List (Addr × Obj)} {σ : St} {H2 : Hp} {s2 : Shared} {tg elt iter : Expr} {ifs : List Expr} {pos : Pos} {g : TG} {tt : TT} {te : TE}
theorem comp_block {fp : List Addr} {it : Addr} {tn : Nat → Heap → Prop} {J : It} {Q : VK} {RR : Value → Addr → Result → Shared → Prop} {E : Value → Shared → Prop} (S : CompScope X scope N cap) (hc : X.calm = true)
    (hg : ∀ fp s H C, PG (cxC X scope N fp s H C) tg g) (ht : ∀ fp s H C, PIf (cxC X scope N fp s H C) ifs tt) (he : ∀ fp s H C, PE (cxC X scope N fp s H C) elt te)
    (I2 : Inv X pins σ H2 s2) (T : Turn X.prog X.w X.K tg J fp it tn) (st2 : tn 0 s2.heap) (f2 : ∀ b ∈ fp, FpOk X pins H2 b)
    (W : Nat → Nat → St → List V → Hp → Prop) {m0 : Nat} (w0 : W 0 m0 (capσ cap σ) [] H2)
    (turn : ∀ i m σ' ys H', W i m σ' ys H' → (J.stop i H' ∧ ∀ D, H' D = none → Q (.ref D) (upd H' D (.lst ys))) ∨ (J.go i H' ∧ ys.length < sizeLine ∧ ∃ (N : St → V → Hp → Prop) (N0 : St → Hp → Prop), (∀ σ2 y H4, N σ2 y H4 → ∃ m', m' < m ∧ W (i + 1) m' σ2 (ys ++ [y]) H4) ∧ (∀ σ2 H4, N0 σ2 H4 → ∃ m', m' < m ∧ W (i + 1) m' σ2 ys H4) ∧
      ∀ x H2, J.yld i H' x H2 → g x σ' H2 fun σ2 H3 => tt σ2 H3 fun b H4 => if b = true then te σ2 H4 (N σ2) else N0 σ2 H4))
    (hRR : ∀ (D C : Addr) (H' : Hp) (s' : Shared) (m : Str → Option Value), Inv X pins σ H' s' → FpOk X pins H' C → C ≠ D → s'.heap.Ns C m → Q (.ref D) H' → RR (.ref D) C (.ok .next) s') :
    wpAny (model X.prog X.w) X.A (newList []) (fun acc s₃ => wpAny (model X.prog X.w) X.A (newFunctionEnv scope X.env.globals (closL X.env.cells scope.names []) [] X.env.qual none .none (some X.env)) (fun cenv s₄ =>
      codeAny (model X.prog X.w) X.A (.compStart (.ListComp elt [⟨tg, iter, ifs, 0⟩] scope pos) 0 (.ref it) acc { cenv with scope := relabel scope X.env }) (RR acc cenv.locals) s₄) E s₃) E s2 := by
  refine wpAny_newObj_type (newEnv_around ?_)
  dsimp only
  generalize hP : s2.heap.push { cls := .type "list", dict := none, data := .seq ([] : List Value).toArray } = P
  have hnew : CellsOk (pushCells (P.push { cls := .type "dict", data := .dict #[] }) scope.names) (P.objs.size + 1) (cellsFrom (P.objs.size + 1) scope.names []) := by
    have q := cellsFrom_ok scope.names (P.push { cls := .type "dict", data := .dict #[] }) (P.objs.size + 1) [] ⟨fun _ _ hm => (nomatch hm), List.Pairwise.nil⟩ (by rw [Heap.size_push]; exact Nat.le_refl _)
    rwa [Heap.size_push] at q
  have hns₁ : (pushCells (P.push { cls := .type "dict", data := .dict #[] }) scope.names).Ns P.objs.size (fun _ => none) := (Heap.Ns.new P (.type "dict")).keeps (pushCells_keeps _ _)
  have keep₁ : ∀ b o, P.get? b = some o → (pushCells (P.push { cls := .type "dict", data := .dict #[] }) scope.names).get? b = some o := fun b o e => pushCells_keeps _ _ b o (Heap.get?_push_of_some _ e)
  generalize pushCells (P.push { cls := .type "dict", data := .dict #[] }) scope.names = h₁ at hnew hns₁ keep₁ ⊢
  have hC : P.objs.size = s2.heap.objs.size + 1 := by rw [← hP, Heap.size_push]
  have hDC : s2.heap.objs.size ≠ P.objs.size := by rw [hC]; exact Nat.ne_of_lt (Nat.lt_succ_self _)
  have hCle : s2.heap.objs.size ≤ P.objs.size := by rw [hC]; exact Nat.le_succ _
  have hDle : s2.heap.objs.size ≤ s2.heap.objs.size := Nat.le_refl _
  have old : ∀ b o, s2.heap.get? b = some o → h₁.get? b = some o := fun b o e => keep₁ b o (hP ▸ Heap.get?_push_of_some _ e)
  have hacc : h₁.get? s2.heap.objs.size = some { cls := .type "list", data := .seq ([] : List Value).toArray } := keep₁ _ _ (hP ▸ Heap.get?_push_size _ rfl)
  have hfp : ∀ b ∈ fp, b < s2.heap.objs.size := fun b hb => let ⟨_, e, _⟩ := T.obj 0 _ st2 b hb; Heap.lt_size e
  generalize hDd : s2.heap.objs.size = D at hacc hDC hDle ⊢
  rw [hDd] at hCle hC
  generalize P.objs.size = C at hnew hns₁ hC hDC hCle ⊢
  have dne : ∀ b ∈ fp, D ≠ b := fun b hb => Nat.ne_of_gt (hDd ▸ hfp b hb)
  have cne : ∀ b ∈ fp, b ≠ C := fun b hb => Nat.ne_of_lt (Nat.lt_of_lt_of_le (hDd ▸ hfp b hb) hCle)
  have stkne : ∀ b ∈ fp, b ∉ frs X.stack := fun b hb hz => by
    obtain ⟨_, h1, h2, _⟩ := f2 b hb
    rcases List.mem_cons.mp (I2.stkSub b hz) with e | e
    · exact h1 e
    · exact h2 e
  have dfs : D ∉ frs X.stack := fun hz => absurd (stk_lt I2 hz) (by rw [hDd]; exact Nat.lt_irrefl _)
  have dcell : ∀ x c, (bcells X scope C).lookup x = some c → c ≠ D := fun x c e z => by
    rcases bcells_of S I2 e with e | e
    · have q : Nat.lt C c := (hnew.empty x c (PySem.mem_of_lookup e)).2
      rw [z] at q
      exact absurd (Nat.lt_of_le_of_lt hCle q) (Nat.lt_irrefl _)
    · obtain ⟨v, q⟩ := I2.cell x c e
      have := q.lt
      rw [z, hDd] at this
      exact absurd this (Nat.lt_irrefl _)
  have bcell : ∀ b ∈ fp, ∀ x c, (bcells X scope C).lookup x = some c → c ≠ b := fun b hb x c e => by
    rcases bcells_of S I2 e with e | e
    · have q : Nat.lt C c := (hnew.empty x c (PySem.mem_of_lookup e)).2
      exact Nat.ne_of_gt (Nat.lt_trans (Nat.lt_of_lt_of_le (hDd ▸ hfp b hb) hCle) q)
    · exact (f2 b hb).2.2.2.2.1 x c e
  -- the iterator's things, at every turn
  have stat : ∀ {o : Obj} {H' : Hp}, (∀ b ∈ fp, H' b = none) → ∀ b ∈ fp, FpOk (cxC X scope N fp s2 H2 C) [(D, o)] H' b := fun {o H'} hn b hb =>
    ⟨hn b hb, cne b hb, stkne b hb, .inl hb, bcell b hb, fun p hp => by
      have e : p = (D, o) := by simpa [cxC] using hp
      subst e
      exact dne b hb⟩
  have loop : ∀ s₃ : Shared, s₃ = { s2 with heap := h₁ } →
      codeAny (model X.prog X.w) X.A (.compLoop (.ListComp elt [⟨tg, iter, ifs, 0⟩] scope pos) 0 (.ref it) (.ref D) (compEnvC scope (bcells X scope C) C X.env)) (RR (.ref D) C) s₃ := by
    rintro s₃ rfl
    have I3 : Inv (cxC X scope N fp s2 H2 C) [(D, _)] (capσ cap σ) H2 { s2 with heap := h₁ } :=
      inv_comp S I2 f2 hfp old hns₁ (by rw [hDd]; exact hCle) (by rw [hDd]; exact Nat.le_refl _) hDC hacc (fun v z => by cases z) hnew rfl rfl
    refine compLoop_any (fun n s' => ∃ i σ' ys H' its k, Inv (cxC X scope N fp s2 H2 C) [] σ' H' s' ∧ tn i s'.heap ∧ (∀ b ∈ fp, H' b = none) ∧ H' D = none ∧ s'.heap.get? D = some { cls := .type "list", data := .seq (its : List Value).toArray k } ∧ Vals ys its ∧ ys.length ≤ sizeLine ∧ W i n σ' ys H') ?_ m0
      ⟨0, _, [], H2, [], _, I3.pins_of (fun p hp => nomatch hp), T.keep _ _ _ st2 (fun b hb o e => old b o e), fun b hb => (f2 b hb).1, I2.hok.fresh (by rw [hDd]; exact Nat.le_refl _), hacc, .nil, Nat.zero_le _, w0⟩
    rintro n s3 ⟨i, σ3, ys, H3, its, k, J3, st3, fr3, hD3, e3, r3, z3, w3⟩
    have J3' : Inv (cxC X scope N fp s2 H2 C) [(D, { cls := .type "list", data := .seq its.toArray k })] σ3 H3 s3 := J3.pins_of fun p hp => by
      have e : p = (D, { cls := .type "list", data := .seq its.toArray k }) := by simpa using hp
      subst e
      exact ⟨e3, hD3, hDC, dfs, fun v z => by cases z⟩
    rcases turn i n σ3 ys H3 w3 with ⟨stop, qn⟩ | ⟨go, hlt, N', N0', hN, hN0, step⟩
    · refine thn (T.done (cxC X scope N fp s2 H2 C) rfl rfl rfl hc i _ s3 σ3 H3 (fun _ _ => False) J3' (stat fr3) st3 stop) fun r s4 ⟨hr, I4⟩ => ?_
      subst hr
      have e4 := (I4.pin (D, { cls := .type "list", data := .seq its.toArray k }) (by simp [cxC])).1
      have B : Inv X pins σ H3 s4 := comp_back I2 f2 (I4.pins_of fun p hp => nomatch hp)
      obtain ⟨m, hm, _⟩ := I4.loc
      have fD : FpOk X pins H3 D := I2.fpOk (by rw [hDd]; exact Nat.le_refl _) hD3
      have B' : Inv X pins σ (upd H3 D (.lst ys)) s4 := B.adopt fD (by rw [← hDd]; exact I2.sz) ⟨z3, its, k, r3, e4⟩
      refine hRR D C _ s4 m B' (I2.fpOk (by rw [hDd]; exact hCle) ?_) hDC.symm hm (qn D hD3)
      rw [upd_ne hDC.symm]
      exact I4.free
    · refine thn (T.item (cxC X scope N fp s2 H2 C) rfl rfl rfl hc i _ s3 σ3 H3 (fun _ _ => False) J3' (stat fr3) st3 go) fun r s4 ⟨u, hr, h4⟩ => ?_
      subst hr
      refine thn h4 fun _ s5 ⟨x, H5, I5, r5, y5, st5, fr5⟩ => ?_
      have I5' := I5.pinned (stat fr5) (T.obj _ _ st5)
      refine thn (hg fp s2 H2 C _ s5 σ3 H5 x u _ I5' r5 (step x H5 y5)) fun _ s6 ⟨σ6, H6, I6, q6⟩ => ?_
      refine thn (ht fp s2 H2 C _ s6 σ6 H6 _ I6 q6) fun ok s6' ⟨H6', I6', q6'⟩ => ?_
      cases ok with
      | false =>
        have q6' : N0' σ6 H6' := by simpa using q6'
        obtain ⟨m', hm', w7⟩ := hN0 σ6 H6' q6'
        have p7 := I6'.pin (D, { cls := .type "list", data := .seq its.toArray k }) (by simp [cxC])
        have e7 : s6'.heap.get? D = some { cls := .type "list", data := .seq its.toArray k } := p7.1
        have pf : ∀ b ∈ fp, ∀ o, s5.heap.get? b = some o → s6'.heap.get? b = some o ∧ H6' b = none := fun b hb o e =>
          let z := I6'.pin (b, o) (List.mem_append_right _ (List.mem_append_right _ (mem_pinsAt hb e)))
          ⟨z.1, z.2.1⟩
        refine ⟨m', hm', i + 1, σ6, ys, H6', its, _, I6'.pins_of (fun p hp => nomatch hp), T.keep _ _ _ st5 (fun b hb o e => (pf b hb o e).1), fun b hb => ?_, p7.2.1, e7, r3, z3, w7⟩
        obtain ⟨o, e, _⟩ := T.obj _ _ st5 b hb
        exact (pf b hb o e).2
      | true =>
      have q6' : te σ6 H6' (N' σ6) := by simpa using q6'
      refine thn (he fp s2 H2 C _ s6' σ6 H6' _ I6' q6') fun v s7 ⟨y, H7, I7, r7, q7⟩ => ?_
      obtain ⟨m', hm', w7⟩ := hN σ6 y H7 q7
      have p7 := I7.pin (D, { cls := .type "list", data := .seq its.toArray k }) (by simp [cxC])
      have e7 : s7.heap.get? D = some { cls := .type "list", data := .seq its.toArray k } := p7.1
      have hl7 := r3.length
      refine call_meets F.slot_list_append ⟨_, e7, rfl⟩ F.entry_list_append (F.args_list_append_2 _ _) (PySem.list_append D its.toArray k v (by rw [List.size_toArray]; omega)) ⟨e7, ?_⟩
      have q8 := PySem.IsL.update e7 (·.push v)
      have ex8 : its.toArray.push v = (its ++ [v]).toArray := by simp
      rw [ex8] at q8
      have pf : ∀ b ∈ fp, ∀ o, s5.heap.get? b = some o → s7.heap.get? b = some o ∧ H7 b = none := fun b hb o e =>
        let z := I7.pin (b, o) (List.mem_append_right _ (List.mem_append_right _ (mem_pinsAt hb e)))
        ⟨z.1, z.2.1⟩
      have I7' : Inv (cxC X scope N fp s2 H2 C) [] σ6 H7 s7 := I7.pins_of fun p hp => nomatch hp
      refine ⟨m', hm', i + 1, σ6, ys ++ [y], H7, its ++ [v], _, I7'.turned (it := D) (fun b o hb e => (Heap.get?_update_other _ _ (Ne.symm hb)).trans e) p7.2.1 hDC (.inr (by show s2.heap.objs.size ≤ D; rw [hDd]; exact Nat.le_refl _)) dcell (fun p hp => nomatch hp),
        T.keep _ _ _ st5 (fun b hb o e => (Heap.get?_update_other _ _ (dne b hb)).trans (pf b hb o e).1), fun b hb => ?_, p7.2.1, q8, r3.append (.cons r7 .nil), by rw [List.length_append, List.length_singleton]; omega, w7⟩
      obtain ⟨o, e, _⟩ := T.obj _ _ st5 b hb
      exact (pf b hb o e).2
  have st1 : tn 0 h₁ := T.keep _ _ _ st2 (fun b hb o e => old b o e)
  exact codeAny_compStart_list (loop _ rfl) (T.self X.A 0 _ _ _ st1 (loop _ rfl))

theorem comp_turn {J : It} {Q : VK} {W : Nat → Nat → St → List V → Hp → Prop} (h : ∀ i m σ' ys H', W i m σ' ys H' → (J.stop i H' ∧ ∀ D, H' D = none → Q (.ref D) (upd H' D (.lst ys))) ∨ (J.go i H' ∧ ys.length < sizeLine ∧ ∃ N : St → V → Hp → Prop, (∀ σ2 y H4, N σ2 y H4 → ∃ m', m' < m ∧ W (i + 1) m' σ2 (ys ++ [y]) H4) ∧
      ∀ x H2, J.yld i H' x H2 → g x σ' H2 fun σ2 H3 => te σ2 H3 (N σ2))) : ∀ i m σ' ys H', W i m σ' ys H' → (J.stop i H' ∧ ∀ D, H' D = none → Q (.ref D) (upd H' D (.lst ys))) ∨ (J.go i H' ∧ ys.length < sizeLine ∧ ∃ (N : St → V → Hp → Prop) (N0 : St → Hp → Prop), (∀ σ2 y H4, N σ2 y H4 → ∃ m', m' < m ∧ W (i + 1) m' σ2 (ys ++ [y]) H4) ∧ (∀ σ2 H4, N0 σ2 H4 → ∃ m', m' < m ∧ W (i + 1) m' σ2 ys H4) ∧
      ∀ x H2, J.yld i H' x H2 → g x σ' H2 fun σ2 H3 => tYes σ2 H3 fun b H4 => if b = true then te σ2 H4 (N σ2) else N0 σ2 H4) := by
  intro i m σ' ys H' w
  rcases h i m σ' ys H' w with h | ⟨go, hl, N, hN, st⟩
  · exact .inl h
  · refine .inr ⟨go, hl, N, fun _ _ => False, hN, (fun _ _ z => z.elim), fun x H2 y => ?_⟩
    have e : (fun (σ2 : St) (H3 : Hp) => tYes σ2 H3 fun b H4 => if b = true then te σ2 H4 (N σ2) else False) = fun σ2 H3 => te σ2 H3 (N σ2) := by
      funext σ2 H3
      show (if true = true then te σ2 H3 (N σ2) else False) = te σ2 H3 (N σ2)
      rw [if_pos rfl]
    rw [e]
    exact st x H2 y
/-- [elt for tg in iter] -/
theorem pe_comp {wi : TI} (S : CompScope X scope N cap) (hc : X.calm = true) (hi : PI X tg iter wi) (hg : ∀ fp s H C, PG (cxC X scope N fp s H C) tg g) (he : ∀ fp s H C, PE (cxC X scope N fp s H C) elt te)
    (hs : ∀ x, foldedSetIterable iter X.env x = pure x := by intro _; rfl) : PE X (.ListComp elt [⟨tg, iter, [], 0⟩] scope pos) (tComp wi cap g te) := by
  intro pins s σ H Q I h
  rw [eval_ListComp]
  refine wpAny_comprehension_free (use := none) rfl hs (comp_clos S I) S.kind S.names (thn (hi pins s σ H _ I h) fun v s1 h1 => thn h1 fun itv s2 h2 => ?_)
  obtain ⟨it, fp, tn, J, H2, e, I2, T, st2, f2, W, ⟨m0, w0⟩, turn⟩ := h2
  subst e
  refine comp_block (RR := fun acc C => compPost (model X.prog X.w) X.A X.xe none (EP X pins σ Q) acc C) S hc hg (fun _ _ _ _ => pif_nil) he I2 T st2 f2 W w0 (comp_turn turn) fun D C H' s' m B fC hCD hm q => ?_
  obtain ⟨c0, c1, c2, c3, c4, c5⟩ := fC
  exact ⟨m, hm, fun h' hs' => ⟨.ref D, H', B.turned (t' := s'.toks) (fun b o hb e => (hs'.2 b hb).trans e) c0 c1 c3 c4 c5, rfl, q⟩⟩
end

/-! ### the forms one uses -/
section
variable {g : TG} {te : TE} {σ : St} {H : Hp} {R : List V → Hp → Addr → Prop}
theorem comp_range {lo : Int} {n : Nat} (Pv : Nat → St → List V → Hp → Prop) (h0 : Pv 0 σ [] H) (hz : n ≤ sizeLine) (hl : ∀ i σ ys H, i ≤ n → Pv i σ ys H → ys.length = i)
    (hs : ∀ i σ ys H, i < n → Pv i σ ys H → g (.int (lo + i)) σ H fun σ2 H2 => te σ2 H2 fun y H3 => Pv (i + 1) σ2 (ys ++ [y]) H3) (hd : ∀ σ ys H, Pv n σ ys H → ∀ D, H D = none → R ys H D) :
    ∃ W : Nat → Nat → St → List V → Hp → Prop, (∃ m, W 0 m σ [] H) ∧ ∀ i m σ' ys H', W i m σ' ys H' →
      ((Itr lo n).stop i H' ∧ ∀ D, H' D = none → R ys H' D) ∨ ((Itr lo n).go i H' ∧ ys.length < sizeLine ∧ ∃ N : St → V → Hp → Prop, (∀ σ2 y H4, N σ2 y H4 → ∃ m', m' < m ∧ W (i + 1) m' σ2 (ys ++ [y]) H4) ∧
        ∀ x H2, (Itr lo n).yld i H' x H2 → g x σ' H2 fun σ2 H3 => te σ2 H3 (N σ2)) := by
  refine ⟨fun i m σ ys H => m = n - i ∧ i ≤ n ∧ Pv i σ ys H, ⟨n, by simp, Nat.zero_le _, h0⟩, ?_⟩
  rintro i m σ ys H ⟨rfl, hi, p⟩
  have el := hl i σ ys H hi p
  by_cases hlt : i < n
  · refine .inr ⟨hlt, by omega, fun σ2 y H3 => Pv (i + 1) σ2 (ys ++ [y]) H3, fun σ' y H' p' => ⟨n - (i + 1), by omega, rfl, hlt, p'⟩, fun x H' yl => ?_⟩
    obtain ⟨e, yl⟩ := yl
    subst e yl
    exact hs i σ ys _ hlt p
  · have e : i = n := by omega
    subst e
    exact .inl ⟨Nat.le_refl _, hd σ ys H p⟩
end
/-- a block that draws nothing from around -/
theorem CompScope.plain {X : Cx} {scope : Scope} {N : List Str} (kind : scope.kind = .function) (names : ∀ x ∈ scope.names, x.2 = .local → scope.names.lookup x.1 = some .local) (_ : ∀ x ∈ scope.names, x.2 ≠ .cell) (nf : ∀ x ∈ scope.names, x.2 ≠ .free) (nd : N.Nodup) :
    CompScope X scope N (List.replicate N.length none) := by
  refine ⟨kind, names, fun x hx hf => absurd hf (nf x hx), nd, by simp, fun j i x e _ => ?_⟩
  rw [List.getElem?_replicate] at e
  split at e
  · cases e
  · cases e
/-- a block's names held against those around, by reckoning -/
def compOk (scope : Scope) (ns : List (Str × NameKind)) (XN N : List Str) (cap : List (Option Nat)) : Bool :=
  scope.kind == .function && scope.names.all (fun x => !(x.2 == .local) || scope.names.lookup x.1 == some .local) && scope.names.all (fun x => !(x.2 == .free) || (ns.lookup x.1 == some .cell || ns.lookup x.1 == some .free)) && decide N.Nodup && decide (cap.length = N.length) &&
    (cap.zip N).all fun p => match p.1 with
      | none => true
      | some i => XN[i]? == some p.2 && scope.names.lookup p.2 == some .free && scope.names.all fun y => !(y.1 == p.2 && y.2 == .cell)
theorem CompScope.of {X : Cx} {scope : Scope} {N : List Str} {cap : List (Option Nat)} (ns : List (Str × NameKind)) (XN : List Str) (hn : X.env.scope.names = ns) (hN : X.N = XN) (h : compOk scope ns XN N cap = true) : CompScope X scope N cap := by
  unfold compOk at h
  simp only [Bool.and_eq_true, decide_eq_true_eq, List.all_eq_true, Bool.or_eq_true, Bool.not_eq_true', beq_iff_eq, beq_eq_false_iff_ne] at h
  obtain ⟨⟨⟨⟨⟨h1, h2⟩, h3⟩, h4⟩, h5⟩, h6⟩ := h
  refine ⟨h1, fun x hx hl => ?_, fun x hx hf => ?_, h4, h5, fun j i x e1 e2 => ?_⟩
  · rcases h2 x hx with q | q
    · exact absurd hl q
    · exact q
  · rw [hn]
    rcases h3 x hx with q | q
    · exact absurd hf q
    · exact q
  · have hz : (cap.zip N)[j]? = some (some i, x) := by
      rw [List.getElem?_zip_eq_some]
      exact ⟨e1, e2⟩
    have q := h6 _ (List.mem_of_getElem? hz)
    simp only [Bool.and_eq_true, beq_iff_eq, List.all_eq_true, Bool.not_eq_true', Bool.and_eq_false_iff, beq_eq_false_iff_ne] at q
    obtain ⟨⟨q1, q2⟩, q3⟩ := q
    refine ⟨by rw [hN]; exact q1, q2, fun z => ?_⟩
    rcases q3 _ z with q | q
    · exact q rfl
    · exact q rfl
end L2
/-! More rules over the hand layer: enumerate, any, all, insert, defaults. -/
namespace L2
open PySem PySem.Spec PyProof.Rows

/-! ### enumerate of a list of ours, into names -/
section
variable {X : Cx}
end

/-! ### any, all of a list of bools -/
section
variable {X : Cx}

/-! ### insert at a place -/
end
/-! ### is, is not beside True and False -/
section
variable {X : Cx}
end
end L2
/-! list(reversed(xs)), a class called with keywords. -/
namespace L2
open PySem PySem.Spec PyProof.Rows
section
variable {prog : Program} {w : World} {A : Around} {E : Value → Shared → Prop} {s : Shared}
end
section
variable {X : Cx}
end
/-! ### a class called with keywords -/
section
variable {X : Cx} {CX : CXT} {k : Nat} {f C : Addr} {fd : FuncData} {ps ks : List Str} {sp : Sp} {E : XK} {x : Str} {p pos : Pos} {e : Expr} {es : List Expr} {kws : List Keyword} {t tk : TA} {g : List Value → List Value → List Value} {gV : List V → List V → List V}
def tMakeK (C : Addr) (sp : Sp) (gV : List V → List V → List V) (E : XK) (t tk : TA) : TE := fun σ H Q => t σ H fun vs H1 => tk σ H1 fun zs H2 => ∀ x dx, H2 x = none → H2 dx = none → dx ≠ x →
  sp (gV (.ref x :: vs) zs) (upd (upd H2 dx (.own x)) x (.ins C dx [])) (fun v H3 => v = .non ∧ Q (.ref x) H3) E
theorem run_makeK {pins : List (Addr × Obj)} {σ : St} {H : Hp} {s : Shared} {Q : VK} {us ws : List Value} {vs zs : List V} (M : Mk X.K C f) (F : FnOk X.prog X.w X.K X.mg X.base CX k f fd ps sp) (hr : Room (k + 1) X.A) (hb : KBinds X.K fd ps ks g gV)
    (hx : Passes CX X E) (I : Inv X pins σ H s) (r : Vals vs us) (rz : Vals zs ws)
    (h : ∀ x dx, H x = none → H dx = none → dx ≠ x → sp (gV (.ref x :: vs) zs) (upd (upd H dx (.own x)) x (.ins C dx [])) (fun v H2 => v = .non ∧ Q (.ref x) H2) E) :
    wpAny (model X.prog X.w) X.A (call (.ref C) us (ks.zip ws)) (EP X pins σ Q) X.xe s := by
  have hq := h (s.heap.objs.size + 1) s.heap.objs.size (I.hok.fresh (Nat.le_succ _)) (I.hok.fresh (Nat.le_refl _)) (Nat.ne_of_lt (Nat.lt_succ_self _))
  have I2 := Inv.made (C := C) I
  have r2 : Vals (gV (V.ref (s.heap.objs.size + 1) :: vs) zs) (g (Value.ref (s.heap.objs.size + 1) :: us) ws) := hb.rel (.cons rfl r) rz
  have hl : (g (Value.ref (s.heap.objs.size + 1) :: us) ws).length = ps.length := by
    rw [← r2.length]
    exact F.len _ _ _ _ hq
  refine wpAny_call (make_map (f := f) I.kIn M.makes M.init (beq_iff_eq.mp M.fn) (codeAny_mono (F.run _ X.stack _ _ ⟨Value.ref (s.heap.objs.size + 1) :: us, ks.zip ws⟩ (g (Value.ref (s.heap.objs.size + 1) :: us) ws) _ _ E (hr.make C us (ks.zip ws))
    (I2.env0.make C us (ks.zip ws)) (hb.to _ (Value.ref (s.heap.objs.size + 1) :: us) ws I2.kIn hl) r2 hq) fun r s' hq' => ?_))
  cases r with
  | error e => exact hx pins σ _ _ e s' I2 hq'
  | ok fl =>
    cases fl with
    | ret u =>
      obtain ⟨v, H', I3, rv, ev, q3⟩ := I2.after hq'
      subst ev
      exact ⟨rv, ⟨V.ref (s.heap.objs.size + 1), H', I3, rfl, q3⟩⟩
    | next => exact False.elim hq'
    | brk => exact False.elim hq'
    | cont => exact False.elim hq'
theorem pe_makeK (M : Mk X.K C f) (F : FnOk X.prog X.w X.K X.mg X.base CX k f fd ps sp) (hr : Room (k + 1) X.A) (hg : Gl X x) (hm : X.mg x = some (.ref C)) (hb : KBinds X.K fd ps ks g gV) (hx : Passes CX X E)
    (ha : PA X (e :: es) t) (hkw : PK X kws tk) (hall : (backToKw pos (keywordEach kws X.env)).all (·.1.isSome) = true := by rfl) (hks : (backToKw pos (keywordEach kws X.env)).filterMap (·.1) = ks := by rfl)
    (hdb : (x == ("__debug__" : Str)) = false := by decide) (he : starEach (e :: es) X.env = (false, eval e X.env) :: starEach es X.env := by rfl)
    (hpl : ((backTo pos (starEach (e :: es) X.env)).any (·.1) || (backToKw pos (keywordEach kws X.env)).any (·.1.isNone)) = false := by rfl) :
    PE X (.Call (.Name x p) (e :: es) kws pos) (tMakeK C sp gV E t tk) := by
  intro pins s σ H Q I h
  refine wpAny_Call_Name_kw (ld_glob I hg hm ?_ hdb)
  refine PySem.W.callWith_KW (h₀ := X.base) I.ok.mod.kin M.kp hall (thn (ha pos pins s σ H _ I h) fun us s1 ⟨vs, H1, I1, r, q⟩ => ?_) hpl he
  refine thn (hkw pos pins s1 σ H1 _ I1 q) fun ws s2 ⟨zs, H2, I2, rz, q2⟩ => ⟨I2.kIn, ?_⟩
  rw [hks]
  exact run_makeK M F hr hb hx I2 r rz q2
end
end L2
/-! the rules that name the text's facts K, for use inside a block: there K is told. -/
namespace L2
open PySem PySem.Spec PyProof.Rows
section
variable {X : Cx} {K : PySem.W.Frag} {pos : Pos}
end
end L2
/-! == and != of lists and tuples of any depth that are alike; zip of two lists. -/
namespace L2
open PySem PySem.Spec PyProof.Rows
/-- alike, at most n deep -/
inductive DEq (K : PySem.W.Frag) (H : Hp) : Nat → V → V → Prop
  | flat {n : Nat} {x y : V} (fx : flatV x = true) (fy : flatV y = true) (e : eqV x y = true) : DEq K H n x y
  | same {n : Nat} (a : Addr) : DEq K H n (.ref a) (.ref a)
  | lst {n : Nat} {a b : Addr} {xs ys : List V} (ha : SqL K H a xs) (hb : SqL K H b ys) (hl : xs.length = ys.length) (h : ∀ (i : Nat) (x y : V), xs[i]? = some x → ys[i]? = some y → DEq K H n x y) : DEq K H (n + 1) (.ref a) (.ref b)
  | tup {n : Nat} {a b : Addr} {xs ys : List V} (ha : SqT K H a xs) (hb : SqT K H b ys) (hl : xs.length = ys.length) (h : ∀ (i : Nat) (x y : V), xs[i]? = some x → ys[i]? = some y → DEq K H n x y) : DEq K H (n + 1) (.ref a) (.ref b)
theorem DEq.self {K : PySem.W.Frag} {H : Hp} {n : Nat} {x : V} (h : flatV x = true) : DEq K H n x x := .flat h h (eqV_refl h)
theorem DEq.int {K : PySem.W.Frag} {H : Hp} {n : Nat} (i : Int) : DEq K H n (.int i) (.int i) := .self rfl
theorem DEq.bl {K : PySem.W.Frag} {H : Hp} {n : Nat} (i : Bool) : DEq K H n (.bl i) (.bl i) := .self rfl
theorem DEq.non {K : PySem.W.Frag} {H : Hp} {n : Nat} : DEq K H n .non .non := .self rfl
theorem DEq.str {K : PySem.W.Frag} {H : Hp} {n : Nat} (i : Str) : DEq K H n (.str i) (.str i) := .self rfl
section
variable {X : Cx}
end
/-! ### zip of two lists -/
section
variable {X : Cx}
end
end L2
/-! comprehensions with a test: the forms one uses; remove from a list of whole numbers. -/
namespace L2
open PySem PySem.Spec PyProof.Rows
section
variable {g : TG} {tt : TT} {te : TE} {σ : St} {H : Hp} {R : List V → Hp → Addr → Prop}
end
/-! ### remove -/
section
variable {X : Cx}
end
end L2
/-! Base.m(self, ..): a method called at its class. -/
namespace L2
open PySem PySem.Spec PyProof.Rows
/-- what a class must have so that its method can be called at it -/
structure BaseT (K : PySem.W.Frag) (C : Addr) (m : Str) (f : Addr) : Prop where
  rd : PySem.W.readsIn K C (.type "type") = true
  ga : PySem.W.specialIn K (.ref C) "__getattribute__" = some (some (.builtin "type.__getattribute__"))
  fc : PySem.W.findCls K (.ref C) (.type "type") m = some (.val (.ref f))
section
variable {X : Cx} {CX : CXT} {k : Nat} {f C : Addr} {fd : FuncData} {ps : List Str} {sp : Sp} {dvs : List V} {ds : List Value} {E : XK} {x m : Str} {p pos apos : Pos} {e o : Expr} {es : List Expr} {ta : TE} {t : TA}
theorem pe_base {pl : Sem Bool} (B : BaseT X.K C m f) (F : FnOk X.prog X.w X.K X.mg X.base CX k f fd ps sp) (hr : Room k X.A) (hg : Gl X x) (hm : X.mg x = some (.ref C)) (hk : PySem.W.keepIn X.K (.ref f) = true) (hb : Binds X.K fd ps ds) (hd : Vals dvs ds) (hx : Passes CX X E)
    (ha : PA X (e :: es) t) (hdb : (x == ("__debug__" : Str)) = false := by decide)
    (hst : starEach (e :: es) X.env = (false, eval e X.env) :: starEach es X.env := by rfl) (hpl : (backTo pos (starEach es X.env)).any (·.1) = false := by rfl)
    (ht : eval (.Call (.Attribute (.Name x p) m apos) (e :: es) [] pos) X.env = (do
      let ov ← eval (.Name x p) X.env
      standAt apos.atName
      let (f, first) ← holding [ov] (getMethod ov m pl)
      callWith pos f first (backTo pos (starEach (e :: es) X.env)) (backToKw pos (keywordEach [] X.env))) := by rfl) :
    PE X (.Call (.Attribute (.Name x p) m apos) (e :: es) [] pos) (tCall sp dvs E t) := by
  intro pins s σ H Q I h
  refine PySem.W.methodCall_KW (pl := pl) (thn (pe_glob (v := .ref C) hg hm rfl hdb pins s σ H (fun y H1 => y = .ref C ∧ H1 = H) I ⟨rfl, rfl⟩) fun u s1 ⟨y, H1, I1, ry, ey, eH⟩ => ?_) ht
  subst ey eH
  obtain rfl : u = Value.ref C := ry
  refine PySem.W.method_cls I1.kIn B.ga (PySem.W.cls_value I1.kIn B.rd B.fc rfl ?_)
  have I2 := I1.tok (s1.toks + 1)
  refine PySem.W.callWith_K (h₀ := X.base) I.ok.mod.kin hk (thn (ha pos pins _ σ H1 _ I2 h) fun us s2 ⟨vs, H2, I3, r, q2⟩ => ⟨I3.kIn, ?_⟩) hst hpl
  exact run_fn F hr hb hd hx I3 r q2
end
theorem ixN_nat {n j : Nat} (h : j < n) : ixN n (j : Int) = some j := by
  unfold ixN
  rw [if_pos (by omega), if_pos (by omega)]
  simp
/-! ### list(range(e)) -/
section
variable {X : Cx}
end
/-! ### range with a step, its count told -/
section
variable {X : Cx}
end
/-! a comprehension over it -/
section
variable {g : TG} {te : TE} {σ : St} {H : Hp} {R : List V → Hp → Addr → Prop}
end
end L2
/-! what no way reaches; calls of classes by names. -/
namespace L2
open PySem PySem.Spec PyProof.Rows
/-- where a parameter's value comes from: a place, a name, its default -/
inductive Src where
  | p (i : Nat)
  | k (j : Nat)
  | d (v : Value) (x : V)
def Src.val (us ws : List Value) : Src → Value
  | .p i => us.getD i .none
  | .k j => ws.getD j .none
  | .d v _ => v
def Src.abs (vs zs : List V) : Src → V
  | .p i => vs.getD i .non
  | .k j => zs.getD j .non
  | .d _ x => x
def Src.Ok : Src → Prop
  | .d v x => RelV x v
  | _ => True
def gk (nu nw : Nat) (ss : List Src) (us ws : List Value) : List Value := if us.length = nu ∧ ws.length = nw then ss.map (Src.val us ws) else []
def gkV (nu nw : Nat) (ss : List Src) (vs zs : List V) : List V := if vs.length = nu ∧ zs.length = nw then ss.map (Src.abs vs zs) else []
theorem vals_getD : ∀ {vs : List V} {us : List Value} (i : Nat), Vals vs us → RelV (vs.getD i .non) (us.getD i .none)
  | _, _, i, .nil => by
    show RelV (([] : List V).getD i .non) (([] : List Value).getD i .none)
    rw [List.getD_nil, List.getD_nil]
    rfl
  | _, _, 0, .cons h _ => h
  | _ :: vs, _ :: us, i + 1, .cons _ t => vals_getD i t
theorem src_rel {vs : List V} {us : List Value} {zs : List V} {ws : List Value} (h1 : Vals vs us) (h2 : Vals zs ws) : ∀ (s : Src), s.Ok → RelV (s.abs vs zs) (s.val us ws)
  | .p i, _ => vals_getD i h1
  | .k j, _ => vals_getD j h2
  | .d v x, h => h
theorem srcs_rel {vs : List V} {us : List Value} {zs : List V} {ws : List Value} (h1 : Vals vs us) (h2 : Vals zs ws) : ∀ (ss : List Src), (∀ s ∈ ss, s.Ok) → Vals (ss.map (Src.abs vs zs)) (ss.map (Src.val us ws))
  | [], _ => .nil
  | s :: ss, h => .cons (src_rel h1 h2 s (h s List.mem_cons_self)) (srcs_rel h1 h2 ss fun t ht => h t (List.mem_cons_of_mem _ ht))
theorem gk_rel {nu nw : Nat} {ss : List Src} (ho : ∀ s ∈ ss, s.Ok) {vs : List V} {us : List Value} {zs : List V} {ws : List Value} (h1 : Vals vs us) (h2 : Vals zs ws) : Vals (gkV nu nw ss vs zs) (gk nu nw ss us ws) := by
  have l1 := h1.length
  have l2 := h2.length
  unfold gk gkV
  rw [l1, l2]
  split
  · exact srcs_rel h1 h2 ss ho
  · exact .nil
theorem gk_len {nu nw : Nat} {ss : List Src} {us ws : List Value} {n : Nat} (h : (gk nu nw ss us ws).length = n + 1) : us.length = nu ∧ ws.length = nw := by
  unfold gk at h
  split at h
  · assumption
  · cases h
section
variable {X : Cx} {CX : CXT} {k : Nat} {f C : Addr} {fd : FuncData} {ps ks : List Str} {sp : Sp} {E : XK} {x : Str} {p pos : Pos} {kws : List Keyword} {tk : TA} {g : List Value → List Value → List Value} {gV : List V → List V → List V}
/-- C(k = v, ..): no argument by its place -/
theorem pe_makeK0 (M : Mk X.K C f) (F : FnOk X.prog X.w X.K X.mg X.base CX k f fd ps sp) (hr : Room (k + 1) X.A) (hg : Gl X x) (hm : X.mg x = some (.ref C)) (hb : KBinds X.K fd ps ks g gV) (hx : Passes CX X E)
    (hkw : PK X kws tk) (hall : (backToKw pos (keywordEach kws X.env)).all (·.1.isSome) = true := by rfl) (hks : (backToKw pos (keywordEach kws X.env)).filterMap (·.1) = ks := by rfl) (hdb : (x == ("__debug__" : Str)) = false := by decide)
    (hpl : ((backTo pos (starEach [] X.env)).any (·.1) || (backToKw pos (keywordEach kws X.env)).any (·.1.isNone)) = false := by rfl) : PE X (.Call (.Name x p) [] kws pos) (tMakeK C sp gV E tNil tk) := by
  intro pins s σ H Q I h
  refine wpAny_Call_Name_kw (ld_glob I hg hm ?_ hdb)
  refine PySem.W.callWith_KW0 (h₀ := X.base) I.ok.mod.kin M.kp hall ?_ hpl
  refine thn (hkw pos pins s σ H _ I h) fun ws s2 ⟨zs, H2, I2, rz, q2⟩ => ⟨I2.kIn, ?_⟩
  rw [hks]
  exact run_makeK M F hr hb hx I2 .nil rz q2
end
end L2
/-! dicts of numbers: {}, d.setdefault(k, x), list(d.values()). Own rules over the layer. -/
namespace L2
open PySem PySem.Spec PyProof.Rows
section
variable {X : Cx}
end
end L2
namespace L2
open PySem PySem.Spec PyProof.Rows
section
variable {X : Cx}
/-- two lists put together, the script among them -/
def rCatS (K : PySem.W.Frag) : R2 := fun x y H Q => ∃ (l b : Addr) (xs zs : List V), x = .ref l ∧ y = .ref b ∧ SqL K H l xs ∧ SqL K H b zs ∧ xs.length + zs.length ≤ sizeLine ∧ ∀ p, H p = none → Q (.ref p) (upd H p (.lst (xs ++ zs)))
theorem op_catS : OpR X (binaryOp .Add) (rCatS X.K) := by
  intro pins s σ H x y v u Q I rx ry h
  obtain ⟨l, b, xs, zs, rfl, rfl, hl, hb, hz, q⟩ := h
  cases rx
  cases ry
  obtain ⟨us, r1, ⟨⟨c1, d1, t1, f1⟩, n1, g1, z1, z2, z3⟩, _⟩ := I.list hl
  obtain ⟨ws, r2, ⟨⟨c2, d2, t2, f2⟩, n2, g2, y1, y2, y3⟩, _⟩ := I.list hb
  have lu := r1.length
  have lw := r2.length
  simp only at z1 z2 z3 y1 y2 y3
  subst z1 z2 z3 y1 y2 y3
  refine concat_meets ⟨_, g1, rfl⟩ ⟨_, g2, rfl⟩ noFill_list_add seq_list_add PySem.F.slot_list_add PySem.F.entry_list_add (PySem.F.args_list_add_2 _ _)
    (list_addW l b us.toArray ws.toArray n1 n2 none none f1 f2 (by rw [List.size_toArray, List.size_toArray]; omega)) ⟨g1, g2, ?_⟩
  have ea : us.toArray ++ ws.toArray = (us ++ ws).toArray := by simp
  rw [ea]
  exact ⟨.ref _, _, I.lnew (t' := s.toks) (r1.append r2) (by rw [List.length_append]; omega), rfl, q _ I.fresh⟩
end
end L2
/-! what every text of mine stands on: the facts of defs, classes, methods; heaps; lists place by place. -/
namespace L2
open PySem PySem.Spec PyProof.Rows
/-! ### heaps -/
/-- all but x is as it was -/
def But (x : Addr) (H H' : Hp) : Prop := ∀ b o, b ≠ x → H b = some o → H' b = some o
theorem But.trans {x : Addr} {H H1 H2 : Hp} (a : But x H H1) (b : But x H1 H2) : But x H H2 := fun c o n h => b c o n (a c o n h)
theorem But.same {x : Addr} {H H1 H2 : Hp} (a : But x H H1) (b : Same H1 H2) : But x H H2 := fun c o n h => b c o (a c o n h)
theorem But.of_same {x : Addr} {H H1 : Hp} (b : Same H H1) : But x H H1 := fun c o _ h => b c o h
theorem But.refl {x : Addr} {H : Hp} : But x H H := fun _ _ _ h => h
theorem but_self {x : Addr} {H : Hp} {o : HO} : But x H (upd H x o) := fun b u n e => by rw [upd_ne n]; exact e
theorem same_new {H : Hp} {p : Addr} {o : HO} (hp : H p = none) : Same H (upd H p o) := fun b u e => by
  rw [upd_ne (ne_of_none e hp)]
  exact e
/-- what was fresh at first is changed: what was there stays -/
theorem same_fresh {H H' : Hp} {p : Addr} {o : HO} (hp : H p = none) (s : Same H H') : Same H (upd H' p o) := fun b u e => by
  rw [upd_ne (ne_of_none e hp)]
  exact s b u e
theorem made_same {H H' : Hp} {x dx C : Addr} (nx : H x = none) (nd : H dx = none) (k : But x (upd (upd H dx (.own x)) x (.ins C dx [])) H') : Same H H' := fun b o e => by
  have n1 := ne_of_none e nx
  have n2 := ne_of_none e nd
  refine k b o n1 ?_
  rw [upd_ne n1, upd_ne n2]
  exact e
theorem putF_len {f : Str} {v : V} : ∀ {fs : List (Str × V)} {n : Nat}, fs.length ≤ n → (putF f v fs).length ≤ n + 1
  | [], n, _ => by
    show 1 ≤ n + 1
    omega
  | (g, x) :: r, n, h => by
    show (if g = f then (g, v) :: r else (g, x) :: putF f v r).length ≤ n + 1
    have h' : r.length + 1 ≤ n := h
    split
    · show r.length + 1 ≤ n + 1
      omega
    · show (putF f v r).length + 1 ≤ n + 1
      have := putF_len (f := f) (v := v) (fs := r) (n := n - 1) (by omega)
      omega
theorem few {fs : List (Str × V)} (h : fs.length ≤ 20) : fs.length < 1000 := by omega
theorem at_lt {α : Type} {xs : List α} {i : Nat} {x : α} (h : xs[i]? = some x) : i < xs.length := (List.getElem?_eq_some_iff.mp h).1
theorem at_of {α : Type} {xs : List α} {i : Nat} (h : i < xs.length) : ∃ x, xs[i]? = some x := ⟨xs[i], by simp [h]⟩
/-- two lists, place by place -/
inductive P2 {α β : Type} (R : α → β → Prop) : List α → List β → Prop
  | nil : P2 R [] []
  | cons {a : α} {b : β} {as : List α} {bs : List β} (h : R a b) (t : P2 R as bs) : P2 R (a :: as) (b :: bs)
section
variable {α β : Type} {R R' : α → β → Prop} {as as' : List α} {bs bs' : List β}
theorem P2.of (hl : as.length = bs.length) (h : ∀ (i : Nat) (a : α) (b : β), as[i]? = some a → bs[i]? = some b → R a b) : P2 R as bs := by
  induction as generalizing bs with
  | nil =>
    cases bs with
    | nil => exact .nil
    | cons b bs => cases hl
  | cons a as ih =>
    cases bs with
    | nil => cases hl
    | cons b bs => exact .cons (h 0 a b rfl rfl) (ih (by simpa using hl) fun i x y e1 e2 => h (i + 1) x y (by simpa using e1) (by simpa using e2))
theorem P2.len (h : P2 R as bs) : as.length = bs.length := by
  induction h with
  | nil => rfl
  | cons r t ih => simp [ih]
theorem P2.get (h : P2 R as bs) {i : Nat} {a : α} {b : β} (e1 : as[i]? = some a) (e2 : bs[i]? = some b) : R a b := by
  induction h generalizing i with
  | nil => simp at e1
  | cons r t ih =>
    cases i with
    | zero =>
      simp at e1 e2
      subst e1 e2
      exact r
    | succ i => exact ih (by simpa using e1) (by simpa using e2)
/-- at a place of the first list -/
theorem P2.at (h : P2 R as bs) {i : Nat} {a : α} (e1 : as[i]? = some a) : ∃ b, bs[i]? = some b ∧ R a b := by
  obtain ⟨b, e2⟩ := at_of (xs := bs) (i := i) (by rw [← h.len]; exact at_lt e1)
  exact ⟨b, e2, h.get e1 e2⟩
theorem P2.mono (h : P2 R as bs) (k : ∀ a b, R a b → R' a b) : P2 R' as bs := by
  induction h with
  | nil => exact .nil
  | cons r t ih => exact .cons (k _ _ r) ih
theorem P2.append (h : P2 R as bs) (h' : P2 R as' bs') : P2 R (as ++ as') (bs ++ bs') := by
  induction h with
  | nil => exact h'
  | cons r t ih => exact .cons r ih
theorem P2.take (h : P2 R as bs) (k : Nat) : P2 R (as.take k) (bs.take k) := by
  induction h generalizing k with
  | nil => simpa using P2.nil
  | cons r t ih =>
    cases k with
    | zero => exact .nil
    | succ k => exact .cons r (ih k)
end
theorem flat_bools (bs : List Bool) : (bs.map V.bl).all flatV = true := by
  rw [List.all_eq_true]
  intro x hx
  obtain ⟨n, _, rfl⟩ := List.mem_map.mp hx
  rfl
def oV : Option Int → V
  | none => .non
  | some z => .int z
/-! ### a law of one script: what it promises -/
def spLaw (K : PySem.W.Frag) : Sp := fun vs H Q _ => ∃ (a : Addr) (ns : List Int), vs = [.ref a] ∧ SqL K H a (ns.map V.int) ∧ ns.length ≤ 63 ∧ ∀ H', Q (.bl true) H'
/-! ### Python's own names: none is bound anew -/
structure TxtB (mg : Str → Option Value) : Prop where
  range : mg "range" = none
  len : mg "len" = none
  min : mg "min" = none
  max : mg "max" = none
  isi : mg "isinstance" = none
  bool : mg "bool" = none
  int : mg "int" = none
  list : mg "list" = none
  sum : mg "sum" = none
  enum : mg "enumerate" = none
  any : mg "any" = none
  all : mg "all" = none
  rev : mg "reversed" = none
  zip : mg "zip" = none
  abs : mg "abs" = none
  sorted : mg "sorted" = none
  tuple : mg "tuple" = none
  str : mg "str" = none
/-- a def or a method of the text -/
structure FunD (K : PySem.W.Frag) (x qual : Str) (st : Stmt) (f : Addr) (fd : FuncData) : Prop where
  ex : ∃ (oc : Value) (od : Option Addr) (dV kV doc pm : Value) (an : Option Addr) (cdv ct : Value) (osl : Array (Option Value)),
    fd = PySem.W.fnOf x qual (defArgs st) (defBody st) (defScope st) dV kV doc pm an cdv ct ∧ K.lookup f = some ⟨oc, od, .func fd, osl⟩ ∧ PySem.W.codeIn K cdv qual = true
  kp : PySem.W.keepIn K (.ref f) = true
theorem FunD.ok {P : Program} {w : World} {K : PySem.W.Frag} {mg : Str → Option Value} {base : Heap} {x qual : Str} {st : Stmt} {f : Addr} {fd : FuncData} {N ps : List Str} {k : Nat} {sp : Sp} (F : FunD K x qual st f fd) (S : FnScope N ps (defScope st)) (len : ∀ vs H Q E, sp vs H Q E → vs.length = ps.length)
    (hbody : ∀ (cdv : Value) (A : Around) (outer : List Env) (s : Shared) (H : Hp) (vs : List V) (Q : VK) (E : XK), Room k (A.deeper (PyProof.Rows.envOfC qual (defScope st) s.heap.objs.size f cdv)) → sp vs H Q E →
      ∃ t, PSs (cxOf CX0 P w K mg base N qual (defScope st) f cdv A outer s H E).nox (defBody st) t ∧ t { nx := fun _ H' => Q .non H', rt := Q } (start N vs) H) : FnOk P w K mg base CX0 (k + 1) f fd ps sp := by
  obtain ⟨oc, od, dV, kV, doc, pm, an, cdv, ct, osl, rfl, lk, hcd⟩ := F.ex
  refine fn_of lk hcd S len fun A outer s H vs Q E hr hsp => ?_
  obtain ⟨t, h, q⟩ := hbody cdv A outer s H vs Q E hr hsp
  exact ⟨t, h.nox, q⟩
theorem fund_mk {K : PySem.W.Frag} {x qual : Str} {st : Stmt} {f : Addr} {oc : Value} {od an : Option Addr} {osl : Array (Option Value)} {dV kV doc pm cdv ct : Value} (l : K.lookup f = some ⟨oc, od, .func (PySem.W.fnOf x qual (defArgs st) (defBody st) (defScope st) dV kV doc pm an cdv ct), osl⟩)
    (c : PySem.W.codeIn K cdv qual = true) (k : PySem.W.keepIn K (.ref f) = true) : FunD K x qual st f (PySem.W.fnOf x qual (defArgs st) (defBody st) (defScope st) dV kV doc pm an cdv ct) := ⟨⟨oc, od, dV, kV, doc, pm, an, cdv, ct, osl, rfl, l, c⟩, k⟩
/-- a def as it is called -/
structure Dn (K : PySem.W.Frag) (mg : Str → Option Value) (x : Str) (st : Stmt) (ps : List Str) (f : Addr) (fd : FuncData) : Prop where
  F : FunD K x x st f fd
  b : Binds K fd ps []
  m : mg x = some (.ref f)
/-- what isinstance asks of a class of the text -/
structure Isi (K : PySem.W.Frag) (C : Addr) : Prop where
  ha : PySem.W.findIn K (.ref C) "__class__" = some (some (.builtin "object.__class__"))
  hn : PySem.W.specialIn K (.builtin "object.__class__") "__get__" = some (some (.builtin "getset_descriptor.__get__"))
  ht : PySem.W.takesIn K (.builtin "object.__class__") = some true
  hm : PySem.W.mroIn K C (.type "object") = some true
/-- isinstance beside a class of the text that is another one -/
theorem kit_pair {K : PySem.W.Frag} {A B : Addr} {b : Bool} (mA : PySem.W.mroIn K A (.ref B) = some b) (ob : PySem.W.mroIn K B (.type "object") = some true) (ty : PySem.W.typeIn K (.ref B) = some (.type "type")) (ne : A ≠ B) : PySem.W.kitOne K (.ref A) (.ref B) = some b := by
  have e : (Value.ref A == Value.ref B) = false := beq_eq_false_iff_ne.mpr fun z => ne (by injection z)
  obtain ⟨cd, a, _⟩ := Option.bind_eq_some_iff.mp ob
  unfold PySem.W.kitOne PySem.W.kitCls PySem.W.subIn
  rw [e, if_neg Bool.false_ne_true]
  show (if ((PySem.W.clsIn K B).isSome && PySem.W.typeIn K (.ref B) == some (.type "type")) = true then PySem.W.mroIn K A (.ref B) else none) = some b
  rw [a, ty, mA, if_pos (by simp)]
/-- two classes of which one is not above the other are not one -/
theorem cls_ne {K : PySem.W.Frag} {A B : Addr} (h : PySem.W.mroIn K A (.ref B) = some false) (hA : PySem.W.mroIn K A (.ref A) = some true) : A ≠ B := fun e => by
  rw [← e, hA] at h
  cases h
/-- a class of the text -/
structure ClsT (K : PySem.W.Frag) (mg : Str → Option Value) (nm : Str) (C : Addr) : Prop where
  cl : Cls K C
  m : mg nm = some (.ref C)
  isi : Isi K C
  self : PySem.W.mroIn K C (.ref C) = some true
  ty : PySem.W.typeIn K (.ref C) = some (.type "type")
  makes : PySem.W.makesIn K C = true
  kp : PySem.W.keepIn K (.ref C) = true
/-- a method, as it is found at a class -/
structure MthT (K : PySem.W.Frag) (C : Addr) (m qual : Str) (st : Stmt) (ps : List Str) (f : Addr) (fd : FuncData) : Prop where
  at_ : PySem.W.findIn K (.ref C) m = some (some (.ref f))
  fn : PySem.W.isFn K (.ref f) = true
  F : FunD K m qual st f fd
  b : Binds K fd ps []
theorem MthT.mk' {K : PySem.W.Frag} {mg : Str → Option Value} {C : Addr} {nm qual : Str} {st : Stmt} {ps : List Str} {f : Addr} {fd : FuncData} (h : MthT K C "__init__" qual st ps f fd) (c : ClsT K mg nm C) : Mk K C f := ⟨c.makes, h.at_, h.fn, c.kp⟩
end L2
/-! rows of wares: plain mathematics. -/
namespace War
structure Row where
  kd : Int
  pr : Int
  mn : Int
  ex : Option Int
structure Row.Ok (r : Row) : Prop where
  pr0 : 0 ≤ r.pr
  pr1 : r.pr ≤ 1000000000000
  mn0 : 0 ≤ r.mn
  mn1 : r.mn ≤ 60
  ex0 : ∀ z, r.ex = some z → 0 ≤ z ∧ z ≤ 1000000000000
def own (rs : List Row) : List Int := (rs.zipIdx.map fun p => List.replicate p.1.mn.toNat (p.2 : Int)).flatten
end War
/-! kinds in trees: what stands above a kind. Plain mathematics. -/
namespace Kin
def Good (ps : List (Option Nat)) : Prop := ∀ (i k : Nat), ps[i]? = some (some k) → k < i
def anc (ps : List (Option Nat)) : Nat → Nat → List Nat
  | 0, _ => []
  | f + 1, i => i :: (match ps[i]? with | some (some k) => anc ps f k | _ => [])
def up (ps : List (Option Nat)) (i : Nat) : List Nat := anc ps (i + 1) i
/-- what is above an option of a kind -/
def rest (ps : List (Option Nat)) : Option Nat → List Nat
  | none => []
  | some k => up ps k
def left : Option Nat → Nat
  | none => 0
  | some k => k + 1
end Kin
/-! one kind more: plain mathematics. -/
namespace Kin
end Kin
/-! a cut dealt out over weights: plain mathematics. -/
namespace Deal
def pre (ws : List Int) (k : Nat) : Int := (ws.take k).sum
def part (c : Int) (ws : List Int) (j : Nat) : Int := c * pre ws (j + 1) / ws.sum - c * pre ws j / ws.sum
def dl (c : Int) (ws : List Int) : List Int := if ws.sum = 0 then ws.map (fun _ => 0) else (List.range ws.length).map (part c ws)
def Nn (ws : List Int) : Prop := ∀ w ∈ ws, 0 ≤ w
end Deal
/-! the document's points 7 to 11 as plain functions over lists: what a voucher is about, what it wants to cut, what is left. -/
namespace Vs
open Kin Deal
structure Mks where
  kind : Option Nat
  needs : Int
  most : Option Int
  member : Bool
  once : Bool
  lone : Bool
inductive Srt
  | off (a : Int)
  | share (s : Int) (b : Bool)
  | cheap (n : Int)
  | bund (n p : Int)
  | carr
structure Vch where
  so : Srt
  ms : Mks
/-- a standing: lines of pieces, prices, carriage, marked lines -/
structure Stnd where
  ow : List Nat
  pr : List Int
  cg : Int
  mkd : List Bool
/-! ### [8] -/
/-! ### parts put at places, 0 elsewhere -/
/-! ### [10] the order of pieces: falling prices, of alike ones the lesser first -/
def bef (q : List Int) (a b : Nat) : Prop := q.getD b 0 < q.getD a 0 ∨ (q.getD a 0 = q.getD b 0 ∧ a < b)
/-- r is the places of q in that order -/
def Fall (q : List Int) (r : List Nat) : Prop := r.Perm (List.range q.length) ∧ r.Pairwise (bef q)
theorem bef_asym {q : List Int} {a b : Nat} (h : bef q a b) (h' : bef q b a) : False := by
  unfold bef at h h'
  omega
theorem pw_unique {R : Nat → Nat → Prop} (asym : ∀ a b, R a b → R b a → False) : ∀ {l l' : List Nat}, l.Perm l' → l.Pairwise R → l'.Pairwise R → l = l'
  | [], l', p, _, _ => (List.nil_perm.mp p).symm
  | a :: l, l', p, h, h' => by
    cases l' with
    | nil => exact absurd p.length_eq (by simp)
    | cons b l' =>
      have hab : a = b := by
        rcases Classical.em (a = b) with e | e
        · exact e
        · have ha : a ∈ b :: l' := p.mem_iff.mp List.mem_cons_self
          have hb : b ∈ a :: l := p.mem_iff.mpr List.mem_cons_self
          rcases List.mem_cons.mp ha with e1 | ha
          · exact absurd e1 e
          · rcases List.mem_cons.mp hb with e2 | hb
            · exact absurd e2.symm e
            · exact (asym a b ((List.pairwise_cons.mp h).1 b hb) ((List.pairwise_cons.mp h').1 a ha)).elim
      subst hab
      congr 1
      exact pw_unique asym (List.Perm.cons_inv p) (List.pairwise_cons.mp h).2 (List.pairwise_cons.mp h').2
theorem fall_unique {q : List Int} {r r' : List Nat} (h : Fall q r) (h' : Fall q r') : r = r' :=
  pw_unique (fun _ _ a b => bef_asym a b) (h.1.trans h'.1.symm) h.2 h'.2
end Vs
/-! what a voucher cuts: the mirror of [10] and [11], and that no cut is below 0 or above the price. -/
namespace Vs
open Kin Deal
/-- the first list lies between 0 and the second, place by place -/
def Le2 (xs ys : List Int) : Prop := xs.length = ys.length ∧ ∀ (j : Nat) (v w : Int), xs[j]? = some v → ys[j]? = some w → 0 ≤ v ∧ v ≤ w
theorem Le2.nil : Le2 [] [] := ⟨rfl, fun j v w e => by simp at e⟩
theorem Le2.self {xs : List Int} (h : Nn xs) : Le2 xs xs := ⟨rfl, fun j v w e1 e2 => by
  rw [e1] at e2
  cases e2
  exact ⟨h v (List.mem_of_getElem? e1), Int.le_refl _⟩⟩
theorem Le2.trans {xs ys zs : List Int} (h : Le2 xs ys) (h' : Le2 ys zs) : Le2 xs zs := ⟨h.1.trans h'.1, fun j v w e1 e2 => by
  have hj : j < xs.length := (List.getElem?_eq_some_iff.mp e1).1
  have e3 : ys[j]? = some (ys[j]'(by rw [← h.1]; exact hj)) := by simp [show j < ys.length by rw [← h.1]; exact hj]
  have a := h.2 j v _ e1 e3
  have b := h'.2 j _ w e3 e2
  omega⟩
theorem Le2.append {xs ys xs' ys' : List Int} (h : Le2 xs ys) (h' : Le2 xs' ys') : Le2 (xs ++ xs') (ys ++ ys') := by
  refine ⟨by simp [h.1, h'.1], fun j v w e1 e2 => ?_⟩
  have hl := h.1
  rcases Nat.lt_or_ge j xs.length with hj | hj
  · rw [List.getElem?_append_left hj] at e1
    rw [List.getElem?_append_left (by omega)] at e2
    exact h.2 j v w e1 e2
  · rw [List.getElem?_append_right hj] at e1
    rw [List.getElem?_append_right (by omega), ← hl] at e2
    exact h'.2 _ v w e1 e2
theorem Le2.sum : ∀ {xs ys : List Int}, Le2 xs ys → 0 ≤ xs.sum ∧ xs.sum ≤ ys.sum
  | [], [], _ => by simp
  | [], _ :: _, h => by have := h.1; simp at this
  | _ :: _, [], h => by have := h.1; simp at this
  | x :: xs, y :: ys, h => by
    have h0 := h.2 0 x y rfl rfl
    have h1 : Le2 xs ys := ⟨by simpa using h.1, fun j v w e1 e2 => h.2 (j + 1) v w (by simpa using e1) (by simpa using e2)⟩
    have h2 := Le2.sum h1
    simp
    omega
/-! ### the order of pieces -/
def leQ (q : List Int) (a b : Nat) : Bool := decide (q.getD b 0 < q.getD a 0 ∨ (q.getD a 0 = q.getD b 0 ∧ a ≤ b))
def ordQ (q : List Int) : List Nat := (List.range q.length).mergeSort (leQ q)
theorem ordQ_perm (q : List Int) : (ordQ q).Perm (List.range q.length) := List.mergeSort_perm _ _
theorem ordQ_fall (q : List Int) : Fall q (ordQ q) := by
  refine ⟨ordQ_perm q, ?_⟩
  have h1 : (ordQ q).Pairwise (fun a b => leQ q a b = true) := List.pairwise_mergeSort (le := leQ q) (fun a b c h h' => by simp only [leQ, decide_eq_true_eq] at *; omega) (fun a b => by simp only [leQ, Bool.or_eq_true, decide_eq_true_eq]; omega) _
  have h2 : (ordQ q).Nodup := (ordQ_perm q).nodup_iff.mpr List.nodup_range
  refine (h1.and h2).imp fun {a b} h => ?_
  have h3 := h.1
  have h4 : a ≠ b := h.2
  simp only [leQ, decide_eq_true_eq] at h3
  unfold bef
  omega
/-! ### [10] -/
/-- what most makes of it -/
def cap (most : Option Int) (w : List Int) (f : Int) : List Int × Int := match most with
  | none => (w, f)
  | some m => if m < w.sum + f then (dl (min m w.sum) w, min f m) else (w, f)
end Vs
/-! the order of pieces found one by one: the greatest of those left, the lesser first. -/
namespace Vs
open Kin Deal
structure Sel (q : List Int) (row left : List Nat) : Prop where
  pm : (row ++ left).Perm (List.range q.length)
  inc : left.Pairwise (· < ·)
  pw : row.Pairwise (bef q)
  cr : ∀ r ∈ row, ∀ l ∈ left, bef q r l
theorem Sel.start (q : List Int) : Sel q [] (List.range q.length) := ⟨List.Perm.refl _, List.pairwise_lt_range, .nil, fun r hr => by simp at hr⟩
theorem Sel.lt {q : List Int} {row left : List Nat} (h : Sel q row left) {i : Nat} (hi : i ∈ left) : i < q.length := by
  have := h.pm.mem_iff.mp (List.mem_append_right row hi)
  simpa using this
theorem Sel.len {q : List Int} {row left : List Nat} (h : Sel q row left) : row.length + left.length = q.length := by
  have := h.pm.length_eq
  simpa using this
theorem Sel.fin {q : List Int} {row : List Nat} (h : Sel q row []) : row = ordQ q := by
  refine fall_unique ⟨?_, h.pw⟩ (ordQ_fall q)
  have := h.pm
  rwa [List.append_nil] at this
/-- the greatest of the first i -/
def TopI (q : List Int) (left : List Nat) (i top : Nat) : Prop := (∃ k, left[k]? = some top ∧ (k < i ∨ k = 0)) ∧ ∀ y ∈ left.take i, y = top ∨ bef q top y
theorem TopI.start {q : List Int} {left : List Nat} {t : Nat} (h : left[0]? = some t) : TopI q left 0 t := ⟨⟨0, h, .inr rfl⟩, fun y hy => by simp at hy⟩
theorem TopI.more {q : List Int} {left : List Nat} {i top x : Nat} (inc : left.Pairwise (· < ·)) (h : TopI q left i top) (hx : left[i]? = some x) : TopI q left (i + 1) (if q.getD top 0 < q.getD x 0 then x else top) := by
  obtain ⟨⟨k, ek, hk⟩, hy⟩ := h
  have et : left.take (i + 1) = left.take i ++ [x] := by rw [List.take_add_one, hx]; rfl
  split
  · rename_i hlt
    refine ⟨⟨i, hx, .inl (by omega)⟩, fun y hm => ?_⟩
    rw [et] at hm
    rcases List.mem_append.mp hm with h1 | h1
    · refine .inr (.inl ?_)
      rcases hy y h1 with rfl | h2
      · exact hlt
      · unfold bef at h2
        omega
    · exact .inl (by simpa using h1)
  · rename_i hge
    refine ⟨⟨k, ek, by omega⟩, fun y hm => ?_⟩
    rw [et] at hm
    rcases List.mem_append.mp hm with h1 | h1
    · exact hy y h1
    · have e : y = x := by simpa using h1
      subst e
      by_cases hki : k = i
      · subst hki
        rw [ek] at hx
        exact .inl (Option.some.inj hx).symm
      · have hlt : top < y := by
          obtain ⟨l1, q1⟩ := List.getElem?_eq_some_iff.mp ek
          obtain ⟨l2, q2⟩ := List.getElem?_eq_some_iff.mp hx
          have := List.pairwise_iff_getElem.mp inc k i l1 l2 (by omega)
          rwa [q1, q2] at this
        refine .inr ?_
        unfold bef
        omega
theorem Sel.step {q : List Int} {row left : List Nat} {top : Nat} (h : Sel q row left) (ht : TopI q left left.length top) : Sel q (row ++ [top]) (left.erase top) ∧ top ∈ left := by
  obtain ⟨⟨k, ek, _⟩, hy⟩ := ht
  have hm := List.mem_of_getElem? ek
  rw [List.take_length] at hy
  have nd : left.Nodup := h.inc.imp fun hlt => Nat.ne_of_lt hlt
  refine ⟨⟨?_, h.inc.sublist (List.erase_sublist), ?_, ?_⟩, hm⟩
  · refine List.Perm.trans ?_ h.pm
    rw [List.append_assoc]
    exact List.Perm.append_left row (List.perm_cons_erase hm).symm
  · exact List.pairwise_append.mpr ⟨h.pw, List.pairwise_singleton _ _, fun r hr t ht => by
      have e : t = top := by simpa using ht
      subst e
      exact h.cr r hr t hm⟩
  · intro r hr l hl
    have hl' := (nd.mem_erase_iff).mp hl
    rcases List.mem_append.mp hr with h1 | h1
    · exact h.cr r h1 l hl'.2
    · have e : r = top := by simpa using h1
      subst e
      rcases hy l hl'.2 with h2 | h2
      · exact absurd h2 hl'.1
      · exact h2
end Vs
/-! full groups: their places. -/
namespace Vs
open Kin Deal
end Vs
/-! parts put at the places of groups, one behind the other. -/
namespace Vs
open Kin Deal
end Vs
/-! a spread of a spread; the pieces of each line. -/
namespace Vs
open Kin Deal
end Vs
/-! parts put at places, dealt anew: by all places or by these alone. -/
namespace Vs
open Kin Deal
section
variable {p : Nat → Bool} {n : Nat} {w : List Int}
end
end Vs
/-! pieces parted by their lines, in the order in which the lines come. -/
namespace Vs
open Kin Deal
/-- a piece more: behind those of its line, or a line more -/
def ins : List (Nat × List Nat) → Nat → Nat → List (Nat × List Nat)
  | [], o, a => [(o, [a])]
  | (l, g) :: G, o, a => if l = o then (l, g ++ [a]) :: G else (l, g) :: ins G o a
/-! what stands at a piece, whatever the order of the lines -/
section
variable {f : Nat → Nat} {is : List Nat} {D : List Nat → List Int}
end
end Vs
namespace Vs
open PySem L2
def top (i : Nat) : Stmt := PySem.Challenge.pw_voucherstack_k08_marks_and_sorts.main.body.getD i (.Pass ⟨0, 0, 0, 0⟩)
abbrev s__law_whole : Stmt := top 9
abbrev s__law_mix : Stmt := top 10
abbrev s__law_coin : Stmt := top 11
abbrev s__law_fields : Stmt := top 12
abbrev s__law_one_named : Stmt := top 13
abbrev s__law_marks_by : Stmt := top 14
abbrev s__law_made : Stmt := top 15
abbrev s__law_right : Stmt := top 16
abbrev s_law : Stmt := top 17
abbrev s_Marks_init : Stmt := inClass (top 1) 0
abbrev s_Voucher_init : Stmt := inClass (top 2) 0
abbrev s_Off_init : Stmt := inClass (top 3) 0
abbrev s_Share_init : Stmt := inClass (top 4) 0
abbrev s_Cheapest_init : Stmt := inClass (top 5) 0
abbrev s_Bundle_init : Stmt := inClass (top 6) 0
abbrev s_Carriage_init : Stmt := inClass (top 7) 0
structure D where
  f__law_whole : Addr
  fd__law_whole : FuncData
  f__law_mix : Addr
  fd__law_mix : FuncData
  f__law_coin : Addr
  fd__law_coin : FuncData
  f__law_fields : Addr
  fd__law_fields : FuncData
  f__law_one_named : Addr
  fd__law_one_named : FuncData
  f__law_marks_by : Addr
  fd__law_marks_by : FuncData
  f__law_made : Addr
  fd__law_made : FuncData
  f__law_right : Addr
  fd__law_right : FuncData
  f_law : Addr
  fd_law : FuncData
  c_Marks : Addr
  f_Marks_init : Addr
  fd_Marks_init : FuncData
  tok1_Marks_init : Nat
  c_Voucher : Addr
  f_Voucher_init : Addr
  fd_Voucher_init : FuncData
  c_Off : Addr
  f_Off_init : Addr
  fd_Off_init : FuncData
  c_Share : Addr
  f_Share_init : Addr
  fd_Share_init : FuncData
  c_Cheapest : Addr
  f_Cheapest_init : Addr
  fd_Cheapest_init : FuncData
  c_Bundle : Addr
  f_Bundle_init : Addr
  fd_Bundle_init : FuncData
  c_Carriage : Addr
  f_Carriage_init : Addr
  fd_Carriage_init : FuncData
structure Wld (K : PySem.W.Frag) (mg : Str → Option Value) (d : D) : Prop where
  B : TxtB mg
  d__law_whole : Dn K mg "_law_whole" s__law_whole ["_law_found"] d.f__law_whole d.fd__law_whole
  d__law_mix : Dn K mg "_law_mix" s__law_mix ["_law_cell", "_law_factor", "_law_prime"] d.f__law_mix d.fd__law_mix
  d__law_coin : Dn K mg "_law_coin" s__law_coin ["_law_cell"] d.f__law_coin d.fd__law_coin
  d__law_fields : Dn K mg "_law_fields" s__law_fields ["_law_own"] d.f__law_fields d.fd__law_fields
  d__law_one_named : Dn K mg "_law_one_named" s__law_one_named ["_law_branch", "_law_least", "_law_top", "_law_bits", "_law_pick"] d.f__law_one_named d.fd__law_one_named
  d__law_marks_by : Dn K mg "_law_marks_by" s__law_marks_by ["_law_cell"] d.f__law_marks_by d.fd__law_marks_by
  d__law_made : Dn K mg "_law_made" s__law_made ["_law_cell", "_law_own", "_law_how"] d.f__law_made d.fd__law_made
  d__law_right : Dn K mg "_law_right" s__law_right ["_law_voucher", "_law_cell", "_law_how"] d.f__law_right d.fd__law_right
  d_law : Dn K mg "law" s_law ["_law_script"] d.f_law d.fd_law
  c_Marks : ClsT K mg "Marks" d.c_Marks
  n_Marks_kind : NoAttr K d.c_Marks "kind"
  n_Marks_needs : NoAttr K d.c_Marks "needs"
  n_Marks_most : NoAttr K d.c_Marks "most"
  n_Marks_member : NoAttr K d.c_Marks "member"
  n_Marks_once : NoAttr K d.c_Marks "once"
  n_Marks_lone : NoAttr K d.c_Marks "lone"
  m_Marks_init : MthT K d.c_Marks "__init__" "Marks.__init__" s_Marks_init ["self", "kind", "needs", "most", "member", "once", "lone"] d.f_Marks_init d.fd_Marks_init
  b1_Marks_init : Binds K d.fd_Marks_init ["self", "kind", "needs", "most", "member", "once", "lone"] [.bool false]
  b2_Marks_init : Binds K d.fd_Marks_init ["self", "kind", "needs", "most", "member", "once", "lone"] [.bool false, .bool false]
  b3_Marks_init : Binds K d.fd_Marks_init ["self", "kind", "needs", "most", "member", "once", "lone"] [.bool false, .bool false, .bool false]
  b4_Marks_init : Binds K d.fd_Marks_init ["self", "kind", "needs", "most", "member", "once", "lone"] [.none, .bool false, .bool false, .bool false]
  b5_Marks_init : Binds K d.fd_Marks_init ["self", "kind", "needs", "most", "member", "once", "lone"] [.int 0 d.tok1_Marks_init, .none, .bool false, .bool false, .bool false]
  b6_Marks_init : Binds K d.fd_Marks_init ["self", "kind", "needs", "most", "member", "once", "lone"] [.none, .int 0 d.tok1_Marks_init, .none, .bool false, .bool false, .bool false]
  c_Voucher : ClsT K mg "Voucher" d.c_Voucher
  n_Voucher_marks : NoAttr K d.c_Voucher "marks"
  m_Voucher_init : MthT K d.c_Voucher "__init__" "Voucher.__init__" s_Voucher_init ["self", "marks"] d.f_Voucher_init d.fd_Voucher_init
  b1_Voucher_init : Binds K d.fd_Voucher_init ["self", "marks"] [.none]
  c_Off : ClsT K mg "Off" d.c_Off
  n_Off_amount : NoAttr K d.c_Off "amount"
  n_Off_marks : NoAttr K d.c_Off "marks"
  m_Off_init : MthT K d.c_Off "__init__" "Off.__init__" s_Off_init ["self", "amount", "marks"] d.f_Off_init d.fd_Off_init
  b1_Off_init : Binds K d.fd_Off_init ["self", "amount", "marks"] [.none]
  c_Share : ClsT K mg "Share" d.c_Share
  n_Share_share : NoAttr K d.c_Share "share"
  n_Share_by_line : NoAttr K d.c_Share "by_line"
  n_Share_marks : NoAttr K d.c_Share "marks"
  m_Share_init : MthT K d.c_Share "__init__" "Share.__init__" s_Share_init ["self", "share", "by_line", "marks"] d.f_Share_init d.fd_Share_init
  b1_Share_init : Binds K d.fd_Share_init ["self", "share", "by_line", "marks"] [.none]
  b2_Share_init : Binds K d.fd_Share_init ["self", "share", "by_line", "marks"] [.bool false, .none]
  c_Cheapest : ClsT K mg "Cheapest" d.c_Cheapest
  n_Cheapest_many : NoAttr K d.c_Cheapest "many"
  n_Cheapest_marks : NoAttr K d.c_Cheapest "marks"
  m_Cheapest_init : MthT K d.c_Cheapest "__init__" "Cheapest.__init__" s_Cheapest_init ["self", "many", "marks"] d.f_Cheapest_init d.fd_Cheapest_init
  b1_Cheapest_init : Binds K d.fd_Cheapest_init ["self", "many", "marks"] [.none]
  c_Bundle : ClsT K mg "Bundle" d.c_Bundle
  n_Bundle_many : NoAttr K d.c_Bundle "many"
  n_Bundle_price : NoAttr K d.c_Bundle "price"
  n_Bundle_marks : NoAttr K d.c_Bundle "marks"
  m_Bundle_init : MthT K d.c_Bundle "__init__" "Bundle.__init__" s_Bundle_init ["self", "many", "price", "marks"] d.f_Bundle_init d.fd_Bundle_init
  b1_Bundle_init : Binds K d.fd_Bundle_init ["self", "many", "price", "marks"] [.none]
  c_Carriage : ClsT K mg "Carriage" d.c_Carriage
  n_Carriage_marks : NoAttr K d.c_Carriage "marks"
  m_Carriage_init : MthT K d.c_Carriage "__init__" "Carriage.__init__" s_Carriage_init ["self", "marks"] d.f_Carriage_init d.fd_Carriage_init
  b1_Carriage_init : Binds K d.fd_Carriage_init ["self", "marks"] [.none]
  kb_Marks_0_kind : KBinds K d.fd_Marks_init ["self", "kind", "needs", "most", "member", "once", "lone"] ["kind"] (gk 1 1 [.p 0, .k 0, .d (.int 0 d.tok1_Marks_init) (.int 0), .d (.none) (.non), .d (.bool false) (.bl false), .d (.bool false) (.bl false), .d (.bool false) (.bl false)]) (gkV 1 1 [.p 0, .k 0, .d (.int 0 d.tok1_Marks_init) (.int 0), .d (.none) (.non), .d (.bool false) (.bl false), .d (.bool false) (.bl false), .d (.bool false) (.bl false)])
  kb_Marks_0_needs : KBinds K d.fd_Marks_init ["self", "kind", "needs", "most", "member", "once", "lone"] ["needs"] (gk 1 1 [.p 0, .d (.none) (.non), .k 0, .d (.none) (.non), .d (.bool false) (.bl false), .d (.bool false) (.bl false), .d (.bool false) (.bl false)]) (gkV 1 1 [.p 0, .d (.none) (.non), .k 0, .d (.none) (.non), .d (.bool false) (.bl false), .d (.bool false) (.bl false), .d (.bool false) (.bl false)])
  kb_Marks_0_most : KBinds K d.fd_Marks_init ["self", "kind", "needs", "most", "member", "once", "lone"] ["most"] (gk 1 1 [.p 0, .d (.none) (.non), .d (.int 0 d.tok1_Marks_init) (.int 0), .k 0, .d (.bool false) (.bl false), .d (.bool false) (.bl false), .d (.bool false) (.bl false)]) (gkV 1 1 [.p 0, .d (.none) (.non), .d (.int 0 d.tok1_Marks_init) (.int 0), .k 0, .d (.bool false) (.bl false), .d (.bool false) (.bl false), .d (.bool false) (.bl false)])
  kb_Marks_0_lone_once_member_most_needs_kind : KBinds K d.fd_Marks_init ["self", "kind", "needs", "most", "member", "once", "lone"] ["lone", "once", "member", "most", "needs", "kind"] (gk 1 6 [.p 0, .k 5, .k 4, .k 3, .k 2, .k 1, .k 0]) (gkV 1 6 [.p 0, .k 5, .k 4, .k 3, .k 2, .k 1, .k 0])
  kb_Marks_0_member : KBinds K d.fd_Marks_init ["self", "kind", "needs", "most", "member", "once", "lone"] ["member"] (gk 1 1 [.p 0, .d (.none) (.non), .d (.int 0 d.tok1_Marks_init) (.int 0), .d (.none) (.non), .k 0, .d (.bool false) (.bl false), .d (.bool false) (.bl false)]) (gkV 1 1 [.p 0, .d (.none) (.non), .d (.int 0 d.tok1_Marks_init) (.int 0), .d (.none) (.non), .k 0, .d (.bool false) (.bl false), .d (.bool false) (.bl false)])
  kb_Marks_0_once : KBinds K d.fd_Marks_init ["self", "kind", "needs", "most", "member", "once", "lone"] ["once"] (gk 1 1 [.p 0, .d (.none) (.non), .d (.int 0 d.tok1_Marks_init) (.int 0), .d (.none) (.non), .d (.bool false) (.bl false), .k 0, .d (.bool false) (.bl false)]) (gkV 1 1 [.p 0, .d (.none) (.non), .d (.int 0 d.tok1_Marks_init) (.int 0), .d (.none) (.non), .d (.bool false) (.bl false), .k 0, .d (.bool false) (.bl false)])
  kb_Marks_0_lone : KBinds K d.fd_Marks_init ["self", "kind", "needs", "most", "member", "once", "lone"] ["lone"] (gk 1 1 [.p 0, .d (.none) (.non), .d (.int 0 d.tok1_Marks_init) (.int 0), .d (.none) (.non), .d (.bool false) (.bl false), .d (.bool false) (.bl false), .k 0]) (gkV 1 1 [.p 0, .d (.none) (.non), .d (.int 0 d.tok1_Marks_init) (.int 0), .d (.none) (.non), .d (.bool false) (.bl false), .d (.bool false) (.bl false), .k 0])
  kb_Carriage_0_marks : KBinds K d.fd_Carriage_init ["self", "marks"] ["marks"] (gk 1 1 [.p 0, .k 0]) (gkV 1 1 [.p 0, .k 0])
  kb_Off_1_marks : KBinds K d.fd_Off_init ["self", "amount", "marks"] ["marks"] (gk 2 1 [.p 0, .p 1, .k 0]) (gkV 2 1 [.p 0, .p 1, .k 0])
  kb_Share_1_marks : KBinds K d.fd_Share_init ["self", "share", "by_line", "marks"] ["marks"] (gk 2 1 [.p 0, .p 1, .d (.bool false) (.bl false), .k 0]) (gkV 2 1 [.p 0, .p 1, .d (.bool false) (.bl false), .k 0])
  kb_Cheapest_1_marks : KBinds K d.fd_Cheapest_init ["self", "many", "marks"] ["marks"] (gk 2 1 [.p 0, .p 1, .k 0]) (gkV 2 1 [.p 0, .p 1, .k 0])
  kb_Bundle_2_marks : KBinds K d.fd_Bundle_init ["self", "many", "price", "marks"] ["marks"] (gk 3 1 [.p 0, .p 1, .p 2, .k 0]) (gkV 3 1 [.p 0, .p 1, .p 2, .k 0])
  q_Voucher_init : BaseT K d.c_Voucher "__init__" d.f_Voucher_init
  k_Marks_Off : PySem.W.kitOne K (.ref d.c_Marks) (.ref d.c_Off) = some false
  k_Voucher_Off : PySem.W.kitOne K (.ref d.c_Voucher) (.ref d.c_Off) = some false
  k_Share_Off : PySem.W.kitOne K (.ref d.c_Share) (.ref d.c_Off) = some false
  k_Cheapest_Off : PySem.W.kitOne K (.ref d.c_Cheapest) (.ref d.c_Off) = some false
  k_Bundle_Off : PySem.W.kitOne K (.ref d.c_Bundle) (.ref d.c_Off) = some false
  k_Carriage_Off : PySem.W.kitOne K (.ref d.c_Carriage) (.ref d.c_Off) = some false
  k_Marks_Share : PySem.W.kitOne K (.ref d.c_Marks) (.ref d.c_Share) = some false
  k_Voucher_Share : PySem.W.kitOne K (.ref d.c_Voucher) (.ref d.c_Share) = some false
  k_Off_Share : PySem.W.kitOne K (.ref d.c_Off) (.ref d.c_Share) = some false
  k_Cheapest_Share : PySem.W.kitOne K (.ref d.c_Cheapest) (.ref d.c_Share) = some false
  k_Bundle_Share : PySem.W.kitOne K (.ref d.c_Bundle) (.ref d.c_Share) = some false
  k_Carriage_Share : PySem.W.kitOne K (.ref d.c_Carriage) (.ref d.c_Share) = some false
  k_Marks_Cheapest : PySem.W.kitOne K (.ref d.c_Marks) (.ref d.c_Cheapest) = some false
  k_Voucher_Cheapest : PySem.W.kitOne K (.ref d.c_Voucher) (.ref d.c_Cheapest) = some false
  k_Off_Cheapest : PySem.W.kitOne K (.ref d.c_Off) (.ref d.c_Cheapest) = some false
  k_Share_Cheapest : PySem.W.kitOne K (.ref d.c_Share) (.ref d.c_Cheapest) = some false
  k_Bundle_Cheapest : PySem.W.kitOne K (.ref d.c_Bundle) (.ref d.c_Cheapest) = some false
  k_Carriage_Cheapest : PySem.W.kitOne K (.ref d.c_Carriage) (.ref d.c_Cheapest) = some false
  k_Marks_Bundle : PySem.W.kitOne K (.ref d.c_Marks) (.ref d.c_Bundle) = some false
  k_Voucher_Bundle : PySem.W.kitOne K (.ref d.c_Voucher) (.ref d.c_Bundle) = some false
  k_Off_Bundle : PySem.W.kitOne K (.ref d.c_Off) (.ref d.c_Bundle) = some false
  k_Share_Bundle : PySem.W.kitOne K (.ref d.c_Share) (.ref d.c_Bundle) = some false
  k_Cheapest_Bundle : PySem.W.kitOne K (.ref d.c_Cheapest) (.ref d.c_Bundle) = some false
  k_Carriage_Bundle : PySem.W.kitOne K (.ref d.c_Carriage) (.ref d.c_Bundle) = some false
  k_Marks_Carriage : PySem.W.kitOne K (.ref d.c_Marks) (.ref d.c_Carriage) = some false
  k_Voucher_Carriage : PySem.W.kitOne K (.ref d.c_Voucher) (.ref d.c_Carriage) = some false
  k_Off_Carriage : PySem.W.kitOne K (.ref d.c_Off) (.ref d.c_Carriage) = some false
  k_Share_Carriage : PySem.W.kitOne K (.ref d.c_Share) (.ref d.c_Carriage) = some false
  k_Cheapest_Carriage : PySem.W.kitOne K (.ref d.c_Cheapest) (.ref d.c_Carriage) = some false
  k_Bundle_Carriage : PySem.W.kitOne K (.ref d.c_Bundle) (.ref d.c_Carriage) = some false
  k_Marks_Voucher : PySem.W.kitOne K (.ref d.c_Marks) (.ref d.c_Voucher) = some false
  k_Off_Voucher : PySem.W.kitOne K (.ref d.c_Off) (.ref d.c_Voucher) = some true
  k_Share_Voucher : PySem.W.kitOne K (.ref d.c_Share) (.ref d.c_Voucher) = some true
  k_Cheapest_Voucher : PySem.W.kitOne K (.ref d.c_Cheapest) (.ref d.c_Voucher) = some true
  k_Bundle_Voucher : PySem.W.kitOne K (.ref d.c_Bundle) (.ref d.c_Voucher) = some true
  k_Carriage_Voucher : PySem.W.kitOne K (.ref d.c_Carriage) (.ref d.c_Voucher) = some true
  k_Voucher_Marks : PySem.W.kitOne K (.ref d.c_Voucher) (.ref d.c_Marks) = some false
  k_Off_Marks : PySem.W.kitOne K (.ref d.c_Off) (.ref d.c_Marks) = some false
  k_Share_Marks : PySem.W.kitOne K (.ref d.c_Share) (.ref d.c_Marks) = some false
  k_Cheapest_Marks : PySem.W.kitOne K (.ref d.c_Cheapest) (.ref d.c_Marks) = some false
  k_Bundle_Marks : PySem.W.kitOne K (.ref d.c_Bundle) (.ref d.c_Marks) = some false
  k_Carriage_Marks : PySem.W.kitOne K (.ref d.c_Carriage) (.ref d.c_Marks) = some false
end Vs
/-! the program of stage 1: what each def promises. -/
namespace Vs
open PySem L2 War Kin Deal
/-! ### the data -/
def LineAt (C : Addr) (H : Hp) (x : Addr) (r : Row) : Prop := ∃ (dx : Addr) (fs : List (Str × V)), H x = some (.ins C dx fs) ∧ fs.lookup ("kind" : Str) = some (.int r.kd) ∧ fs.lookup ("price" : Str) = some (.int r.pr) ∧ fs.lookup ("many" : Str) = some (.int r.mn) ∧ fs.lookup ("special" : Str) = some (oV r.ex)
abbrev Lines (C : Addr) (H : Hp) (ls : List Addr) (rs : List Row) : Prop := P2 (LineAt C H) ls rs
def BaskAt (C : Addr) (H : Hp) (b l : Addr) (cg : Int) (m : Bool) : Prop := ∃ (dx : Addr) (fs : List (Str × V)), H b = some (.ins C dx fs) ∧ fs.lookup ("lines" : Str) = some (.ref l) ∧ fs.lookup ("carriage" : Str) = some (.int cg) ∧ fs.lookup ("member" : Str) = some (.bl m)
def StandAt (C : Addr) (H : Hp) (x o p mk : Addr) (cg : Int) : Prop := ∃ (dx : Addr) (fs : List (Str × V)), H x = some (.ins C dx fs) ∧ fs.lookup ("owners" : Str) = some (.ref o) ∧ fs.lookup ("prices" : Str) = some (.ref p) ∧ fs.lookup ("carriage" : Str) = some (.int cg) ∧ fs.lookup ("marked" : Str) = some (.ref mk) ∧ fs.lookup ("whole" : Str) = none
section
variable {C : Addr} {H H' : Hp}
theorem LineAt.same {x : Addr} {r : Row} (s : Same H H') : LineAt C H x r → LineAt C H' x r := fun ⟨dx, fs, h, q⟩ => ⟨dx, fs, s _ _ h, q⟩
theorem Lines.same {ls : List Addr} {rs : List Row} (s : Same H H') (h : Lines C H ls rs) : Lines C H' ls rs := h.mono fun _ _ q => q.same s
theorem BaskAt.same {b l : Addr} {cg : Int} {m : Bool} (s : Same H H') : BaskAt C H b l cg m → BaskAt C H' b l cg m := fun ⟨dx, fs, h, q⟩ => ⟨dx, fs, s _ _ h, q⟩
theorem StandAt.same {x o p mk : Addr} {cg : Int} (s : Same H H') : StandAt C H x o p mk cg → StandAt C H' x o p mk cg := fun ⟨dx, fs, h, q⟩ => ⟨dx, fs, s _ _ h, q⟩
end
section
variable {H : Hp} {hd : Addr} {xs : List V} {o : HO}
theorem BaskAt.set {C b l : Addr} {cg : Int} {m : Bool} (h : H hd = some (.lst xs)) : BaskAt C H b l cg m → BaskAt C (upd H hd o) b l cg m := fun ⟨dx, fs, e, q⟩ => ⟨dx, fs, by rw [upd_ne (ne_of e h (by intro z; cases z))]; exact e, q⟩
theorem StandAt.set {C x a b c : Addr} {cg : Int} (h : H hd = some (.lst xs)) : StandAt C H x a b c cg → StandAt C (upd H hd o) x a b c cg := fun ⟨dx, fs, e, q⟩ => ⟨dx, fs, by rw [upd_ne (ne_of e h (by intro z; cases z))]; exact e, q⟩
theorem LineAt.set {C x : Addr} {r : Row} (h : H hd = some (.lst xs)) : LineAt C H x r → LineAt C (upd H hd o) x r := fun ⟨dx, fs, e, q⟩ => ⟨dx, fs, by rw [upd_ne (ne_of e h (by intro z; cases z))]; exact e, q⟩
theorem Lines.set {C : Addr} {ls : List Addr} {rs : List Row} (h : H hd = some (.lst xs)) (L : Lines C H ls rs) : Lines C (upd H hd o) ls rs := L.mono fun _ _ q => q.set h
end
/-- a basket, whole -/
structure Bask where
  rs : List Row
  cg : Int
  m : Bool
def BaskIs (CL CB : Addr) (H : Hp) (b : Addr) (B : Bask) : Prop := ∃ (l : Addr) (ls : List Addr), BaskAt CB H b l B.cg B.m ∧ H l = some (.lst (ls.map V.ref)) ∧ Lines CL H ls B.rs
theorem BaskIs.same {CL CB : Addr} {H H' : Hp} {b : Addr} {B : Bask} (s : Same H H') : BaskIs CL CB H b B → BaskIs CL CB H' b B := fun ⟨l, ls, h1, h2, h3⟩ => ⟨l, ls, h1.same s, s _ _ h2, h3.same s⟩
/-- a standing, whole -/
def iV (k : Nat) : V := .int (k : Int)
def StndIs (CS : Addr) (H : Hp) (x : Addr) (S : Stnd) : Prop := ∃ o p mk : Addr, StandAt CS H x o p mk S.cg ∧ H o = some (.lst (S.ow.map iV)) ∧ H p = some (.lst (S.pr.map V.int)) ∧ H mk = some (.lst (S.mkd.map V.bl))
theorem StndIs.same {CS : Addr} {H H' : Hp} {x : Addr} {S : Stnd} (s : Same H H') : StndIs CS H x S → StndIs CS H' x S := fun ⟨o, p, mk, h1, h2, h3, h4⟩ => ⟨o, p, mk, h1.same s, s _ _ h2, s _ _ h3, s _ _ h4⟩
/-- each piece's line, as natural numbers -/
def ownN (rs : List Row) : List Nat := (rs.zipIdx.map fun p => List.replicate p.1.mn.toNat p.2).flatten
theorem ownN_lt (rs : List Row) {l : Nat} (h : l ∈ ownN rs) : l < rs.length := by
  unfold ownN at h
  obtain ⟨xs, h1, h2⟩ := List.mem_flatten.mp h
  obtain ⟨p, h3, rfl⟩ := List.mem_map.mp h1
  have e : l = p.2 := (List.mem_replicate.mp h2).2
  have q := List.mem_zipIdx h3
  omega
def pV : Option Nat → V
  | none => .non
  | some k => .int (k : Int)
theorem eq_int (a b : Nat) : decide (V.int (a : Int) = V.int (b : Int)) = decide (a = b) := by
  by_cases h : a = b
  · subst h; simp
  · have : ¬ (V.int (a : Int) = V.int (b : Int)) := by
      intro e
      injection e with e
      omega
    simp [h, this]
/-! ### the promises -/

/-- the three lists of a standing that is being made -/
structure S3 (H0 : Hp) (x C dx : Addr) (fs : List (Str × V)) (o p mk : Addr) (a b c : List V) (H : Hp) : Prop where
  bt : But x H0 H
  ob : H x = some (.ins C dx fs)
  ho : H o = some (.lst a)
  hp : H p = some (.lst b)
  hm : H mk = some (.lst c)
section
variable {H0 H H' : Hp} {x C dx o p mk : Addr} {fs : List (Str × V)} {a b c d : List V}
theorem S3.same (h : S3 H0 x C dx fs o p mk a b c H) (s : Same H H') : S3 H0 x C dx fs o p mk a b c H' := ⟨h.bt.same s, s _ _ h.ob, s _ _ h.ho, s _ _ h.hp, s _ _ h.hm⟩
end
end Vs
/-! stage 2: marks, vouchers, how they stand in the heap; what is well formed. -/
namespace Vs
open PySem L2 War Kin Deal
def MksIs (C : Addr) (H : Hp) (x : Addr) (M : Mks) : Prop := ∃ (dx : Addr) (fs : List (Str × V)), H x = some (.ins C dx fs) ∧ fs.lookup ("kind" : Str) = some (pV M.kind) ∧ fs.lookup ("needs" : Str) = some (.int M.needs) ∧ fs.lookup ("most" : Str) = some (oV M.most) ∧ fs.lookup ("member" : Str) = some (.bl M.member) ∧ fs.lookup ("once" : Str) = some (.bl M.once) ∧ fs.lookup ("lone" : Str) = some (.bl M.lone)
theorem MksIs.same {C : Addr} {H H' : Hp} {x : Addr} {M : Mks} (s : Same H H') : MksIs C H x M → MksIs C H' x M := fun ⟨dx, fs, h, q⟩ => ⟨dx, fs, s _ _ h, q⟩
/-- the fields of a voucher beside its marks -/
def SrtIs (fs : List (Str × V)) : Srt → Prop
  | .off a => fs.lookup ("amount" : Str) = some (.int a)
  | .share s b => fs.lookup ("share" : Str) = some (.int s) ∧ fs.lookup ("by_line" : Str) = some (.bl b)
  | .cheap n => fs.lookup ("many" : Str) = some (.int n)
  | .bund n p => fs.lookup ("many" : Str) = some (.int n) ∧ fs.lookup ("price" : Str) = some (.int p)
  | .carr => True
def clsOf (d : D) : Srt → Addr
  | .off _ => d.c_Off
  | .share _ _ => d.c_Share
  | .cheap _ => d.c_Cheapest
  | .bund _ _ => d.c_Bundle
  | .carr => d.c_Carriage
/-- the sorts whose class the text has -/
def here : Srt → Bool
  | .off _ => true
  | .share _ _ => true
  | .cheap _ => true
  | .bund _ _ => true
  | .carr => true
def ask_Off : Srt → Bool
  | .off _ => true
  | .share _ _ => false
  | .cheap _ => false
  | .bund _ _ => false
  | .carr => false
def ask_Share : Srt → Bool
  | .off _ => false
  | .share _ _ => true
  | .cheap _ => false
  | .bund _ _ => false
  | .carr => false
def ask_Cheapest : Srt → Bool
  | .off _ => false
  | .share _ _ => false
  | .cheap _ => true
  | .bund _ _ => false
  | .carr => false
def ask_Bundle : Srt → Bool
  | .off _ => false
  | .share _ _ => false
  | .cheap _ => false
  | .bund _ _ => true
  | .carr => false
def ask_Carriage : Srt → Bool
  | .off _ => false
  | .share _ _ => false
  | .cheap _ => false
  | .bund _ _ => false
  | .carr => true
def VchIs (d : D) (H : Hp) (v : Addr) (V : Vch) : Prop := ∃ (mA dx : Addr) (fs : List (Str × L2.V)), H v = some (.ins (clsOf d V.so) dx fs) ∧ fs.lookup ("marks" : Str) = some (.ref mA) ∧ SrtIs fs V.so ∧ MksIs d.c_Marks H mA V.ms ∧ here V.so = true
theorem VchIs.same {d : D} {H H' : Hp} {v : Addr} {V : Vch} (s : Same H H') : VchIs d H v V → VchIs d H' v V := fun ⟨mA, dx, fs, h1, h2, h3, h4, h5⟩ => ⟨mA, dx, fs, s _ _ h1, h2, h3, h4.same s, h5⟩
structure Wf (ps : List (Option Nat)) (B : Bask) (S : Stnd) : Prop where
  good : Good ps
  pl : ps.length ≤ 20
  kd : ∀ r ∈ B.rs, 0 ≤ r.kd ∧ r.kd < (ps.length : Int)
  ok : ∀ r ∈ B.rs, r.Ok
  nl : B.rs.length ≤ 12
  bc : 0 ≤ B.cg ∧ B.cg ≤ 1000000000000
  ow : S.ow = ownN B.rs
  lp : S.pr.length = S.ow.length
  lm : S.mkd.length = B.rs.length
  pr : ∀ z ∈ S.pr, 0 ≤ z ∧ z ≤ 1000000000000
  cg : 0 ≤ S.cg ∧ S.cg ≤ 1000000000000
theorem Wf.line {ps : List (Option Nat)} {B : Bask} {S : Stnd} (W : Wf ps B S) {i l : Nat} (h : S.ow[i]? = some l) : l < B.rs.length := by
  have hm := List.mem_of_getElem? h
  rw [W.ow] at hm
  exact ownN_lt _ hm
/-! ### marks and vouchers that are made -/
def mks0 : Mks := ⟨none, 0, none, false, false, false⟩
def srtArgs : Srt → List V
  | .off a => [.int a]
  | .share s b => [.int s, .bl b]
  | .cheap n => [.int n]
  | .bund n p => [.int n, .int p]
  | .carr => []
/-- the marks of a voucher that is made: those handed in, or new ones -/
def Mrk (CM : Addr) (H : Hp) (mv : V) (H' : Hp) (mA : Addr) : Prop := mv = .ref mA ∨ (mv = .non ∧ H mA = none ∧ MksIs CM H' mA mks0)
theorem MksIs.but {C x mA : Addr} {H H' : Hp} {M : Mks} (n : mA ≠ x) (b : But x H H') : MksIs C H mA M → MksIs C H' mA M := fun ⟨dx, fs, h, q⟩ => ⟨dx, fs, b _ _ n h, q⟩
theorem Mrk.but {CM x mA : Addr} {H H1 H2 : Hp} {mv : V} {o : HO} (hx : H x = some o) (b : But x H1 H2) : Mrk CM H mv H1 mA → Mrk CM H mv H2 mA
  | .inl e => .inl e
  | .inr ⟨e, f, h⟩ => .inr ⟨e, f, h.but (ne_of_none hx f).symm b⟩
def spMarksI (C : Addr) : Sp := fun vs H Q _ => ∃ (x dx : Addr) (M : Mks), vs = [.ref x, pV M.kind, .int M.needs, oV M.most, .bl M.member, .bl M.once, .bl M.lone] ∧ H x = some (.ins C dx []) ∧ ∀ H', But x H H' → MksIs C H' x M → Q .non H'
def spVoucherI (K : PySem.W.Frag) (CM : Addr) : Sp := fun vs H Q _ => ∃ (x C dx : Addr) (fs : List (Str × V)) (mv : V), vs = [.ref x, mv] ∧ H x = some (.ins C dx fs) ∧ Cls K C ∧ NoAttr K C "marks" ∧ fs.length ≤ 5 ∧ (mv = .non ∨ ∃ mA, mv = .ref mA) ∧
  ∀ (H' : Hp) (mA : Addr), But x H H' → Mrk CM H mv H' mA → H' x = some (.ins C dx (putF "marks" (.ref mA) fs)) → Q .non H'
def spSrtI (C CM : Addr) (is : Srt → Prop) : Sp := fun vs H Q _ => ∃ (x dx : Addr) (so : Srt) (mv : V), is so ∧ vs = .ref x :: (srtArgs so ++ [mv]) ∧ H x = some (.ins C dx []) ∧ (mv = .non ∨ ∃ mA, mv = .ref mA) ∧
  ∀ (H' : Hp) (mA : Addr) (fs : List (Str × V)), But x H H' → Mrk CM H mv H' mA → H' x = some (.ins C dx fs) → fs.lookup ("marks" : Str) = some (.ref mA) → SrtIs fs so → Q .non H'
theorem mk_marks {C : Addr} {H : Hp} {M : Mks} {R : Addr → Hp → Prop} {E : XK} (k : ∀ (H' : Hp) (x : Addr), Same H H' → H x = none → MksIs C H' x M → R x H') :
    ∀ x dx, H x = none → H dx = none → dx ≠ x → spMarksI C [.ref x, pV M.kind, .int M.needs, oV M.most, .bl M.member, .bl M.once, .bl M.lone] (upd (upd H dx (.own x)) x (.ins C dx [])) (fun v H2 => v = .non ∧ R x H2) E :=
  fun x dx nx nd _ => ⟨x, dx, M, rfl, upd_same, fun H' b l => ⟨rfl, k H' x (made_same nx nd b) nx l⟩⟩
/-- a voucher made with marks handed in -/
theorem mk_vch {d : D} {H : Hp} {so : Srt} {mA : Addr} {M : Mks} {is : Srt → Prop} {R : Addr → Hp → Prop} {E : XK} (hi : is so) (hh : here so = true) (hM : MksIs d.c_Marks H mA M) (k : ∀ (H' : Hp) (x : Addr), Same H H' → H x = none → VchIs d H' x ⟨so, M⟩ → R x H') :
    ∀ x dx, H x = none → H dx = none → dx ≠ x → spSrtI (clsOf d so) d.c_Marks is (.ref x :: (srtArgs so ++ [.ref mA])) (upd (upd H dx (.own x)) x (.ins (clsOf d so) dx [])) (fun v H2 => v = .non ∧ R x H2) E :=
  fun x dx nx nd _ => ⟨x, dx, so, .ref mA, hi, rfl, upd_same, .inr ⟨mA, rfl⟩, fun H' mA' fs b hm h1 h2 h3 => by
    have e : mA' = mA := by
      rcases hm with e | ⟨e, _⟩
      · injection e with e
        exact e.symm
      · cases e
    subst e
    exact ⟨rfl, k H' x (made_same nx nd b) nx ⟨mA', dx, fs, h1, h2, h3, hM.same (made_same nx nd b), hh⟩⟩⟩
/-! ### the promises of the law's own defs -/
def spMix : Sp := fun vs H Q _ => ∃ (c f p : Int), vs = [.int c, .int f, .int p] ∧ (-(2 ^ 64) < f ∧ f < 2 ^ 64) ∧ 0 < p ∧ Q (.int (c * f % p)) H
def spWholeI : Sp := fun vs H Q _ => ∃ n : Int, vs = [.int n] ∧ Q (.bl true) H
end Vs
namespace Vs
open PySem L2 War Kin Deal
/-! ### objects made: what a call of a class leaves -/
theorem cl_of {K : PySem.W.Frag} {mg : Str → Option Value} {d : D} (W : Wld K mg d) : ∀ {so : Srt}, here so = true → Cls K (clsOf d so)
  | .off _, h => W.c_Off.cl
  | .share _ _, h => W.c_Share.cl
  | .cheap _, h => W.c_Cheapest.cl
  | .bund _ _, h => W.c_Bundle.cl
  | .carr, h => W.c_Carriage.cl
theorem na_of {K : PySem.W.Frag} {mg : Str → Option Value} {d : D} (W : Wld K mg d) : ∀ {so : Srt}, here so = true → NoAttr K (clsOf d so) "marks"
  | .off _, h => W.n_Off_marks
  | .share _ _, h => W.n_Share_marks
  | .cheap _, h => W.n_Cheapest_marks
  | .bund _ _, h => W.n_Bundle_marks
  | .carr, h => W.n_Carriage_marks
theorem isi_of {K : PySem.W.Frag} {mg : Str → Option Value} {d : D} (W : Wld K mg d) : ∀ {so : Srt}, here so = true → Isi K (clsOf d so)
  | .off _, h => W.c_Off.isi
  | .share _ _, h => W.c_Share.isi
  | .cheap _, h => W.c_Cheapest.isi
  | .bund _ _, h => W.c_Bundle.isi
  | .carr, h => W.c_Carriage.isi
theorem kit_Voucher {K : PySem.W.Frag} {mg : Str → Option Value} {d : D} (W : Wld K mg d) : ∀ {so : Srt}, here so = true → PySem.W.kitOne K (.ref (clsOf d so)) (.ref d.c_Voucher) = some true
  | .off _, h => W.k_Off_Voucher
  | .share _ _, h => W.k_Share_Voucher
  | .cheap _, h => W.k_Cheapest_Voucher
  | .bund _ _, h => W.k_Bundle_Voucher
  | .carr, h => W.k_Carriage_Voucher
theorem kit_Off {K : PySem.W.Frag} {mg : Str → Option Value} {d : D} (W : Wld K mg d) : ∀ {so : Srt}, here so = true → PySem.W.kitOne K (.ref (clsOf d so)) (.ref d.c_Off) = some (ask_Off so)
  | .off _, h => kit_same _ _
  | .share _ _, h => W.k_Share_Off
  | .cheap _, h => W.k_Cheapest_Off
  | .bund _ _, h => W.k_Bundle_Off
  | .carr, h => W.k_Carriage_Off
theorem kit_Share {K : PySem.W.Frag} {mg : Str → Option Value} {d : D} (W : Wld K mg d) : ∀ {so : Srt}, here so = true → PySem.W.kitOne K (.ref (clsOf d so)) (.ref d.c_Share) = some (ask_Share so)
  | .off _, h => W.k_Off_Share
  | .share _ _, h => kit_same _ _
  | .cheap _, h => W.k_Cheapest_Share
  | .bund _ _, h => W.k_Bundle_Share
  | .carr, h => W.k_Carriage_Share
theorem kit_Cheapest {K : PySem.W.Frag} {mg : Str → Option Value} {d : D} (W : Wld K mg d) : ∀ {so : Srt}, here so = true → PySem.W.kitOne K (.ref (clsOf d so)) (.ref d.c_Cheapest) = some (ask_Cheapest so)
  | .off _, h => W.k_Off_Cheapest
  | .share _ _, h => W.k_Share_Cheapest
  | .cheap _, h => kit_same _ _
  | .bund _ _, h => W.k_Bundle_Cheapest
  | .carr, h => W.k_Carriage_Cheapest
theorem kit_Bundle {K : PySem.W.Frag} {mg : Str → Option Value} {d : D} (W : Wld K mg d) : ∀ {so : Srt}, here so = true → PySem.W.kitOne K (.ref (clsOf d so)) (.ref d.c_Bundle) = some (ask_Bundle so)
  | .off _, h => W.k_Off_Bundle
  | .share _ _, h => W.k_Share_Bundle
  | .cheap _, h => W.k_Cheapest_Bundle
  | .bund _ _, h => kit_same _ _
  | .carr, h => W.k_Carriage_Bundle
theorem kit_Carriage {K : PySem.W.Frag} {mg : Str → Option Value} {d : D} (W : Wld K mg d) : ∀ {so : Srt}, here so = true → PySem.W.kitOne K (.ref (clsOf d so)) (.ref d.c_Carriage) = some (ask_Carriage so)
  | .off _, h => W.k_Off_Carriage
  | .share _ _, h => W.k_Share_Carriage
  | .cheap _, h => W.k_Cheapest_Carriage
  | .bund _ _, h => W.k_Bundle_Carriage
  | .carr, h => kit_same _ _
theorem none_of {H H' : Hp} (s : Same H H') {p : Addr} (h : H' p = none) : H p = none := by
  cases e : H p with
  | none => rfl
  | some u =>
    rw [s p u e] at h
    cases h
/-- a voucher made without marks -/
theorem mk_vch0 {d : D} {H : Hp} {so : Srt} {is : Srt → Prop} {R : Addr → Hp → Prop} {E : XK} (hi : is so) (hh : here so = true) (k : ∀ (H' : Hp) (x : Addr), Same H H' → H x = none → VchIs d H' x ⟨so, mks0⟩ → R x H') :
    ∀ x dx, H x = none → H dx = none → dx ≠ x → spSrtI (clsOf d so) d.c_Marks is (.ref x :: (srtArgs so ++ [.non])) (upd (upd H dx (.own x)) x (.ins (clsOf d so) dx [])) (fun v H2 => v = .non ∧ R x H2) E :=
  fun x dx nx nd _ => ⟨x, dx, so, .non, hi, rfl, upd_same, .inl rfl, fun H' mA' fs b hm h1 h2 h3 => by
    rcases hm with e | ⟨_, _, hM⟩
    · cases e
    · exact ⟨rfl, k H' x (made_same nx nd b) nx ⟨mA', dx, fs, h1, h2, h3, hM, hh⟩⟩⟩
section
variable {P : Program} {w : World} {K : PySem.W.Frag} {mg : Str → Option Value} {base : Heap} {d : D}
theorem sc_Marks_init : FnScope ["self", "kind", "needs", "most", "member", "once", "lone"] ["self", "kind", "needs", "most", "member", "once", "lone"] (defScope s_Marks_init) := ⟨rfl, rfl, rfl, by decide +kernel, rfl, by decide +kernel, by decide +kernel⟩
theorem ok_Marks_init (W : Wld K mg d) : FnOk P w K mg base CX0 1 d.f_Marks_init d.fd_Marks_init ["self", "kind", "needs", "most", "member", "once", "lone"] (spMarksI d.c_Marks) := by
  refine FunD.ok W.m_Marks_init.F sc_Marks_init (fun vs H Q E h => ?_) (fun cdv A outer s H vs Q E hr h => ?_)
  · obtain ⟨x, dx, M, rfl, _⟩ := h
    rfl
  · obtain ⟨x, dx, M, rfl, hx, k⟩ := h
    refine ⟨_, pss_cons (ps_fld (pv 0) (pv 1) rfl)
      (pss_cons (ps_fld (pv 0) (pv 2) rfl)
      (pss_cons (ps_fld (pv 0) (pv 3) rfl)
      (pss_cons (ps_fld (pv 0) (pv 4) rfl)
      (pss_cons (ps_fld (pv 0) (pv 5) rfl)
      (pss_one (ps_fld (pv 0) (pv 6) rfl)))))), ?_⟩
    refine ⟨_, rfl, _, rfl, x, d.c_Marks, dx, [], rfl, hx, W.c_Marks.cl, W.n_Marks_kind, by decide, ?_⟩
    refine ⟨_, rfl, _, rfl, x, d.c_Marks, dx, _, rfl, upd_same, W.c_Marks.cl, W.n_Marks_needs, few (Nat.le_trans (putF_len (n := 0) (Nat.le_refl _)) (by decide)), ?_⟩
    refine ⟨_, rfl, _, rfl, x, d.c_Marks, dx, _, rfl, upd_same, W.c_Marks.cl, W.n_Marks_most, few (Nat.le_trans (putF_len (putF_len (n := 0) (Nat.le_refl _))) (by decide)), ?_⟩
    refine ⟨_, rfl, _, rfl, x, d.c_Marks, dx, _, rfl, upd_same, W.c_Marks.cl, W.n_Marks_member, few (Nat.le_trans (putF_len (putF_len (putF_len (n := 0) (Nat.le_refl _)))) (by decide)), ?_⟩
    refine ⟨_, rfl, _, rfl, x, d.c_Marks, dx, _, rfl, upd_same, W.c_Marks.cl, W.n_Marks_once, few (Nat.le_trans (putF_len (putF_len (putF_len (putF_len (n := 0) (Nat.le_refl _))))) (by decide)), ?_⟩
    refine ⟨_, rfl, _, rfl, x, d.c_Marks, dx, _, rfl, upd_same, W.c_Marks.cl, W.n_Marks_lone, few (Nat.le_trans (putF_len (putF_len (putF_len (putF_len (putF_len (n := 0) (Nat.le_refl _)))))) (by decide)), ?_⟩
    refine k _ (((((but_self.trans but_self).trans but_self).trans but_self).trans but_self).trans but_self) ⟨dx, _, upd_same, ?_, ?_, ?_, ?_, ?_, ?_⟩ <;> (repeat (first | rw [lookup_putF, if_pos rfl] | rw [lookup_putF, if_neg (by decide +kernel)]))
theorem sc_Voucher_init : FnScope ["self", "marks"] ["self", "marks"] (defScope s_Voucher_init) := ⟨rfl, rfl, rfl, by decide +kernel, rfl, by decide +kernel, by decide +kernel⟩
theorem ok_Voucher_init (W : Wld K mg d) : FnOk P w K mg base CX0 3 d.f_Voucher_init d.fd_Voucher_init ["self", "marks"] (spVoucherI K d.c_Marks) := by
  refine FunD.ok W.m_Voucher_init.F sc_Voucher_init (fun vs H Q E h => ?_) (fun cdv A outer s H vs Q E hr h => ?_)
  · obtain ⟨x, C, dx, fs, mv, rfl, _⟩ := h
    rfl
  · obtain ⟨x, C, dx, fs, mv, rfl, hx, hC, hN, hl, hm, k⟩ := h
    have G_Marks_init := ok_Marks_init (P := P) (w := w) (base := base) W
    refine ⟨_, pss_one (ps_fld (pv 0) (pe_ifExp (pt_cmpR op_isN (pv 1) pe_non (nomark _)) (pe_make0 (W.m_Marks_init.mk' W.c_Marks) G_Marks_init hr rfl W.c_Marks.m W.b6_Marks_init (show Vals [.non, .int 0, .non, .bl false, .bl false, .bl false] [.none, .int 0 d.tok1_Marks_init, .none, .bool false, .bool false, .bool false] from (.cons rfl (.cons ⟨_, rfl⟩ (.cons rfl (.cons rfl (.cons rfl (.cons rfl .nil))))))) pass0) (pv 1)) rfl), ?_⟩
    rcases hm with rfl | ⟨mA, rfl⟩
    · refine ⟨_, rfl, rfl, _, rfl, iteT ?_⟩
      refine mk_marks (M := mks0) fun H1 mA s1 f1 hM => ?_
      refine ⟨_, rfl, x, C, dx, fs, rfl, s1 _ _ hx, hC, hN, by omega, ?_⟩
      have hne : mA ≠ x := (ne_of_none hx f1).symm
      refine k _ mA ((But.of_same s1).trans but_self) (.inr ⟨rfl, f1, ?_⟩) upd_same
      exact hM.but hne but_self
    · refine ⟨_, rfl, rfl, _, rfl, iteF ?_⟩
      refine ⟨_, rfl, _, rfl, x, C, dx, fs, rfl, hx, hC, hN, by omega, ?_⟩
      exact k _ mA but_self (.inl rfl) upd_same
theorem sc_Off_init : FnScope ["self", "amount", "marks"] ["self", "amount", "marks"] (defScope s_Off_init) := ⟨rfl, rfl, rfl, by decide +kernel, rfl, by decide +kernel, by decide +kernel⟩
theorem ok_Off_init (W : Wld K mg d) : FnOk P w K mg base CX0 4 d.f_Off_init d.fd_Off_init ["self", "amount", "marks"] (spSrtI d.c_Off d.c_Marks (fun so => ∃ (a : Int), so = .off a)) := by
  refine FunD.ok W.m_Off_init.F sc_Off_init (fun vs H Q E h => ?_) (fun cdv A outer s H vs Q E hr h => ?_)
  · obtain ⟨x, dx, so, mv, ⟨a, rfl⟩, rfl, _⟩ := h
    rfl
  · obtain ⟨x, dx, so, mv, ⟨a, rfl⟩, rfl, hx, hm, k⟩ := h
    have G_Voucher_init := ok_Voucher_init (P := P) (w := w) (base := base) W
    refine ⟨_, pss_cons (ps_expr (pe_base W.q_Voucher_init G_Voucher_init hr rfl W.c_Voucher.m W.m_Voucher_init.F.kp W.m_Voucher_init.b .nil pass0 (pa_cons (pv 0) (pa_cons (pv 2) pa_nil))))
      (pss_one (ps_fld (pv 0) (pv 1) rfl)), ?_⟩
    refine ⟨_, rfl, _, rfl, x, d.c_Off, dx, [], mv, rfl, hx, W.c_Off.cl, W.n_Off_marks, by decide, hm, fun H1 mA b1 hM h1 => ?_⟩
    refine ⟨_, rfl, _, rfl, x, d.c_Off, dx, _, rfl, h1, W.c_Off.cl, W.n_Off_amount, few (Nat.le_trans (putF_len (n := 0) (Nat.le_refl _)) (by decide)), ?_⟩
    refine k _ mA _ (b1.trans but_self) ?_ upd_same ?_ ?_
    · exact hM.but hx but_self
    · (repeat (first | rw [lookup_putF, if_pos rfl] | rw [lookup_putF, if_neg (by decide +kernel)]))
    · show List.lookup _ _ = _
      (repeat (first | rw [lookup_putF, if_pos rfl] | rw [lookup_putF, if_neg (by decide +kernel)]))
theorem sc_Share_init : FnScope ["self", "share", "by_line", "marks"] ["self", "share", "by_line", "marks"] (defScope s_Share_init) := ⟨rfl, rfl, rfl, by decide +kernel, rfl, by decide +kernel, by decide +kernel⟩
theorem ok_Share_init (W : Wld K mg d) : FnOk P w K mg base CX0 4 d.f_Share_init d.fd_Share_init ["self", "share", "by_line", "marks"] (spSrtI d.c_Share d.c_Marks (fun so => ∃ (sh : Int) (bb : Bool), so = .share sh bb)) := by
  refine FunD.ok W.m_Share_init.F sc_Share_init (fun vs H Q E h => ?_) (fun cdv A outer s H vs Q E hr h => ?_)
  · obtain ⟨x, dx, so, mv, ⟨sh, bb, rfl⟩, rfl, _⟩ := h
    rfl
  · obtain ⟨x, dx, so, mv, ⟨sh, bb, rfl⟩, rfl, hx, hm, k⟩ := h
    have G_Voucher_init := ok_Voucher_init (P := P) (w := w) (base := base) W
    refine ⟨_, pss_cons (ps_expr (pe_base W.q_Voucher_init G_Voucher_init hr rfl W.c_Voucher.m W.m_Voucher_init.F.kp W.m_Voucher_init.b .nil pass0 (pa_cons (pv 0) (pa_cons (pv 3) pa_nil))))
      (pss_cons (ps_fld (pv 0) (pv 1) rfl)
      (pss_one (ps_fld (pv 0) (pv 2) rfl))), ?_⟩
    refine ⟨_, rfl, _, rfl, x, d.c_Share, dx, [], mv, rfl, hx, W.c_Share.cl, W.n_Share_marks, by decide, hm, fun H1 mA b1 hM h1 => ?_⟩
    refine ⟨_, rfl, _, rfl, x, d.c_Share, dx, _, rfl, h1, W.c_Share.cl, W.n_Share_share, few (Nat.le_trans (putF_len (n := 0) (Nat.le_refl _)) (by decide)), ?_⟩
    refine ⟨_, rfl, _, rfl, x, d.c_Share, dx, _, rfl, upd_same, W.c_Share.cl, W.n_Share_by_line, few (Nat.le_trans (putF_len (putF_len (n := 0) (Nat.le_refl _))) (by decide)), ?_⟩
    refine k _ mA _ ((b1.trans but_self).trans but_self) ?_ upd_same ?_ ?_
    · exact hM.but hx (but_self.trans but_self)
    · (repeat (first | rw [lookup_putF, if_pos rfl] | rw [lookup_putF, if_neg (by decide +kernel)]))
    · exact ⟨by (repeat (first | rw [lookup_putF, if_pos rfl] | rw [lookup_putF, if_neg (by decide +kernel)])), by (repeat (first | rw [lookup_putF, if_pos rfl] | rw [lookup_putF, if_neg (by decide +kernel)]))⟩
theorem sc_Cheapest_init : FnScope ["self", "many", "marks"] ["self", "many", "marks"] (defScope s_Cheapest_init) := ⟨rfl, rfl, rfl, by decide +kernel, rfl, by decide +kernel, by decide +kernel⟩
theorem ok_Cheapest_init (W : Wld K mg d) : FnOk P w K mg base CX0 4 d.f_Cheapest_init d.fd_Cheapest_init ["self", "many", "marks"] (spSrtI d.c_Cheapest d.c_Marks (fun so => ∃ (n : Int), so = .cheap n)) := by
  refine FunD.ok W.m_Cheapest_init.F sc_Cheapest_init (fun vs H Q E h => ?_) (fun cdv A outer s H vs Q E hr h => ?_)
  · obtain ⟨x, dx, so, mv, ⟨n, rfl⟩, rfl, _⟩ := h
    rfl
  · obtain ⟨x, dx, so, mv, ⟨n, rfl⟩, rfl, hx, hm, k⟩ := h
    have G_Voucher_init := ok_Voucher_init (P := P) (w := w) (base := base) W
    refine ⟨_, pss_cons (ps_expr (pe_base W.q_Voucher_init G_Voucher_init hr rfl W.c_Voucher.m W.m_Voucher_init.F.kp W.m_Voucher_init.b .nil pass0 (pa_cons (pv 0) (pa_cons (pv 2) pa_nil))))
      (pss_one (ps_fld (pv 0) (pv 1) rfl)), ?_⟩
    refine ⟨_, rfl, _, rfl, x, d.c_Cheapest, dx, [], mv, rfl, hx, W.c_Cheapest.cl, W.n_Cheapest_marks, by decide, hm, fun H1 mA b1 hM h1 => ?_⟩
    refine ⟨_, rfl, _, rfl, x, d.c_Cheapest, dx, _, rfl, h1, W.c_Cheapest.cl, W.n_Cheapest_many, few (Nat.le_trans (putF_len (n := 0) (Nat.le_refl _)) (by decide)), ?_⟩
    refine k _ mA _ (b1.trans but_self) ?_ upd_same ?_ ?_
    · exact hM.but hx but_self
    · (repeat (first | rw [lookup_putF, if_pos rfl] | rw [lookup_putF, if_neg (by decide +kernel)]))
    · show List.lookup _ _ = _
      (repeat (first | rw [lookup_putF, if_pos rfl] | rw [lookup_putF, if_neg (by decide +kernel)]))
theorem sc_Bundle_init : FnScope ["self", "many", "price", "marks"] ["self", "many", "price", "marks"] (defScope s_Bundle_init) := ⟨rfl, rfl, rfl, by decide +kernel, rfl, by decide +kernel, by decide +kernel⟩
theorem ok_Bundle_init (W : Wld K mg d) : FnOk P w K mg base CX0 4 d.f_Bundle_init d.fd_Bundle_init ["self", "many", "price", "marks"] (spSrtI d.c_Bundle d.c_Marks (fun so => ∃ (n : Int) (pp : Int), so = .bund n pp)) := by
  refine FunD.ok W.m_Bundle_init.F sc_Bundle_init (fun vs H Q E h => ?_) (fun cdv A outer s H vs Q E hr h => ?_)
  · obtain ⟨x, dx, so, mv, ⟨n, pp, rfl⟩, rfl, _⟩ := h
    rfl
  · obtain ⟨x, dx, so, mv, ⟨n, pp, rfl⟩, rfl, hx, hm, k⟩ := h
    have G_Voucher_init := ok_Voucher_init (P := P) (w := w) (base := base) W
    refine ⟨_, pss_cons (ps_expr (pe_base W.q_Voucher_init G_Voucher_init hr rfl W.c_Voucher.m W.m_Voucher_init.F.kp W.m_Voucher_init.b .nil pass0 (pa_cons (pv 0) (pa_cons (pv 3) pa_nil))))
      (pss_cons (ps_fld (pv 0) (pv 1) rfl)
      (pss_one (ps_fld (pv 0) (pv 2) rfl))), ?_⟩
    refine ⟨_, rfl, _, rfl, x, d.c_Bundle, dx, [], mv, rfl, hx, W.c_Bundle.cl, W.n_Bundle_marks, by decide, hm, fun H1 mA b1 hM h1 => ?_⟩
    refine ⟨_, rfl, _, rfl, x, d.c_Bundle, dx, _, rfl, h1, W.c_Bundle.cl, W.n_Bundle_many, few (Nat.le_trans (putF_len (n := 0) (Nat.le_refl _)) (by decide)), ?_⟩
    refine ⟨_, rfl, _, rfl, x, d.c_Bundle, dx, _, rfl, upd_same, W.c_Bundle.cl, W.n_Bundle_price, few (Nat.le_trans (putF_len (putF_len (n := 0) (Nat.le_refl _))) (by decide)), ?_⟩
    refine k _ mA _ ((b1.trans but_self).trans but_self) ?_ upd_same ?_ ?_
    · exact hM.but hx (but_self.trans but_self)
    · (repeat (first | rw [lookup_putF, if_pos rfl] | rw [lookup_putF, if_neg (by decide +kernel)]))
    · exact ⟨by (repeat (first | rw [lookup_putF, if_pos rfl] | rw [lookup_putF, if_neg (by decide +kernel)])), by (repeat (first | rw [lookup_putF, if_pos rfl] | rw [lookup_putF, if_neg (by decide +kernel)]))⟩
theorem sc_Carriage_init : FnScope ["self", "marks"] ["self", "marks"] (defScope s_Carriage_init) := ⟨rfl, rfl, rfl, by decide +kernel, rfl, by decide +kernel, by decide +kernel⟩
theorem ok_Carriage_init (W : Wld K mg d) : FnOk P w K mg base CX0 4 d.f_Carriage_init d.fd_Carriage_init ["self", "marks"] (spSrtI d.c_Carriage d.c_Marks (fun so => so = .carr)) := by
  refine FunD.ok W.m_Carriage_init.F sc_Carriage_init (fun vs H Q E h => ?_) (fun cdv A outer s H vs Q E hr h => ?_)
  · obtain ⟨x, dx, so, mv, rfl, rfl, _⟩ := h
    rfl
  · obtain ⟨x, dx, so, mv, rfl, rfl, hx, hm, k⟩ := h
    have G_Voucher_init := ok_Voucher_init (P := P) (w := w) (base := base) W
    refine ⟨_, pss_one (ps_expr (pe_base W.q_Voucher_init G_Voucher_init hr rfl W.c_Voucher.m W.m_Voucher_init.F.kp W.m_Voucher_init.b .nil pass0 (pa_cons (pv 0) (pa_cons (pv 1) pa_nil)))), ?_⟩
    refine ⟨_, rfl, _, rfl, x, d.c_Carriage, dx, [], mv, rfl, hx, W.c_Carriage.cl, W.n_Carriage_marks, by decide, hm, fun H1 mA b1 hM h1 => ?_⟩
    refine k _ mA _ b1 hM h1 ?_ trivial
    (repeat (first | rw [lookup_putF, if_pos rfl] | rw [lookup_putF, if_neg (by decide +kernel)]))
theorem sc__law_mix : FnScope ["_law_cell", "_law_factor", "_law_prime"] ["_law_cell", "_law_factor", "_law_prime"] (defScope s__law_mix) := ⟨rfl, rfl, rfl, by decide +kernel, rfl, by decide +kernel, by decide +kernel⟩
theorem ok__law_mix (W : Wld K mg d) : FnOk P w K mg base CX0 1 d.f__law_mix d.fd__law_mix ["_law_cell", "_law_factor", "_law_prime"] spMix := by
  refine FunD.ok W.d__law_mix.F sc__law_mix (fun vs H Q E h => ?_) (fun cdv A outer s H vs Q E hr h => ?_)
  · obtain ⟨c, f, p, rfl, _⟩ := h
    rfl
  · obtain ⟨c, f, p, rfl, hf, hp, k⟩ := h
    refine ⟨_, pss_one (ps_ret (pe_op op_mod (pe_op op_mul (pv 0) (pv 1)) (pv 2))), ?_⟩
    exact ⟨_, rfl, _, rfl, _, _, rfl, rfl, .inr hf, _, rfl, _, _, rfl, rfl, hp, k⟩
theorem sc__law_whole : FnScope ["_law_found"] ["_law_found"] (defScope s__law_whole) := ⟨rfl, rfl, rfl, by decide +kernel, rfl, by decide +kernel, by decide +kernel⟩
theorem ok__law_whole (W : Wld K mg d) : FnOk P w K mg base CX0 1 d.f__law_whole d.fd__law_whole ["_law_found"] spWholeI := by
  refine FunD.ok W.d__law_whole.F sc__law_whole (fun vs H Q E h => ?_) (fun cdv A outer s H vs Q E hr h => ?_)
  · obtain ⟨n, rfl, _⟩ := h
    rfl
  · obtain ⟨n, rfl, k⟩ := h
    refine ⟨_, pss_one (ps_ret (pe_and (pe_callB call_isinst (by rfl) W.B.isi b_isi (pa_cons (pv 0) (pa_cons (pe_bltn (v := .ty "int") (by rfl) W.B.int b_int rfl) pa_nil))) (pe_one (pe_not (pe_callB call_isinst (by rfl) W.B.isi b_isi (pa_cons (pv 0) (pa_cons (pe_bltn (v := .ty "bool") (by rfl) W.B.bool b_bool rfl) pa_nil))))))), ?_⟩
    exact ⟨_, rfl, _, _, _, _, rfl, .inl ⟨_, rfl⟩, TyOf.int _, kit_same _ _, _, rfl, iteT ⟨_, rfl, _, _, _, _, rfl, .inl ⟨_, rfl⟩, TyOf.int _, kit_int_bool _, _, rfl, k⟩⟩
def coinF (c : Int) : Int := if c % 4 = 0 then c / 4 % 10 else if c % 4 = 1 then c / 4 % 1000 else if c % 4 = 2 then [0, 1, 999999999999, 1000000000000].getD (c / 4 % 4).toNat 0 else c / 4 * 48271 % 1000000000001
def spCoinF : Sp := fun vs H Q _ => ∃ c : Int, vs = [.int c] ∧ ∀ H', Same H H' → Q (.int (coinF c)) H'
theorem eqInt (a b : Int) : decide (V.int a = V.int b) = decide (a = b) := by
  by_cases h : a = b
  · subst h; simp
  · have : ¬ (V.int a = V.int b) := by
      intro e
      injection e with e
      exact h e
    simp [h, this]
theorem pickD {zs : List Int} {m : Int} (h0 : 0 ≤ m) (h1 : m < (zs.length : Int)) : atI (zs.map V.int) m = some (.int (zs.getD m.toNat 0)) := by
  obtain ⟨j, rfl⟩ := Int.eq_ofNat_of_zero_le h0
  obtain ⟨z, ez⟩ := at_of (xs := zs) (i := j) (by omega)
  refine atI_nat ?_
  rw [List.getElem?_map, ez, Int.toNat_natCast, List.getD_eq_getElem?_getD, ez]
  rfl
theorem sc__law_coin : FnScope ["_law_cell", "_law_how"] ["_law_cell"] (defScope s__law_coin) := ⟨rfl, rfl, rfl, by decide +kernel, rfl, by decide +kernel, by decide +kernel⟩
theorem ok__law_coin (W : Wld K mg d) : FnOk P w K mg base CX0 1 d.f__law_coin d.fd__law_coin ["_law_cell"] spCoinF := by
  refine FunD.ok W.d__law_coin.F sc__law_coin (fun vs H Q E h => ?_) (fun cdv A outer s H vs Q E hr h => ?_)
  · obtain ⟨c, rfl, _⟩ := h
    rfl
  · obtain ⟨c, rfl, k⟩ := h
    refine ⟨_, pss_cons (ps_set (i := 1) sc__law_coin.nd rfl (Or.inl rfl) (pe_op op_mod (pv 0) pe_int))
      (pss_cons (ps_if (pt_cmpR op_eq (pv 1) pe_int (nomark _)) (pss_one (ps_ret (pe_op op_mod (pe_op op_fdiv (pv 0) pe_int) pe_int))) (pss_nil))
      (pss_cons (ps_if (pt_cmpR op_eq (pv 1) pe_int (nomark _)) (pss_one (ps_ret (pe_op op_mod (pe_op op_fdiv (pv 0) pe_int) pe_int))) (pss_nil))
      (pss_cons (ps_if (pt_cmpR op_eq (pv 1) pe_int (nomark _)) (pss_one (ps_ret (pe_ix (r := rIxL K) ix_list (pe_lst (pa_cons pe_int (pa_cons pe_int (pa_cons pe_int (pa_cons pe_int pa_nil))))) (pe_op op_mod (pe_op op_fdiv (pv 0) pe_int) pe_int) (fun _ _ => rfl)))) (pss_nil))
      (pss_one (ps_ret (pe_op op_mod (pe_op op_mul (pe_op op_fdiv (pv 0) pe_int) pe_int) pe_int)))))), ?_⟩
    have k0 := k H (Same.refl _)
    refine ⟨_, rfl, _, _, rfl, rfl, (by show (0 : Int) < 4; decide), ?_⟩
    refine ⟨_, rfl, rfl, _, rfl, ?_⟩
    rw [eqInt]
    refine ite2 (fun h => ?_) (fun h => ?_)
    · have h0 : c % 4 = 0 := of_decide_eq_true h
      have e : coinF c = c / 4 % 10 := by
        unfold coinF
        rw [if_pos h0]
      rw [e] at k0
      exact ⟨_, rfl, _, _, rfl, rfl, ⟨by decide, by decide⟩, _, _, rfl, rfl, (by show (0 : Int) < 10; decide), k0⟩
    have n0 : ¬ c % 4 = 0 := fun z => h (decide_eq_true z)
    refine ⟨_, rfl, rfl, _, rfl, ?_⟩
    rw [eqInt]
    refine ite2 (fun h => ?_) (fun h => ?_)
    · have h0 : c % 4 = 1 := of_decide_eq_true h
      have e : coinF c = c / 4 % 1000 := by
        unfold coinF
        rw [if_neg n0, if_pos h0]
      rw [e] at k0
      exact ⟨_, rfl, _, _, rfl, rfl, ⟨by decide, by decide⟩, _, _, rfl, rfl, (by show (0 : Int) < 1000; decide), k0⟩
    have n1 : ¬ c % 4 = 1 := fun z => h (decide_eq_true z)
    refine ⟨_, rfl, rfl, _, rfl, ?_⟩
    rw [eqInt]
    refine ite2 (fun h => ?_) (fun h => ?_)
    · have h0 : c % 4 = 2 := of_decide_eq_true h
      have e : coinF c = [0, 1, 999999999999, 1000000000000].getD (c / 4 % 4).toNat 0 := by
        unfold coinF
        rw [if_neg n0, if_neg n1, if_pos h0]
      refine ⟨(by show 4 ≤ sizeLine; decide), fun l hl => ?_⟩
      have kk := k _ (same_new (o := .lst [.int 0, .int 1, .int 999999999999, .int 1000000000000]) hl)
      rw [e] at kk
      exact ⟨_, rfl, _, _, rfl, rfl, ⟨by decide, by decide⟩, _, _, rfl, rfl, (by show (0 : Int) < 4; decide), l, _, _, _, rfl, rfl, SqL.of upd_same, pickD (zs := [0, 1, 999999999999, 1000000000000]) (by omega) (by show _ < (4 : Int); omega), kk⟩
    have n2 : ¬ c % 4 = 2 := fun z => h (decide_eq_true z)
    have e : coinF c = c / 4 * 48271 % 1000000000001 := by
      unfold coinF
      rw [if_neg n0, if_neg n1, if_neg n2]
    rw [e] at k0
    exact ⟨_, rfl, _, _, rfl, rfl, ⟨by decide, by decide⟩, _, _, rfl, rfl, .inr ⟨by decide, by decide⟩, _, _, rfl, rfl, (by show (0 : Int) < 1000000000001; decide), k0⟩
/-- the fields of marks, in their order -/
def mkV (M : Mks) : List V := [pV M.kind, .int M.needs, oV M.most, .bl M.member, .bl M.once, .bl M.lone]
theorem flat_mkV (M : Mks) : (mkV M).all flatV = true := by
  unfold mkV
  cases M.kind <;> cases M.most <;> rfl
def spFields (CM : Addr) : Sp := fun vs H Q _ => ∃ (x : Addr) (M : Mks), vs = [.ref x] ∧ MksIs CM H x M ∧ ∀ p, H p = none → Q (.ref p) (upd H p (.lst (mkV M)))
theorem sc__law_fields : FnScope ["_law_own"] ["_law_own"] (defScope s__law_fields) := ⟨rfl, rfl, rfl, by decide +kernel, rfl, by decide +kernel, by decide +kernel⟩
theorem ok__law_fields (W : Wld K mg d) : FnOk P w K mg base CX0 1 d.f__law_fields d.fd__law_fields ["_law_own"] (spFields d.c_Marks) := by
  refine FunD.ok W.d__law_fields.F sc__law_fields (fun vs H Q E h => ?_) (fun cdv A outer s H vs Q E hr h => ?_)
  · obtain ⟨x, M, rfl, _⟩ := h
    rfl
  · obtain ⟨x, M, rfl, ⟨dx, fs, h, l1, l2, l3, l4, l5, l6⟩, k⟩ := h
    refine ⟨_, pss_one (ps_ret (pe_lst (pa_cons (pe_fld (pv 0) rfl) (pa_cons (pe_fld (pv 0) rfl) (pa_cons (pe_fld (pv 0) rfl) (pa_cons (pe_fld (pv 0) rfl) (pa_cons (pe_fld (pv 0) rfl) (pa_cons (pe_fld (pv 0) rfl) pa_nil)))))))), ?_⟩
    exact ⟨_, rfl, x, d.c_Marks, dx, fs, _, rfl, h, W.c_Marks.cl, W.n_Marks_kind, l1, _, rfl, x, d.c_Marks, dx, fs, _, rfl, h, W.c_Marks.cl, W.n_Marks_needs, l2, _, rfl, x, d.c_Marks, dx, fs, _, rfl, h, W.c_Marks.cl, W.n_Marks_most, l3,
      _, rfl, x, d.c_Marks, dx, fs, _, rfl, h, W.c_Marks.cl, W.n_Marks_member, l4, _, rfl, x, d.c_Marks, dx, fs, _, rfl, h, W.c_Marks.cl, W.n_Marks_once, l5, _, rfl, x, d.c_Marks, dx, fs, _, rfl, h, W.c_Marks.cl, W.n_Marks_lone, l6, (by show 6 ≤ sizeLine; decide), fun p hp => k p hp⟩
def spMarksBy (CM : Addr) (Q : VK) (H : Hp) : Prop := ∀ (H' : Hp) (t x p : Addr) (M : Mks), Same H H' → H' t = some (.tup [.ref x, .ref p]) → MksIs CM H' x M → H' p = some (.lst (mkV M)) → Q (.ref t) H'
def spOneNamed (CM : Addr) : Sp := fun vs H Q _ => ∃ (kd : Option Nat) (z : Int) (m : Option Int) (bl : Addr) (b0 b1 b2 : Bool) (pk : Int), vs = [pV kd, .int z, oV m, .ref bl, .int pk] ∧ H bl = some (.lst [.bl b0, .bl b1, .bl b2]) ∧ 0 ≤ pk ∧ pk < 6 ∧ spMarksBy CM Q H
theorem sc__law_one_named : FnScope ["_law_branch", "_law_least", "_law_top", "_law_bits", "_law_pick", "_law_rest", "_law_some"] ["_law_branch", "_law_least", "_law_top", "_law_bits", "_law_pick"] (defScope s__law_one_named) := ⟨rfl, rfl, rfl, by decide +kernel, rfl, by decide +kernel, by decide +kernel⟩
theorem ok__law_one_named (W : Wld K mg d) : FnOk P w K mg base CX0 3 d.f__law_one_named d.fd__law_one_named ["_law_branch", "_law_least", "_law_top", "_law_bits", "_law_pick"] (spOneNamed d.c_Marks) := by
  refine FunD.ok W.d__law_one_named.F sc__law_one_named (fun vs H Q E h => ?_) (fun cdv A outer s H vs Q E hr h => ?_)
  · obtain ⟨kd, z, m, bl, b0, b1, b2, pk, rfl, _⟩ := h
    rfl
  · obtain ⟨kd, z, m, bl, b0, b1, b2, pk, rfl, hbl, p0, p6, k⟩ := h
    have G_Marks_init := ok_Marks_init (P := P) (w := w) (base := base) W
    refine ⟨_, pss_cons (ps_set (i := 5) sc__law_one_named.nd rfl (Or.inl rfl) (pe_lst (pa_cons pe_non (pa_cons pe_int (pa_cons pe_non (pa_cons pe_bl (pa_cons pe_bl (pa_cons pe_bl pa_nil))))))))
      (pss_cons (ps_asg (pe_ix (r := rIxL K) ix_list (pe_op op_cat (pe_lst (pa_cons (pv 0) (pa_cons (pv 1) (pa_cons (pv 2) pa_nil)))) (pv 3)) (pv 4) (fun _ _ => rfl)) (pg_sub (pv 5) (pv 4) set_list))
      (pss_cons (ps_set (i := 6) sc__law_one_named.nd rfl (Or.inl rfl) (pe_lst (pa_cons (pe_makeK0 (W.m_Marks_init.mk' W.c_Marks) G_Marks_init hr rfl W.c_Marks.m W.kb_Marks_0_kind pass0 (pk_cons (pv 0) pk_nil)) (pa_cons (pe_makeK0 (W.m_Marks_init.mk' W.c_Marks) G_Marks_init hr rfl W.c_Marks.m W.kb_Marks_0_needs pass0 (pk_cons (pv 1) pk_nil)) (pa_cons (pe_makeK0 (W.m_Marks_init.mk' W.c_Marks) G_Marks_init hr rfl W.c_Marks.m W.kb_Marks_0_most pass0 (pk_cons (pv 2) pk_nil)) pa_nil)))))
      (pss_cons (ps_set (i := 6) sc__law_one_named.nd rfl (Or.inl rfl) (pe_op op_cat (pv 6) (pe_lst (pa_cons (pe_makeK0 (W.m_Marks_init.mk' W.c_Marks) G_Marks_init hr rfl W.c_Marks.m W.kb_Marks_0_member pass0 (pk_cons (pe_ix (r := rIxL K) ix_list (pv 3) pe_int (fun _ _ => rfl)) pk_nil)) (pa_cons (pe_makeK0 (W.m_Marks_init.mk' W.c_Marks) G_Marks_init hr rfl W.c_Marks.m W.kb_Marks_0_once pass0 (pk_cons (pe_ix (r := rIxL K) ix_list (pv 3) pe_int (fun _ _ => rfl)) pk_nil)) (pa_cons (pe_makeK0 (W.m_Marks_init.mk' W.c_Marks) G_Marks_init hr rfl W.c_Marks.m W.kb_Marks_0_lone pass0 (pk_cons (pe_ix (r := rIxL K) ix_list (pv 3) pe_int (fun _ _ => rfl)) pk_nil)) pa_nil))))))
      (pss_one (ps_ret (pe_tup (pa_cons (pe_ix (r := rIxL K) ix_list (pv 6) (pv 4) (fun _ _ => rfl)) (pa_cons (pv 5) pa_nil)))))))), ?_⟩
    obtain ⟨j, rfl⟩ := Int.eq_ofNat_of_zero_le p0
    have hj : j < 6 := by omega
    -- rest
    refine ⟨(by show 6 ≤ sizeLine; decide), fun rs hrs => ?_⟩
    have s1 := same_new (o := .lst [.non, .int 0, .non, .bl false, .bl false, .bl false]) hrs
    have nb : bl ≠ rs := ne_of_none hbl hrs
    refine ⟨_, rfl, _, rfl, _, rfl, (by show 3 ≤ sizeLine; decide), fun l1 hl1 => ?_⟩
    have s2 := s1.trans (same_new (o := .lst [pV kd, .int z, oV m]) hl1)
    refine ⟨_, rfl, l1, bl, _, _, rfl, rfl, upd_same, s2 _ _ hbl, (by show 6 ≤ sizeLine; decide), fun l2 hl2 => ?_⟩
    have s3 := s2.trans (same_new (o := .lst ([pV kd, .int z, oV m] ++ [.bl b0, .bl b1, .bl b2])) hl2)
    obtain ⟨v, ev⟩ := at_of (xs := ([pV kd, .int z, oV m] ++ [.bl b0, .bl b1, .bl b2] : List V)) (i := j) (show j < ([pV kd, .int z, oV m] ++ [.bl b0, .bl b1, .bl b2] : List V).length from hj)
    refine ⟨_, rfl, l2, _, _, v, rfl, rfl, SqL.of upd_same, atI_nat ev, ?_⟩
    have hrs3 : (upd (upd (upd H rs (.lst [.non, .int 0, .non, .bl false, .bl false, .bl false])) l1 (.lst [pV kd, .int z, oV m])) l2 (.lst ([pV kd, .int z, oV m] ++ [.bl b0, .bl b1, .bl b2]))) rs = some (.lst [.non, .int 0, .non, .bl false, .bl false, .bl false]) := same_new hl2 _ _ (same_new hl1 _ _ upd_same)
    generalize upd (upd (upd H rs (.lst [.non, .int 0, .non, .bl false, .bl false, .bl false])) l1 (.lst [pV kd, .int z, oV m])) l2 (.lst ([pV kd, .int z, oV m] ++ [.bl b0, .bl b1, .bl b2])) = H3 at *
    refine ⟨_, rfl, _, rfl, rs, _, _, j, rfl, rfl, hrs3, ixN_nat hj, ?_⟩
    have s4 : Same H (upd H3 rs (.lst ([.non, .int 0, .non, .bl false, .bl false, .bl false].set j v))) := same_fresh hrs s3
    have hrs4 : (upd H3 rs (.lst ([.non, .int 0, .non, .bl false, .bl false, .bl false].set j v))) rs = some (.lst ([.non, .int 0, .non, .bl false, .bl false, .bl false].set j v)) := upd_same
    generalize upd H3 rs (.lst ([.non, .int 0, .non, .bl false, .bl false, .bl false].set j v)) = H4 at *
    -- the marks, one by one
    refine ⟨_, rfl, mk_marks (M := ⟨kd, 0, none, false, false, false⟩) fun H5 x0 s5 f5 m0 => ?_⟩
    refine ⟨_, rfl, mk_marks (M := ⟨none, z, none, false, false, false⟩) fun H6 x1 s6 f6 m1 => ?_⟩
    refine ⟨_, rfl, mk_marks (M := ⟨none, 0, m, false, false, false⟩) fun H7 x2 s7 f7 m2 => ?_⟩
    refine ⟨(by show 3 ≤ sizeLine; decide), fun q1 hq1 => ?_⟩
    have s8 := same_new (o := .lst [V.ref x0, V.ref x1, V.ref x2]) hq1
    have t8 := ((s4.trans s5).trans (s6.trans s7)).trans s8
    have hb8 := t8 _ _ hbl
    refine ⟨_, rfl, _, rfl, bl, _, _, _, rfl, rfl, SqL.of hb8, rfl, mk_marks (M := ⟨none, 0, none, b0, false, false⟩) fun H9 x3 s9 f9 m3 => ?_⟩
    refine ⟨_, rfl, bl, _, _, _, rfl, rfl, SqL.of (s9 _ _ hb8), rfl, mk_marks (M := ⟨none, 0, none, false, b1, false⟩) fun H10 x4 s10 f10 m4 => ?_⟩
    refine ⟨_, rfl, bl, _, _, _, rfl, rfl, SqL.of (s10 _ _ (s9 _ _ hb8)), rfl, mk_marks (M := ⟨none, 0, none, false, false, b2⟩) fun H11 x5 s11 f11 m5 => ?_⟩
    refine ⟨(by show 3 ≤ sizeLine; decide), fun q2 hq2 => ?_⟩
    have s12 := same_new (o := .lst [V.ref x3, V.ref x4, V.ref x5]) hq2
    have u8 := ((s9.trans s10).trans s11).trans s12
    refine ⟨q1, q2, _, _, rfl, rfl, u8 _ _ upd_same, upd_same, (by show 6 ≤ sizeLine; decide), fun q3 hq3 => ?_⟩
    have s13 := same_new (o := .lst ([V.ref x0, V.ref x1, V.ref x2] ++ [V.ref x3, V.ref x4, V.ref x5])) hq3
    have w0 := m0.same (((s6.trans s7).trans s8).trans (u8.trans s13))
    have w1 := m1.same ((s7.trans s8).trans (u8.trans s13))
    have w2 := m2.same (s8.trans (u8.trans s13))
    have w3 := m3.same (((s10.trans s11).trans s12).trans s13)
    have w4 := m4.same ((s11.trans s12).trans s13)
    have w5 := m5.same (s12.trans s13)
    have hr13 := ((((s5.trans (s6.trans s7)).trans s8).trans u8).trans s13) _ _ hrs4
    have t13 := (t8.trans u8).trans s13
    have hq : (upd (upd H11 q2 (.lst [V.ref x3, V.ref x4, V.ref x5])) q3 (.lst ([V.ref x0, V.ref x1, V.ref x2] ++ [V.ref x3, V.ref x4, V.ref x5]))) q3 = some (.lst ([V.ref x0, V.ref x1, V.ref x2] ++ [V.ref x3, V.ref x4, V.ref x5])) := upd_same
    generalize upd (upd H11 q2 (.lst [V.ref x3, V.ref x4, V.ref x5])) q3 (.lst ([V.ref x0, V.ref x1, V.ref x2] ++ [V.ref x3, V.ref x4, V.ref x5])) = HF at *
    have fin : ∀ (x : Addr) (M : Mks), MksIs d.c_Marks HF x M → ([.non, .int 0, .non, .bl false, .bl false, .bl false].set j v) = mkV M → ∀ t, HF t = none → Q (.ref t) (upd HF t (.tup [.ref x, .ref rs])) := fun x M hM em t ht => k _ t x rs M (t13.trans (same_new ht)) upd_same (hM.same (same_new ht)) (by rw [← em]; exact same_new ht _ _ hr13)
    match j, hj with
    | 0, _ =>
      cases ev
      exact ⟨_, rfl, _, rfl, q3, _, _, _, rfl, rfl, SqL.of hq, rfl, _, rfl, (by show 2 ≤ sizeLine; decide), fin x0 _ w0 rfl⟩
    | 1, _ =>
      cases ev
      exact ⟨_, rfl, _, rfl, q3, _, _, _, rfl, rfl, SqL.of hq, rfl, _, rfl, (by show 2 ≤ sizeLine; decide), fin x1 _ w1 rfl⟩
    | 2, _ =>
      cases ev
      exact ⟨_, rfl, _, rfl, q3, _, _, _, rfl, rfl, SqL.of hq, rfl, _, rfl, (by show 2 ≤ sizeLine; decide), fin x2 _ w2 rfl⟩
    | 3, _ =>
      cases ev
      exact ⟨_, rfl, _, rfl, q3, _, _, _, rfl, rfl, SqL.of hq, rfl, _, rfl, (by show 2 ≤ sizeLine; decide), fin x3 _ w3 rfl⟩
    | 4, _ =>
      cases ev
      exact ⟨_, rfl, _, rfl, q3, _, _, _, rfl, rfl, SqL.of hq, rfl, _, rfl, (by show 2 ≤ sizeLine; decide), fin x4 _ w4 rfl⟩
    | 5, _ =>
      cases ev
      exact ⟨_, rfl, _, rfl, q3, _, _, _, rfl, rfl, SqL.of hq, rfl, _, rfl, (by show 2 ≤ sizeLine; decide), fin x5 _ w5 rfl⟩
    | n + 6, h => omega
def spMB (CM : Addr) : Sp := fun vs H Q _ => ∃ c : Int, vs = [.int c] ∧ spMarksBy CM Q H
theorem sc__law_marks_by : FnScope ["_law_cell", "_law_branch", "_law_least", "_law_top", "_law_bits", "_law_how", "_law_made_here"] ["_law_cell"] (defScope s__law_marks_by) := ⟨rfl, rfl, rfl, by decide +kernel, rfl, by decide +kernel, by decide +kernel⟩
theorem ok__law_marks_by (W : Wld K mg d) : FnOk P w K mg base CX0 4 d.f__law_marks_by d.fd__law_marks_by ["_law_cell"] (spMB d.c_Marks) := by
  refine FunD.ok W.d__law_marks_by.F sc__law_marks_by (fun vs H Q E h => ?_) (fun cdv A outer s H vs Q E hr h => ?_)
  · obtain ⟨c, rfl, _⟩ := h
    rfl
  · obtain ⟨c, rfl, k⟩ := h
    have G__law_coin := ok__law_coin (P := P) (w := w) (base := base) W
    have G__law_mix := ok__law_mix (P := P) (w := w) (base := base) W
    have G_Marks_init := ok_Marks_init (P := P) (w := w) (base := base) W
    have G__law_one_named := ok__law_one_named (P := P) (w := w) (base := base) W
    have hr1 : Room 1 _ := hr.mono (by decide)
    have hr2 : Room 2 _ := hr.mono (by decide)
    refine ⟨_, pss_cons (ps_set (i := 1) sc__law_marks_by.nd rfl (Or.inl rfl) (pe_cut (pe_ifExp (pt_cmpR op_eq (pe_op op_mod (pv 0) pe_int) pe_int (nomark _)) pe_non (pe_op op_mod (pe_op op_fdiv (pv 0) pe_int) pe_int))))
      (pss_cons (ps_set (i := 2) sc__law_marks_by.nd rfl (Or.inl rfl) (pe_call G__law_coin hr1 rfl W.d__law_coin.m W.d__law_coin.F.kp W.d__law_coin.b .nil pass0 (pa_cons (pe_call G__law_mix hr1 rfl W.d__law_mix.m W.d__law_mix.F.kp W.d__law_mix.b .nil pass0 (pa_cons (pv 0) (pa_cons pe_int (pa_cons pe_int pa_nil)))) pa_nil)))
      (pss_cons (ps_set (i := 3) sc__law_marks_by.nd rfl (Or.inl rfl) (pe_cut (pe_ifExp (pt_cmpR op_eq (pe_op op_mod (pe_op op_fdiv (pv 0) pe_int) pe_int) pe_int (nomark _)) pe_non (pe_call G__law_coin hr1 rfl W.d__law_coin.m W.d__law_coin.F.kp W.d__law_coin.b .nil pass0 (pa_cons (pe_call G__law_mix hr1 rfl W.d__law_mix.m W.d__law_mix.F.kp W.d__law_mix.b .nil pass0 (pa_cons (pv 0) (pa_cons pe_int (pa_cons pe_int pa_nil)))) pa_nil)))))
      (pss_cons (ps_set (i := 4) sc__law_marks_by.nd rfl (Or.inl rfl) (pe_lst (pa_cons (pe_cmpR op_eq (pe_op op_mod (pe_op op_fdiv (pv 0) pe_int) pe_int) pe_int (nomark _)) (pa_cons (pe_cmpR op_eq (pe_op op_mod (pe_op op_fdiv (pv 0) pe_int) pe_int) pe_int (nomark _)) (pa_cons (pe_cmpR op_eq (pe_op op_mod (pe_op op_fdiv (pv 0) pe_int) pe_int) pe_int (nomark _)) pa_nil)))))
      (pss_cons (ps_set (i := 5) sc__law_marks_by.nd rfl (Or.inl rfl) (pe_op op_mod (pe_op op_fdiv (pv 0) pe_int) pe_int))
      (pss_cons (ps_if (pt_cmpR op_eq (pv 5) pe_int (nomark _)) (pss_one (ps_ret (pe_tup (pa_cons (pe_make0 (W.m_Marks_init.mk' W.c_Marks) G_Marks_init hr2 rfl W.c_Marks.m W.b6_Marks_init (show Vals [.non, .int 0, .non, .bl false, .bl false, .bl false] [.none, .int 0 d.tok1_Marks_init, .none, .bool false, .bool false, .bool false] from (.cons rfl (.cons ⟨_, rfl⟩ (.cons rfl (.cons rfl (.cons rfl (.cons rfl .nil))))))) pass0) (pa_cons (pe_lst (pa_cons pe_non (pa_cons pe_int (pa_cons pe_non (pa_cons pe_bl (pa_cons pe_bl (pa_cons pe_bl pa_nil))))))) pa_nil))))) (pss_nil))
      (pss_cons (ps_if (pt_cmpR op_eq (pv 5) pe_int (nomark _)) (pss_one (ps_ret (pe_tup (pa_cons (pe_make (W.m_Marks_init.mk' W.c_Marks) G_Marks_init hr2 rfl W.c_Marks.m W.b5_Marks_init (show Vals [.int 0, .non, .bl false, .bl false, .bl false] [.int 0 d.tok1_Marks_init, .none, .bool false, .bool false, .bool false] from (.cons ⟨_, rfl⟩ (.cons rfl (.cons rfl (.cons rfl (.cons rfl .nil)))))) pass0 (pa_cons (pv 1) pa_nil)) (pa_cons (pe_lst (pa_cons (pv 1) (pa_cons pe_int (pa_cons pe_non (pa_cons pe_bl (pa_cons pe_bl (pa_cons pe_bl pa_nil))))))) pa_nil))))) (pss_nil))
      (pss_cons (ps_if (pt_cmpR op_eq (pv 5) pe_int (nomark _)) (pss_one (ps_ret (pe_tup (pa_cons (pe_make (W.m_Marks_init.mk' W.c_Marks) G_Marks_init hr2 rfl W.c_Marks.m W.b4_Marks_init (show Vals [.non, .bl false, .bl false, .bl false] [.none, .bool false, .bool false, .bool false] from (.cons rfl (.cons rfl (.cons rfl (.cons rfl .nil))))) pass0 (pa_cons (pv 1) (pa_cons (pv 2) pa_nil))) (pa_cons (pe_lst (pa_cons (pv 1) (pa_cons (pv 2) (pa_cons pe_non (pa_cons pe_bl (pa_cons pe_bl (pa_cons pe_bl pa_nil))))))) pa_nil))))) (pss_nil))
      (pss_cons (ps_if (pt_cmpR op_eq (pv 5) pe_int (nomark _)) (pss_one (ps_ret (pe_tup (pa_cons (pe_make (W.m_Marks_init.mk' W.c_Marks) G_Marks_init hr2 rfl W.c_Marks.m W.b2_Marks_init (show Vals [.bl false, .bl false] [.bool false, .bool false] from (.cons rfl (.cons rfl .nil))) pass0 (pa_cons (pv 1) (pa_cons (pv 2) (pa_cons (pv 3) (pa_cons (pe_ix (r := rIxL K) ix_list (pv 4) pe_int (fun _ _ => rfl)) pa_nil))))) (pa_cons (pe_lst (pa_cons (pv 1) (pa_cons (pv 2) (pa_cons (pv 3) (pa_cons (pe_ix (r := rIxL K) ix_list (pv 4) pe_int (fun _ _ => rfl)) (pa_cons pe_bl (pa_cons pe_bl pa_nil))))))) pa_nil))))) (pss_nil))
      (pss_cons (ps_if (pt_cmpR op_eq (pv 5) pe_int (nomark _)) (pss_one (ps_ret (pe_tup (pa_cons (pe_make (W.m_Marks_init.mk' W.c_Marks) G_Marks_init hr2 rfl W.c_Marks.m W.b1_Marks_init (show Vals [.bl false] [.bool false] from (.cons rfl .nil)) pass0 (pa_cons (pv 1) (pa_cons (pv 2) (pa_cons (pv 3) (pa_cons (pe_ix (r := rIxL K) ix_list (pv 4) pe_int (fun _ _ => rfl)) (pa_cons (pe_ix (r := rIxL K) ix_list (pv 4) pe_int (fun _ _ => rfl)) pa_nil)))))) (pa_cons (pe_lst (pa_cons (pv 1) (pa_cons (pv 2) (pa_cons (pv 3) (pa_cons (pe_ix (r := rIxL K) ix_list (pv 4) pe_int (fun _ _ => rfl)) (pa_cons (pe_ix (r := rIxL K) ix_list (pv 4) pe_int (fun _ _ => rfl)) (pa_cons pe_bl pa_nil))))))) pa_nil))))) (pss_nil))
      (pss_cons (ps_if (pt_cmpR op_eq (pv 5) pe_int (nomark _)) (pss_one (ps_ret (pe_tup (pa_cons (pe_make (W.m_Marks_init.mk' W.c_Marks) G_Marks_init hr2 rfl W.c_Marks.m W.b3_Marks_init (show Vals [.bl false, .bl false, .bl false] [.bool false, .bool false, .bool false] from (.cons rfl (.cons rfl (.cons rfl .nil)))) pass0 (pa_cons (pv 1) (pa_cons (pv 2) (pa_cons (pv 3) pa_nil)))) (pa_cons (pe_lst (pa_cons (pv 1) (pa_cons (pv 2) (pa_cons (pv 3) (pa_cons pe_bl (pa_cons pe_bl (pa_cons pe_bl pa_nil))))))) pa_nil))))) (pss_nil))
      (pss_cons (ps_if (pt_cmpR op_eq (pv 5) pe_int (nomark _)) (pss_one (ps_ret (pe_tup (pa_cons (pe_make (W.m_Marks_init.mk' W.c_Marks) G_Marks_init hr2 rfl W.c_Marks.m W.m_Marks_init.b .nil pass0 (pa_cons (pv 1) (pa_cons (pv 2) (pa_cons (pv 3) (pa_cons (pe_ix (r := rIxL K) ix_list (pv 4) pe_int (fun _ _ => rfl)) (pa_cons (pe_ix (r := rIxL K) ix_list (pv 4) pe_int (fun _ _ => rfl)) (pa_cons (pe_ix (r := rIxL K) ix_list (pv 4) pe_int (fun _ _ => rfl)) pa_nil))))))) (pa_cons (pe_op op_cat (pe_lst (pa_cons (pv 1) (pa_cons (pv 2) (pa_cons (pv 3) pa_nil)))) (pv 4)) pa_nil))))) (pss_nil))
      (pss_cons (ps_if (pt_cmpR op_eq (pv 5) pe_int (nomark _)) (pss_cons (ps_set (i := 6) sc__law_marks_by.nd rfl (Or.inl rfl) (pe_makeK0 (W.m_Marks_init.mk' W.c_Marks) G_Marks_init hr2 rfl W.c_Marks.m W.kb_Marks_0_lone_once_member_most_needs_kind pass0 (pk_cons (pe_ix (r := rIxL K) ix_list (pv 4) pe_int (fun _ _ => rfl)) (pk_cons (pe_ix (r := rIxL K) ix_list (pv 4) pe_int (fun _ _ => rfl)) (pk_cons (pe_ix (r := rIxL K) ix_list (pv 4) pe_int (fun _ _ => rfl)) (pk_cons (pv 3) (pk_cons (pv 2) (pk_cons (pv 1) pk_nil))))))))
      (pss_one (ps_ret (pe_tup (pa_cons (pv 6) (pa_cons (pe_op op_cat (pe_lst (pa_cons (pv 1) (pa_cons (pv 2) (pa_cons (pv 3) pa_nil)))) (pv 4)) pa_nil)))))) (pss_nil))
      (pss_one (ps_ret (pe_call G__law_one_named hr rfl W.d__law_one_named.m W.d__law_one_named.F.kp W.d__law_one_named.b .nil pass0 (pa_cons (pv 1) (pa_cons (pv 2) (pa_cons (pv 3) (pa_cons (pv 4) (pa_cons (pe_op op_mod (pe_op op_fdiv (pv 0) pe_int) pe_int) pa_nil)))))))))))))))))))), ?_⟩
    -- the kind
    refine ⟨fun v H' => H' = H ∧ ∃ kd : Option Nat, v = pV kd, ?_, ?_⟩
    · refine ⟨_, rfl, _, _, rfl, rfl, (by show (0 : Int) < 2; decide), rfl, _, rfl, ite2 (fun _ => ⟨rfl, none, rfl⟩) (fun _ => ?_)⟩
      refine ⟨_, rfl, _, _, rfl, rfl, ⟨by decide, by decide⟩, _, _, rfl, rfl, (by show (0 : Int) < 20; decide), rfl, some (c / 2 % 20).toNat, ?_⟩
      show V.int _ = V.int _
      rw [Int.toNat_of_nonneg (by omega)]
    rintro v H0 ⟨rfl, kd, rfl⟩
    -- needs
    refine ⟨_, rfl, _, _, _, rfl, ⟨by decide, by decide⟩, by decide, _, rfl, fun H1 s1 => ?_⟩
    generalize coinF _ = z
    -- most
    refine ⟨fun v H' => Same H0 H' ∧ ∃ m : Option Int, v = oV m, ?_, ?_⟩
    · refine ⟨_, rfl, _, _, rfl, rfl, ⟨by decide, by decide⟩, _, _, rfl, rfl, (by show (0 : Int) < 3; decide), rfl, _, rfl, ite2 (fun _ => ⟨s1, none, rfl⟩) (fun _ => ?_)⟩
      exact ⟨_, rfl, _, _, _, rfl, ⟨by decide, by decide⟩, by decide, _, rfl, fun H2 s2 => ⟨s1.trans s2, some _, rfl⟩⟩
    rintro v H2 ⟨s2, m, rfl⟩
    -- bits
    refine ⟨_, rfl, _, _, rfl, rfl, ⟨by decide, by decide⟩, _, _, rfl, rfl, (by show (0 : Int) < 2; decide), rfl, _, rfl, _, _, rfl, rfl, ⟨by decide, by decide⟩, _, _, rfl, rfl, (by show (0 : Int) < 2; decide), rfl, _, rfl, _, _, rfl, rfl, ⟨by decide, by decide⟩, _, _, rfl, rfl, (by show (0 : Int) < 2; decide), rfl, (by show 3 ≤ sizeLine; decide), fun bl hbl => ?_⟩
    generalize decide (V.int (c / 6 % 2) = V.int 1) = b0
    generalize decide (V.int (c / 12 % 2) = V.int 1) = b1
    generalize decide (V.int (c / 24 % 2) = V.int 1) = b2
    have s3 := s2.trans (same_new (o := .lst [.bl b0, .bl b1, .bl b2]) hbl)
    have hb : (upd H2 bl (.lst [.bl b0, .bl b1, .bl b2])) bl = some (.lst [.bl b0, .bl b1, .bl b2]) := upd_same
    generalize upd H2 bl (.lst [.bl b0, .bl b1, .bl b2]) = H3 at *
    refine ⟨_, rfl, _, _, rfl, rfl, ⟨by decide, by decide⟩, _, _, rfl, rfl, (by show (0 : Int) < 9; decide), ?_⟩
    have fin : ∀ {H4 : Hp} {x : Addr} {M : Mks}, Same H3 H4 → MksIs d.c_Marks H4 x M → ∀ p, H4 p = none → ∀ t, (upd H4 p (.lst (mkV M))) t = none → Q (.ref t) (upd (upd H4 p (.lst (mkV M))) t (.tup [.ref x, .ref p])) := fun {H4 x M} s4 hM p hp t ht =>
      k _ t x p M ((s3.trans s4).trans ((same_new hp).trans (same_new ht))) upd_same (hM.same ((same_new hp).trans (same_new ht))) (same_new ht _ _ upd_same)
    have six : 6 ≤ sizeLine := by decide
    have two : 2 ≤ sizeLine := by decide
    have three : 3 ≤ sizeLine := by decide
    refine ⟨_, rfl, rfl, _, rfl, ite2 (fun _ => ?_) (fun _ => ?_)⟩
    · exact mk_marks (M := mks0) fun H4 x s4 f4 hM => ⟨six, fun p hp => ⟨two, fin s4 hM p hp⟩⟩
    refine ⟨_, rfl, rfl, _, rfl, ite2 (fun _ => ?_) (fun _ => ?_)⟩
    · exact ⟨_, rfl, mk_marks (M := ⟨kd, 0, none, false, false, false⟩) fun H4 x s4 f4 hM => ⟨_, rfl, six, fun p hp => ⟨two, fin s4 hM p hp⟩⟩⟩
    refine ⟨_, rfl, rfl, _, rfl, ite2 (fun _ => ?_) (fun _ => ?_)⟩
    · exact ⟨_, rfl, _, rfl, mk_marks (M := ⟨kd, z, none, false, false, false⟩) fun H4 x s4 f4 hM => ⟨_, rfl, _, rfl, six, fun p hp => ⟨two, fin s4 hM p hp⟩⟩⟩
    refine ⟨_, rfl, rfl, _, rfl, ite2 (fun _ => ?_) (fun _ => ?_)⟩
    · exact ⟨_, rfl, _, rfl, _, rfl, _, rfl, bl, _, _, _, rfl, rfl, SqL.of hb, rfl, mk_marks (M := ⟨kd, z, m, b0, false, false⟩) fun H4 x s4 f4 hM => ⟨_, rfl, _, rfl, _, rfl, _, rfl, bl, _, _, _, rfl, rfl, SqL.of (s4 _ _ hb), rfl, six, fun p hp => ⟨two, fin s4 hM p hp⟩⟩⟩
    refine ⟨_, rfl, rfl, _, rfl, ite2 (fun _ => ?_) (fun _ => ?_)⟩
    · exact ⟨_, rfl, _, rfl, _, rfl, _, rfl, bl, _, _, _, rfl, rfl, SqL.of hb, rfl, _, rfl, bl, _, _, _, rfl, rfl, SqL.of hb, rfl, mk_marks (M := ⟨kd, z, m, b0, b1, false⟩) fun H4 x s4 f4 hM => ⟨_, rfl, _, rfl, _, rfl, _, rfl, bl, _, _, _, rfl, rfl, SqL.of (s4 _ _ hb), rfl, _, rfl, bl, _, _, _, rfl, rfl, SqL.of (s4 _ _ hb), rfl, six, fun p hp => ⟨two, fin s4 hM p hp⟩⟩⟩
    refine ⟨_, rfl, rfl, _, rfl, ite2 (fun _ => ?_) (fun _ => ?_)⟩
    · exact ⟨_, rfl, _, rfl, _, rfl, mk_marks (M := ⟨kd, z, m, false, false, false⟩) fun H4 x s4 f4 hM => ⟨_, rfl, _, rfl, _, rfl, six, fun p hp => ⟨two, fin s4 hM p hp⟩⟩⟩
    refine ⟨_, rfl, rfl, _, rfl, ite2 (fun _ => ?_) (fun _ => ?_)⟩
    · refine ⟨_, rfl, _, rfl, _, rfl, _, rfl, bl, _, _, _, rfl, rfl, SqL.of hb, rfl, _, rfl, bl, _, _, _, rfl, rfl, SqL.of hb, rfl, _, rfl, bl, _, _, _, rfl, rfl, SqL.of hb, rfl, mk_marks (M := ⟨kd, z, m, b0, b1, b2⟩) fun H4 x s4 f4 hM => ?_⟩
      refine ⟨_, rfl, _, rfl, _, rfl, three, fun l1 hl1 => ?_⟩
      have s5 := same_new (o := .lst [pV kd, .int z, oV m]) hl1
      exact ⟨_, rfl, l1, bl, _, _, rfl, rfl, upd_same, s5 _ _ (s4 _ _ hb), six, fun p hp => ⟨two, fin (s4.trans s5) (hM.same s5) p hp⟩⟩
    refine ⟨_, rfl, rfl, _, rfl, ite2 (fun _ => ?_) (fun _ => ?_)⟩
    · refine ⟨_, rfl, bl, _, _, _, rfl, rfl, SqL.of hb, rfl, _, rfl, bl, _, _, _, rfl, rfl, SqL.of hb, rfl, _, rfl, bl, _, _, _, rfl, rfl, SqL.of hb, rfl, _, rfl, _, rfl, _, rfl, mk_marks (M := ⟨kd, z, m, b0, b1, b2⟩) fun H4 x s4 f4 hM => ?_⟩
      refine ⟨_, rfl, _, rfl, _, rfl, _, rfl, three, fun l1 hl1 => ?_⟩
      have s5 := same_new (o := .lst [pV kd, .int z, oV m]) hl1
      exact ⟨_, rfl, l1, bl, _, _, rfl, rfl, upd_same, s5 _ _ (s4 _ _ hb), six, fun p hp => ⟨two, fin (s4.trans s5) (hM.same s5) p hp⟩⟩
    refine ⟨_, rfl, _, rfl, _, rfl, _, rfl, _, rfl, _, _, rfl, rfl, ⟨by decide, by decide⟩, _, _, rfl, rfl, (by show (0 : Int) < 6; decide), kd, z, m, bl, b0, b1, b2, _, rfl, hb, by omega, by omega, fun H4 t x p M s4 a1 a2 a3 => k H4 t x p M (s3.trans s4) a1 a2 a3⟩
def shF (c : Int) : Int := [1, 1000, 1 + c / 10 % 1000].getD (c / 5 % 3).toNat 0
def byF (c : Int) (j : Nat) : Bool := (j == 1 || j == 2) && decide (c / 35 % 2 = 1)
def amF (c : Int) : Int := coinF (c * 69621 % 2147483629)
def soF (c : Int) (j : Nat) : Srt := if c % 5 = 0 then .off (amF c) else if c % 5 = 1 then .share (shF c) (byF c j) else if c % 5 = 2 then .cheap (2 + c / 5 % 19) else if c % 5 = 3 then .bund (2 + c / 5 % 19) (amF c) else .carr
def msF (M : Mks) (j : Nat) : Mks := if j < 2 then mks0 else M
def spMadeK (d : D) : Sp := fun vs H Q _ => ∃ (c : Int) (o : Addr) (j : Nat) (M : Mks), vs = [.int c, .ref o, .int (j : Nat)] ∧ MksIs d.c_Marks H o M ∧ j < 4 ∧ ∀ (H' : Hp) (v : Addr), Same H H' → VchIs d H' v ⟨soF c j, msF M j⟩ → Q (.ref v) H'
theorem sc__law_made : FnScope ["_law_cell", "_law_own", "_law_how", "_law_sort", "_law_amount", "_law_many", "_law_share", "_law_by", "_law_some"] ["_law_cell", "_law_own", "_law_how"] (defScope s__law_made) := ⟨rfl, rfl, rfl, by decide +kernel, rfl, by decide +kernel, by decide +kernel⟩
theorem ok__law_made (W : Wld K mg d) : FnOk P w K mg base CX0 6 d.f__law_made d.fd__law_made ["_law_cell", "_law_own", "_law_how"] (spMadeK d) := by
  refine FunD.ok W.d__law_made.F sc__law_made (fun vs H Q E h => ?_) (fun cdv A outer s H vs Q E hr h => ?_)
  · obtain ⟨c, o, j, M, rfl, _⟩ := h
    rfl
  · obtain ⟨c, o, j, M, rfl, hM, hj, k⟩ := h
    have G__law_coin := ok__law_coin (P := P) (w := w) (base := base) W
    have G__law_mix := ok__law_mix (P := P) (w := w) (base := base) W
    have G_Off_init := ok_Off_init (P := P) (w := w) (base := base) W
    have G_Share_init := ok_Share_init (P := P) (w := w) (base := base) W
    have G_Cheapest_init := ok_Cheapest_init (P := P) (w := w) (base := base) W
    have G_Bundle_init := ok_Bundle_init (P := P) (w := w) (base := base) W
    have G_Carriage_init := ok_Carriage_init (P := P) (w := w) (base := base) W
    have hr1 : Room 1 _ := hr.mono (by decide)
    refine ⟨_, pss_cons (ps_set (i := 3) sc__law_made.nd rfl (Or.inl rfl) (pe_op op_mod (pv 0) pe_int))
      (pss_cons (ps_set (i := 4) sc__law_made.nd rfl (Or.inl rfl) (pe_call G__law_coin hr1 rfl W.d__law_coin.m W.d__law_coin.F.kp W.d__law_coin.b .nil pass0 (pa_cons (pe_call G__law_mix hr1 rfl W.d__law_mix.m W.d__law_mix.F.kp W.d__law_mix.b .nil pass0 (pa_cons (pv 0) (pa_cons pe_int (pa_cons pe_int pa_nil)))) pa_nil)))
      (pss_cons (ps_set (i := 5) sc__law_made.nd rfl (Or.inl rfl) (pe_op op_add pe_int (pe_op op_mod (pe_op op_fdiv (pv 0) pe_int) pe_int)))
      (pss_cons (ps_set (i := 6) sc__law_made.nd rfl (Or.inl rfl) (pe_ix (r := rIxL K) ix_list (pe_lst (pa_cons pe_int (pa_cons pe_int (pa_cons (pe_op op_add pe_int (pe_op op_mod (pe_op op_fdiv (pv 0) pe_int) pe_int)) pa_nil)))) (pe_op op_mod (pe_op op_fdiv (pv 0) pe_int) pe_int) (fun _ _ => rfl)))
      (pss_cons (ps_if (pt_cmpR op_eq (pv 3) pe_int (nomark _)) (pss_one (ps_ret (pe_ix (r := rIxL K) ix_list (pe_lst (pa_cons (pe_make (W.m_Off_init.mk' W.c_Off) G_Off_init hr rfl W.c_Off.m W.b1_Off_init (show Vals [.non] [.none] from (.cons rfl .nil)) pass0 (pa_cons (pv 4) pa_nil)) (pa_cons (pe_make (W.m_Off_init.mk' W.c_Off) G_Off_init hr rfl W.c_Off.m W.m_Off_init.b .nil pass0 (pa_cons (pv 4) (pa_cons pe_non pa_nil))) (pa_cons (pe_make (W.m_Off_init.mk' W.c_Off) G_Off_init hr rfl W.c_Off.m W.m_Off_init.b .nil pass0 (pa_cons (pv 4) (pa_cons (pv 1) pa_nil))) (pa_cons (pe_makeK (W.m_Off_init.mk' W.c_Off) G_Off_init hr rfl W.c_Off.m W.kb_Off_1_marks pass0 (pa_cons (pv 4) pa_nil) (pk_cons (pv 1) pk_nil)) pa_nil))))) (pv 2) (fun _ _ => rfl)))) (pss_nil))
      (pss_cons (ps_if (pt_cmpR op_eq (pv 3) pe_int (nomark _)) (pss_cons (ps_set (i := 7) sc__law_made.nd rfl (Or.inl rfl) (pe_cmpR op_eq (pe_op op_mod (pe_op op_fdiv (pv 0) pe_int) pe_int) pe_int (nomark _)))
      (pss_one (ps_ret (pe_ix (r := rIxL K) ix_list (pe_lst (pa_cons (pe_make (W.m_Share_init.mk' W.c_Share) G_Share_init hr rfl W.c_Share.m W.b2_Share_init (show Vals [.bl false, .non] [.bool false, .none] from (.cons rfl (.cons rfl .nil))) pass0 (pa_cons (pv 6) pa_nil)) (pa_cons (pe_make (W.m_Share_init.mk' W.c_Share) G_Share_init hr rfl W.c_Share.m W.b1_Share_init (show Vals [.non] [.none] from (.cons rfl .nil)) pass0 (pa_cons (pv 6) (pa_cons (pv 7) pa_nil))) (pa_cons (pe_make (W.m_Share_init.mk' W.c_Share) G_Share_init hr rfl W.c_Share.m W.m_Share_init.b .nil pass0 (pa_cons (pv 6) (pa_cons (pv 7) (pa_cons (pv 1) pa_nil)))) (pa_cons (pe_makeK (W.m_Share_init.mk' W.c_Share) G_Share_init hr rfl W.c_Share.m W.kb_Share_1_marks pass0 (pa_cons (pv 6) pa_nil) (pk_cons (pv 1) pk_nil)) pa_nil))))) (pv 2) (fun _ _ => rfl))))) (pss_nil))
      (pss_cons (ps_if (pt_cmpR op_eq (pv 3) pe_int (nomark _)) (pss_one (ps_ret (pe_ix (r := rIxL K) ix_list (pe_lst (pa_cons (pe_make (W.m_Cheapest_init.mk' W.c_Cheapest) G_Cheapest_init hr rfl W.c_Cheapest.m W.b1_Cheapest_init (show Vals [.non] [.none] from (.cons rfl .nil)) pass0 (pa_cons (pv 5) pa_nil)) (pa_cons (pe_make (W.m_Cheapest_init.mk' W.c_Cheapest) G_Cheapest_init hr rfl W.c_Cheapest.m W.m_Cheapest_init.b .nil pass0 (pa_cons (pv 5) (pa_cons pe_non pa_nil))) (pa_cons (pe_make (W.m_Cheapest_init.mk' W.c_Cheapest) G_Cheapest_init hr rfl W.c_Cheapest.m W.m_Cheapest_init.b .nil pass0 (pa_cons (pv 5) (pa_cons (pv 1) pa_nil))) (pa_cons (pe_makeK (W.m_Cheapest_init.mk' W.c_Cheapest) G_Cheapest_init hr rfl W.c_Cheapest.m W.kb_Cheapest_1_marks pass0 (pa_cons (pv 5) pa_nil) (pk_cons (pv 1) pk_nil)) pa_nil))))) (pv 2) (fun _ _ => rfl)))) (pss_nil))
      (pss_cons (ps_if (pt_cmpR op_eq (pv 3) pe_int (nomark _)) (pss_cons (ps_set (i := 8) sc__law_made.nd rfl (Or.inl rfl) (pe_lst (pa_cons (pe_make (W.m_Bundle_init.mk' W.c_Bundle) G_Bundle_init hr rfl W.c_Bundle.m W.b1_Bundle_init (show Vals [.non] [.none] from (.cons rfl .nil)) pass0 (pa_cons (pv 5) (pa_cons (pv 4) pa_nil))) (pa_cons (pe_make (W.m_Bundle_init.mk' W.c_Bundle) G_Bundle_init hr rfl W.c_Bundle.m W.m_Bundle_init.b .nil pass0 (pa_cons (pv 5) (pa_cons (pv 4) (pa_cons pe_non pa_nil)))) (pa_cons (pe_make (W.m_Bundle_init.mk' W.c_Bundle) G_Bundle_init hr rfl W.c_Bundle.m W.m_Bundle_init.b .nil pass0 (pa_cons (pv 5) (pa_cons (pv 4) (pa_cons (pv 1) pa_nil)))) pa_nil)))))
      (pss_one (ps_ret (pe_ix (r := rIxL K) ix_list (pe_op op_cat (pv 8) (pe_lst (pa_cons (pe_makeK (W.m_Bundle_init.mk' W.c_Bundle) G_Bundle_init hr rfl W.c_Bundle.m W.kb_Bundle_2_marks pass0 (pa_cons (pv 5) (pa_cons (pv 4) pa_nil)) (pk_cons (pv 1) pk_nil)) pa_nil))) (pv 2) (fun _ _ => rfl))))) (pss_nil))
      (pss_one (ps_ret (pe_ix (r := rIxL K) ix_list (pe_lst (pa_cons (pe_make0 (W.m_Carriage_init.mk' W.c_Carriage) G_Carriage_init hr rfl W.c_Carriage.m W.b1_Carriage_init (show Vals [.non] [.none] from (.cons rfl .nil)) pass0) (pa_cons (pe_make (W.m_Carriage_init.mk' W.c_Carriage) G_Carriage_init hr rfl W.c_Carriage.m W.m_Carriage_init.b .nil pass0 (pa_cons pe_non pa_nil)) (pa_cons (pe_make (W.m_Carriage_init.mk' W.c_Carriage) G_Carriage_init hr rfl W.c_Carriage.m W.m_Carriage_init.b .nil pass0 (pa_cons (pv 1) pa_nil)) (pa_cons (pe_makeK0 (W.m_Carriage_init.mk' W.c_Carriage) G_Carriage_init hr rfl W.c_Carriage.m W.kb_Carriage_0_marks pass0 (pk_cons (pv 1) pk_nil)) pa_nil))))) (pv 2) (fun _ _ => rfl))))))))))), ?_⟩
    have four : 4 ≤ sizeLine := by decide
    have three : 3 ≤ sizeLine := by decide
    have one : 1 ≤ sizeLine := by decide
    refine ⟨_, rfl, _, _, rfl, rfl, (by show (0 : Int) < 5; decide), ?_⟩
    refine ⟨_, rfl, _, _, _, rfl, ⟨by decide, by decide⟩, by decide, _, rfl, fun H1 s1 => ?_⟩
    refine ⟨_, rfl, _, _, rfl, rfl, ⟨by decide, by decide⟩, _, _, rfl, rfl, (by show (0 : Int) < 19; decide), _, _, rfl, rfl, ?_⟩
    refine ⟨_, rfl, _, _, rfl, rfl, ⟨by decide, by decide⟩, _, _, rfl, rfl, (by show (0 : Int) < 1000; decide), _, _, rfl, rfl, three, fun l hl => ?_⟩
    have s2 := s1.trans (same_new (o := .lst [.int 1, .int 1000, .int (1 + c / 10 % 1000)]) hl)
    refine ⟨_, rfl, _, _, rfl, rfl, ⟨by decide, by decide⟩, _, _, rfl, rfl, (by show (0 : Int) < 3; decide), l, _, _, _, rfl, rfl, SqL.of upd_same, pickD (zs := [1, 1000, 1 + c / 10 % 1000]) (by omega) (by show _ < (3 : Int); omega), ?_⟩
    have hM2 := hM.same s2
    generalize upd H1 l (.lst [.int 1, .int 1000, .int (1 + c / 10 % 1000)]) = H2 at *
    -- one of four
    have fin : ∀ {H6 : Hp} {v0 v1 v2 v3 : Addr} {so0 so1 so2 so3 : Srt} {q : Addr}, Same H2 H6 → VchIs d H6 v0 ⟨so0, mks0⟩ → VchIs d H6 v1 ⟨so1, mks0⟩ → VchIs d H6 v2 ⟨so2, M⟩ → VchIs d H6 v3 ⟨so3, M⟩ → so0 = soF c 0 → so1 = soF c 1 → so2 = soF c 2 → so3 = soF c 3 →
        H6 q = some (.lst [.ref v0, .ref v1, .ref v2, .ref v3]) → ∃ v, atI ([.ref v0, .ref v1, .ref v2, .ref v3] : List V) (j : Int) = some v ∧ Q v H6 := fun {H6 v0 v1 v2 v3 so0 so1 so2 so3 q} s6 h0 h1 h2 h3 e0 e1 e2 e3 _ => by
      subst e0 e1 e2 e3
      match j, hj with
      | 0, _ => exact ⟨_, rfl, k H6 v0 (s2.trans s6) h0⟩
      | 1, _ => exact ⟨_, rfl, k H6 v1 (s2.trans s6) h1⟩
      | 2, _ => exact ⟨_, rfl, k H6 v2 (s2.trans s6) h2⟩
      | 3, _ => exact ⟨_, rfl, k H6 v3 (s2.trans s6) h3⟩
      | n + 4, h => omega
    refine ⟨_, rfl, rfl, _, rfl, ?_⟩
    rw [eqInt]
    refine ite2 (fun h => ?_) (fun h => ?_)
    · have h0 : c % 5 = 0 := of_decide_eq_true h
      have es : ∀ i, Srt.off (amF c) = soF c i := fun i => by
        unfold soF
        rw [if_pos h0]
      refine ⟨_, rfl, mk_vch0 (so := .off (amF c)) ⟨_, rfl⟩ rfl fun H3 v0 s3 f3 w0 => ?_⟩
      refine ⟨_, rfl, mk_vch0 (so := .off (amF c)) ⟨_, rfl⟩ rfl fun H4 v1 s4 f4 w1 => ?_⟩
      refine ⟨_, rfl, _, rfl, mk_vch (so := .off (amF c)) ⟨_, rfl⟩ rfl ((hM2.same s3).same s4) fun H5 v2 s5 f5 w2 => ?_⟩
      refine ⟨_, rfl, _, rfl, mk_vch (so := .off (amF c)) ⟨_, rfl⟩ rfl (((hM2.same s3).same s4).same s5) fun H6 v3 s6 f6 w3 => ?_⟩
      refine ⟨four, fun q hq => ?_⟩
      have s7 := same_new (o := .lst [V.ref v0, V.ref v1, V.ref v2, V.ref v3]) hq
      obtain ⟨v, ev, qv⟩ := fin (((s3.trans s4).trans (s5.trans s6)).trans s7) (w0.same ((s4.trans (s5.trans s6)).trans s7)) (w1.same ((s5.trans s6).trans s7)) (w2.same (s6.trans s7)) (w3.same s7) (es 0) (es 1) (es 2) (es 3) upd_same
      exact ⟨_, rfl, q, _, _, v, rfl, rfl, SqL.of upd_same, ev, qv⟩
    have n0 : ¬ c % 5 = 0 := fun z => h (decide_eq_true z)
    refine ⟨_, rfl, rfl, _, rfl, ?_⟩
    rw [eqInt]
    refine ite2 (fun h => ?_) (fun h => ?_)
    · have h0 : c % 5 = 1 := of_decide_eq_true h
      have es : ∀ i, Srt.share (shF c) (byF c i) = soF c i := fun i => by
        unfold soF
        rw [if_neg n0, if_pos h0]
      refine ⟨_, rfl, _, _, rfl, rfl, ⟨by decide, by decide⟩, _, _, rfl, rfl, (by show (0 : Int) < 2; decide), rfl, ?_⟩
      have eb : decide (V.int (c / 35 % 2) = V.int 1) = decide (c / 35 % 2 = 1) := eqInt _ _
      rw [eb]
      have y1 : byF c 1 = decide (c / 35 % 2 = 1) := rfl
      have y2 : byF c 2 = decide (c / 35 % 2 = 1) := rfl
      refine ⟨_, rfl, mk_vch0 (so := .share (shF c) false) ⟨_, _, rfl⟩ rfl fun H3 v0 s3 f3 w0 => ?_⟩
      refine ⟨_, rfl, _, rfl, mk_vch0 (so := .share (shF c) (byF c 1)) ⟨_, _, rfl⟩ rfl fun H4 v1 s4 f4 w1 => ?_⟩
      refine ⟨_, rfl, _, rfl, _, rfl, mk_vch (so := .share (shF c) (byF c 2)) ⟨_, _, rfl⟩ rfl ((hM2.same s3).same s4) fun H5 v2 s5 f5 w2 => ?_⟩
      refine ⟨_, rfl, _, rfl, mk_vch (so := .share (shF c) false) ⟨_, _, rfl⟩ rfl (((hM2.same s3).same s4).same s5) fun H6 v3 s6 f6 w3 => ?_⟩
      refine ⟨four, fun q hq => ?_⟩
      have s7 := same_new (o := .lst [V.ref v0, V.ref v1, V.ref v2, V.ref v3]) hq
      obtain ⟨v, ev, qv⟩ := fin (((s3.trans s4).trans (s5.trans s6)).trans s7) (w0.same ((s4.trans (s5.trans s6)).trans s7)) (w1.same ((s5.trans s6).trans s7)) (w2.same (s6.trans s7)) (w3.same s7) (es 0) (es 1) (es 2) (es 3) upd_same
      exact ⟨_, rfl, q, _, _, v, rfl, rfl, SqL.of upd_same, ev, qv⟩
    have n1 : ¬ c % 5 = 1 := fun z => h (decide_eq_true z)
    refine ⟨_, rfl, rfl, _, rfl, ?_⟩
    rw [eqInt]
    refine ite2 (fun h => ?_) (fun h => ?_)
    · have h0 : c % 5 = 2 := of_decide_eq_true h
      have es : ∀ i, Srt.cheap (2 + c / 5 % 19) = soF c i := fun i => by
        unfold soF
        rw [if_neg n0, if_neg n1, if_pos h0]
      refine ⟨_, rfl, mk_vch0 (so := .cheap (2 + c / 5 % 19)) ⟨_, rfl⟩ rfl fun H3 v0 s3 f3 w0 => ?_⟩
      refine ⟨_, rfl, mk_vch0 (so := .cheap (2 + c / 5 % 19)) ⟨_, rfl⟩ rfl fun H4 v1 s4 f4 w1 => ?_⟩
      refine ⟨_, rfl, _, rfl, mk_vch (so := .cheap (2 + c / 5 % 19)) ⟨_, rfl⟩ rfl ((hM2.same s3).same s4) fun H5 v2 s5 f5 w2 => ?_⟩
      refine ⟨_, rfl, _, rfl, mk_vch (so := .cheap (2 + c / 5 % 19)) ⟨_, rfl⟩ rfl (((hM2.same s3).same s4).same s5) fun H6 v3 s6 f6 w3 => ?_⟩
      refine ⟨four, fun q hq => ?_⟩
      have s7 := same_new (o := .lst [V.ref v0, V.ref v1, V.ref v2, V.ref v3]) hq
      obtain ⟨v, ev, qv⟩ := fin (((s3.trans s4).trans (s5.trans s6)).trans s7) (w0.same ((s4.trans (s5.trans s6)).trans s7)) (w1.same ((s5.trans s6).trans s7)) (w2.same (s6.trans s7)) (w3.same s7) (es 0) (es 1) (es 2) (es 3) upd_same
      exact ⟨_, rfl, q, _, _, v, rfl, rfl, SqL.of upd_same, ev, qv⟩
    have n2 : ¬ c % 5 = 2 := fun z => h (decide_eq_true z)
    refine ⟨_, rfl, rfl, _, rfl, ?_⟩
    rw [eqInt]
    refine ite2 (fun h => ?_) (fun h => ?_)
    · have h0 : c % 5 = 3 := of_decide_eq_true h
      have es : ∀ i, Srt.bund (2 + c / 5 % 19) (amF c) = soF c i := fun i => by
        unfold soF
        rw [if_neg n0, if_neg n1, if_neg n2, if_pos h0]
      refine ⟨_, rfl, _, rfl, mk_vch0 (so := .bund (2 + c / 5 % 19) (amF c)) ⟨_, _, rfl⟩ rfl fun H3 v0 s3 f3 w0 => ?_⟩
      refine ⟨_, rfl, _, rfl, mk_vch0 (so := .bund (2 + c / 5 % 19) (amF c)) ⟨_, _, rfl⟩ rfl fun H4 v1 s4 f4 w1 => ?_⟩
      refine ⟨_, rfl, _, rfl, _, rfl, mk_vch (so := .bund (2 + c / 5 % 19) (amF c)) ⟨_, _, rfl⟩ rfl ((hM2.same s3).same s4) fun H5 v2 s5 f5 w2 => ?_⟩
      refine ⟨three, fun q1 hq1 => ?_⟩
      have s6 := same_new (o := .lst [V.ref v0, V.ref v1, V.ref v2]) hq1
      refine ⟨_, rfl, _, rfl, _, rfl, _, rfl, mk_vch (so := .bund (2 + c / 5 % 19) (amF c)) ⟨_, _, rfl⟩ rfl ((((hM2.same s3).same s4).same s5).same s6) fun H6 v3 s7 f7 w3 => ?_⟩
      refine ⟨one, fun q2 hq2 => ?_⟩
      have s8 := same_new (o := .lst [V.ref v3]) hq2
      refine ⟨q1, q2, _, _, rfl, rfl, (s7.trans s8) _ _ upd_same, upd_same, four, fun q hq => ?_⟩
      have s9 := s8.trans (same_new (o := .lst ([V.ref v0, V.ref v1, V.ref v2] ++ [V.ref v3])) hq)
      obtain ⟨v, ev, qv⟩ := fin (((s3.trans s4).trans (s5.trans s6)).trans (s7.trans s9)) (w0.same ((s4.trans (s5.trans s6)).trans (s7.trans s9))) (w1.same ((s5.trans s6).trans (s7.trans s9))) (w2.same (s6.trans (s7.trans s9))) (w3.same s9) (es 0) (es 1) (es 2) (es 3) upd_same
      exact ⟨_, rfl, q, _, _, v, rfl, rfl, SqL.of upd_same, ev, qv⟩
    have n3 : ¬ c % 5 = 3 := fun z => h (decide_eq_true z)
    have es : ∀ i, Srt.carr = soF c i := fun i => by
      unfold soF
      rw [if_neg n0, if_neg n1, if_neg n2, if_neg n3]
    refine mk_vch0 (so := .carr) (is := fun so => so = .carr) rfl rfl fun H3 v0 s3 f3 w0 => ?_
    refine mk_vch0 (so := .carr) (is := fun so => so = .carr) rfl rfl fun H4 v1 s4 f4 w1 => ?_
    refine ⟨_, rfl, mk_vch (so := .carr) (is := fun so => so = .carr) rfl rfl ((hM2.same s3).same s4) fun H5 v2 s5 f5 w2 => ?_⟩
    refine ⟨_, rfl, mk_vch (so := .carr) (is := fun so => so = .carr) rfl rfl (((hM2.same s3).same s4).same s5) fun H6 v3 s6 f6 w3 => ?_⟩
    refine ⟨four, fun q hq => ?_⟩
    have s7 := same_new (o := .lst [V.ref v0, V.ref v1, V.ref v2, V.ref v3]) hq
    obtain ⟨v, ev, qv⟩ := fin (((s3.trans s4).trans (s5.trans s6)).trans s7) (w0.same ((s4.trans (s5.trans s6)).trans s7)) (w1.same ((s5.trans s6).trans s7)) (w2.same (s6.trans s7)) (w3.same s7) (es 0) (es 1) (es 2) (es 3) upd_same
    exact ⟨_, rfl, q, _, _, v, rfl, rfl, SqL.of upd_same, ev, qv⟩
def askL (so : Srt) : List Bool := [ask_Off so, ask_Share so, ask_Cheapest so, ask_Bundle so, ask_Carriage so]
theorem askL_eq (c : Int) (j : Nat) : askL (soF c j) = (List.range 5).map fun (i : Nat) => decide ((i : Int) = c % 5) := by
  have h : c % 5 = 0 ∨ c % 5 = 1 ∨ c % 5 = 2 ∨ c % 5 = 3 ∨ c % 5 = 4 := by omega
  unfold soF
  rcases h with h | h | h | h | h <;> rw [h] <;> rfl
def spRightK (d : D) : Sp := fun vs H Q _ => ∃ (v : Addr) (c : Int) (j : Nat) (M : Mks), vs = [.ref v, .int c, .int (j : Nat)] ∧ j < 4 ∧ VchIs d H v ⟨soF c j, M⟩ ∧ ∀ H', Same H H' → Q (.bl true) H'
theorem sc__law_right : FnScope ["_law_voucher", "_law_cell", "_law_how", "_law_sort", "_law_amount", "_law_many", "_law_kinds", "_law_share"] ["_law_voucher", "_law_cell", "_law_how"] (defScope s__law_right) := ⟨rfl, rfl, rfl, by decide +kernel, rfl, by decide +kernel, by decide +kernel⟩
theorem ok__law_right (W : Wld K mg d) : FnOk P w K mg base CX0 2 d.f__law_right d.fd__law_right ["_law_voucher", "_law_cell", "_law_how"] (spRightK d) := by
  refine FunD.ok W.d__law_right.F sc__law_right (fun vs H Q E h => ?_) (fun cdv A outer s H vs Q E hr h => ?_)
  · obtain ⟨v, c, j, M, rfl, _⟩ := h
    rfl
  · obtain ⟨v, c, j, M, rfl, hj, hV, k⟩ := h
    have G__law_coin := ok__law_coin (P := P) (w := w) (base := base) W
    have G__law_mix := ok__law_mix (P := P) (w := w) (base := base) W
    have G__law_whole := ok__law_whole (P := P) (w := w) (base := base) W
    refine ⟨_, pss_cons (ps_set (i := 3) sc__law_right.nd rfl (Or.inr rfl) (pe_op op_mod (pv 1) pe_int))
      (pss_cons (ps_set (i := 4) sc__law_right.nd rfl (Or.inl rfl) (pe_call G__law_coin hr rfl W.d__law_coin.m W.d__law_coin.F.kp W.d__law_coin.b .nil pass0 (pa_cons (pe_call G__law_mix hr rfl W.d__law_mix.m W.d__law_mix.F.kp W.d__law_mix.b .nil pass0 (pa_cons (pv 1) (pa_cons pe_int (pa_cons pe_int pa_nil)))) pa_nil)))
      (pss_cons (ps_set (i := 5) sc__law_right.nd rfl (Or.inl rfl) (pe_op op_add pe_int (pe_op op_mod (pe_op op_fdiv (pv 1) pe_int) pe_int)))
      (pss_cons (ps_set (i := 6) sc__law_right.nd rfl (Or.inl rfl) (pe_lst (pa_cons (pe_callB call_isinst (by rfl) W.B.isi b_isi (pa_cons (pv 0) (pa_cons (pe_glob (v := .ref d.c_Off) (by rfl) W.c_Off.m rfl) pa_nil))) (pa_cons (pe_callB call_isinst (by rfl) W.B.isi b_isi (pa_cons (pv 0) (pa_cons (pe_glob (v := .ref d.c_Share) (by rfl) W.c_Share.m rfl) pa_nil))) (pa_cons (pe_callB call_isinst (by rfl) W.B.isi b_isi (pa_cons (pv 0) (pa_cons (pe_glob (v := .ref d.c_Cheapest) (by rfl) W.c_Cheapest.m rfl) pa_nil))) pa_nil)))))
      (pss_cons (ps_expr (pe_bm PySem.F.plainAttrs_list PySem.F.slot_list_extend PySem.F.type_list_extend mt_extend (pv 6) (pa_cons (pe_lst (pa_cons (pe_callB call_isinst (by rfl) W.B.isi b_isi (pa_cons (pv 0) (pa_cons (pe_glob (v := .ref d.c_Bundle) (by rfl) W.c_Bundle.m rfl) pa_nil))) (pa_cons (pe_callB call_isinst (by rfl) W.B.isi b_isi (pa_cons (pv 0) (pa_cons (pe_glob (v := .ref d.c_Carriage) (by rfl) W.c_Carriage.m rfl) pa_nil))) pa_nil))) pa_nil)))
      (pss_cons (ps_if (PW.pt (pw_or (pt_cmpR (op_neL hr.units0) (pv 6) (pe_comp (N := ["_law_k", "_law_sort"]) (CompScope.of (N := ["_law_k", "_law_sort"]) (cap := [none, some 3]) (defScope s__law_right).names ["_law_voucher", "_law_cell", "_law_how", "_law_sort", "_law_amount", "_law_many", "_law_kinds", "_law_share"] rfl rfl (by decide +kernel)) rfl (pi_range1 rfl W.B.range (pa_cons pe_int pa_nil)) (fun _ _ _ _ => pg_name (i := 0) (show (["_law_k", "_law_sort"] : List Str).Nodup by decide +kernel) rfl (Or.inl rfl)) (fun _ _ _ _ => (pe_cmpR op_eq (pv 0) (pv 1) (nomark _)))) (nomark _)) (pw_or1 (pt_not (pt_val (pe_callB call_isinst (by rfl) W.B.isi b_isi (pa_cons (pv 0) (pa_cons (pe_glob (v := .ref d.c_Voucher) (by rfl) W.c_Voucher.m rfl) pa_nil)))))))) (pss_one (ps_ret pe_bl)) (pss_nil))
      (pss_cons (ps_if (pt_cmpR op_eq (pv 3) pe_int (nomark _)) (pss_one (ps_ret (pe_and (pe_cmpR op_eq (pe_fld (pv 0) rfl) (pv 4) (nomark _)) (pe_one (pe_call G__law_whole hr rfl W.d__law_whole.m W.d__law_whole.F.kp W.d__law_whole.b .nil pass0 (pa_cons (pe_fld (pv 0) rfl) pa_nil)))))) (pss_nil))
      (pss_cons (ps_if (pt_cmpR op_eq (pv 3) pe_int (nomark _)) (pss_cons (ps_set (i := 7) sc__law_right.nd rfl (Or.inl rfl) (pe_ix (r := rIxL K) ix_list (pe_lst (pa_cons pe_int (pa_cons pe_int (pa_cons (pe_op op_add pe_int (pe_op op_mod (pe_op op_fdiv (pv 1) pe_int) pe_int)) pa_nil)))) (pe_op op_mod (pe_op op_fdiv (pv 1) pe_int) pe_int) (fun _ _ => rfl)))
      (pss_cons (ps_if (PW.pt (pw_or (pt_not (pt_val (pe_callB call_isinst (by rfl) W.B.isi b_isi (pa_cons (pe_fld (pv 0) rfl) (pa_cons (pe_bltn (v := .ty "bool") (by rfl) W.B.bool b_bool rfl) pa_nil))))) (pw_or1 (pt_cmpR op_ne (pe_fld (pv 0) rfl) (pe_and (pe_cmpR op_in_seq (pv 2) (pe_tup (pa_cons pe_int (pa_cons pe_int pa_nil))) (by with_unfolding_all rfl)) (pe_one (pe_cmpR op_eq (pe_op op_mod (pe_op op_fdiv (pv 1) pe_int) pe_int) pe_int (nomark _)))) (nomark _))))) (pss_one (ps_ret pe_bl)) (pss_nil))
      (pss_one (ps_ret (pe_cmpR op_eq (pe_fld (pv 0) rfl) (pv 7) (nomark _)))))) (pss_nil))
      (pss_cons (ps_if (pt_cmpR op_eq (pv 3) pe_int (nomark _)) (pss_one (ps_ret (pe_cmpR op_eq (pe_fld (pv 0) rfl) (pv 5) (nomark _)))) (pss_nil))
      (pss_one (ps_ret (pe_or (pe_cmpR op_eq (pv 3) pe_int (nomark _)) (pe_one (pe_and (pe_cmpR op_eq (pe_fld (pv 0) rfl) (pv 5) (nomark _)) (pe_one (pe_cmpR op_eq (pe_fld (pv 0) rfl) (pv 4) (nomark _)))))))))))))))), ?_⟩
    obtain ⟨mA, dxv, fsv, hv, lvm, hso, hM, hh⟩ := hV
    have I := isi_of W hh
    refine ⟨_, rfl, _, _, rfl, rfl, (by show (0 : Int) < 5; decide), ?_⟩
    refine ⟨_, rfl, _, _, _, rfl, ⟨by decide, by decide⟩, by decide, _, rfl, fun H1 s1 => ?_⟩
    refine ⟨_, rfl, _, _, rfl, rfl, ⟨by decide, by decide⟩, _, _, rfl, rfl, (by show (0 : Int) < 19; decide), _, _, rfl, rfl, ?_⟩
    have is : ∀ {H' : Hp}, Same H H' → TyOf K H' (.ref v) (.ref (clsOf d (soF c j))) := fun s' => TyOf.ins (s' _ _ hv) (cl_of W hh) I.ha I.hn I.ht I.hm
    refine ⟨_, rfl, _, _, _, _, rfl, .inr ⟨_, rfl⟩, is s1, kit_Off W hh, _, rfl, _, _, _, _, rfl, .inr ⟨_, rfl⟩, is s1, kit_Share W hh, _, rfl, _, _, _, _, rfl, .inr ⟨_, rfl⟩, is s1, kit_Cheapest W hh, (by show 3 ≤ sizeLine; decide), fun q1 hq1 => ?_⟩
    have s2 := s1.trans (same_new (o := .lst [V.bl (ask_Off (soF c j)), V.bl (ask_Share (soF c j)), V.bl (ask_Cheapest (soF c j))]) hq1)
    refine ⟨_, rfl, .inl ⟨rfl, _, SqL.of upd_same⟩, _, rfl, _, _, _, _, rfl, .inr ⟨_, rfl⟩, is s2, kit_Bundle W hh, _, rfl, _, _, _, _, rfl, .inr ⟨_, rfl⟩, is s2, kit_Carriage W hh, (by show 2 ≤ sizeLine; decide), fun q2 hq2 => ?_⟩
    have s3 := s2.trans (same_new (o := .lst [V.bl (ask_Bundle (soF c j)), V.bl (ask_Carriage (soF c j))]) hq2)
    have n12 : q1 ≠ q2 := ne_of_none (upd_same : (upd H1 q1 _) q1 = some _) hq2
    refine ⟨q1, q2, _, _, rfl, rfl, same_new hq2 _ _ upd_same, upd_same, (by show 5 ≤ sizeLine; decide), ?_⟩
    have hq0 : H q1 = none := none_of s1 hq1
    have s4 : Same H (upd (upd (upd H1 q1 (.lst [V.bl (ask_Off (soF c j)), V.bl (ask_Share (soF c j)), V.bl (ask_Cheapest (soF c j))])) q2 (.lst [V.bl (ask_Bundle (soF c j)), V.bl (ask_Carriage (soF c j))])) q1 (.lst ([V.bl (ask_Off (soF c j)), V.bl (ask_Share (soF c j)), V.bl (ask_Cheapest (soF c j))] ++ [V.bl (ask_Bundle (soF c j)), V.bl (ask_Carriage (soF c j))]))) := same_fresh hq0 s3
    have e4 : (upd (upd (upd H1 q1 (.lst [V.bl (ask_Off (soF c j)), V.bl (ask_Share (soF c j)), V.bl (ask_Cheapest (soF c j))])) q2 (.lst [V.bl (ask_Bundle (soF c j)), V.bl (ask_Carriage (soF c j))])) q1 (.lst ([V.bl (ask_Off (soF c j)), V.bl (ask_Share (soF c j)), V.bl (ask_Cheapest (soF c j))] ++ [V.bl (ask_Bundle (soF c j)), V.bl (ask_Carriage (soF c j))]))) q1 = some (.lst ((askL (soF c j)).map V.bl)) := upd_same
    generalize upd (upd (upd H1 q1 (.lst [V.bl (ask_Off (soF c j)), V.bl (ask_Share (soF c j)), V.bl (ask_Cheapest (soF c j))])) q2 (.lst [V.bl (ask_Bundle (soF c j)), V.bl (ask_Carriage (soF c j))])) q1 (.lst ([V.bl (ask_Off (soF c j)), V.bl (ask_Share (soF c j)), V.bl (ask_Cheapest (soF c j))] ++ [V.bl (ask_Bundle (soF c j)), V.bl (ask_Carriage (soF c j))])) = H4 at *
    -- the sort
    refine ⟨_, rfl, 5, rfl, by decide, by decide, comp_range (n := 5) (fun i σ ys H' => H' = H4 ∧ ys = ((List.range i).map fun (i : Nat) => decide ((i : Int) = c % 5)).map V.bl ∧ ∃ v0 : Option V, σ = [v0, some (.int (c % 5))]) ⟨rfl, rfl, none, rfl⟩ (by decide) (fun i σ ys H' _ h => by rw [h.2.1]; simp) ?_ ?_⟩
    · rintro i σ ys H' hi ⟨rfl, rfl, v0, rfl⟩
      refine ⟨_, rfl, _, rfl, rfl, rfl, ?_, _, rfl⟩
      rw [List.range_succ, List.map_append, List.map_append]
      show _ = _ ++ [V.bl (decide (((i : Nat) : Int) = c % 5))]
      rw [Int.zero_add, eqInt]
    rintro σ ys H' ⟨rfl, rfl, v0, rfl⟩ q3 hq3
    have s5 := same_new (o := .lst (((List.range 5).map fun (i : Nat) => decide ((i : Int) = c % 5)).map V.bl)) hq3
    refine ⟨q1, q3, _, _, rfl, rfl, SqL.of (s5 _ _ e4), SqL.of upd_same, flat_bools _, flat_bools _, _, rfl, ?_⟩
    rw [askL_eq, eqVs_refl (flat_bools _)]
    have s6 := s4.trans s5
    generalize upd H' q3 (.lst (((List.range 5).map fun (i : Nat) => decide ((i : Int) = c % 5)).map V.bl)) = H5 at *
    refine iteF ⟨_, rfl, _, _, _, _, rfl, .inr ⟨_, rfl⟩, is s6, kit_Voucher W hh, _, rfl, iteF ?_⟩
    have hv5 := s6 _ _ hv
    have k5 := k _ s6
    refine ⟨_, rfl, rfl, _, rfl, ?_⟩
    rw [eqInt]
    refine ite2 (fun h => ?_) (fun h => ?_)
    · have h0 : c % 5 = 0 := of_decide_eq_true h
      have es : soF c j = .off (amF c) := by
        unfold soF
        rw [if_pos h0]
      rw [es] at hv5 hso
      refine ⟨_, rfl, v, d.c_Off, dxv, fsv, _, rfl, hv5, W.c_Off.cl, W.n_Off_amount, hso, _, rfl, rfl, _, rfl, ?_⟩
      show if decide (V.int (amF c) = V.int (amF c)) = true then _ else _
      rw [show decide (V.int (amF c) = V.int (amF c)) = true by simp]
      exact iteT ⟨_, rfl, v, d.c_Off, dxv, fsv, _, rfl, hv5, W.c_Off.cl, W.n_Off_amount, hso, _, rfl, k5⟩
    have n0 : ¬ c % 5 = 0 := fun z => h (decide_eq_true z)
    refine ⟨_, rfl, rfl, _, rfl, ?_⟩
    rw [eqInt]
    refine ite2 (fun h => ?_) (fun h => ?_)
    · have h0 : c % 5 = 1 := of_decide_eq_true h
      have es : soF c j = .share (shF c) (byF c j) := by
        unfold soF
        rw [if_neg n0, if_pos h0]
      rw [es] at hv5 hso
      refine ⟨_, rfl, _, _, rfl, rfl, ⟨by decide, by decide⟩, _, _, rfl, rfl, (by show (0 : Int) < 1000; decide), _, _, rfl, rfl, (by show 3 ≤ sizeLine; decide), fun l hl => ?_⟩
      have s7 := same_new (o := .lst [.int 1, .int 1000, .int (1 + c / 10 % 1000)]) hl
      refine ⟨_, rfl, _, _, rfl, rfl, ⟨by decide, by decide⟩, _, _, rfl, rfl, (by show (0 : Int) < 3; decide), l, _, _, _, rfl, rfl, SqL.of upd_same, pickD (zs := [1, 1000, 1 + c / 10 % 1000]) (by omega) (by show _ < (3 : Int); omega), ?_⟩
      have hv6 := s7 _ _ hv5
      have s67 := s6.trans s7
      generalize upd H5 l (.lst [.int 1, .int 1000, .int (1 + c / 10 % 1000)]) = H6 at *
      refine ⟨_, rfl, v, d.c_Share, dxv, fsv, _, rfl, hv6, W.c_Share.cl, W.n_Share_by_line, hso.2, _, _, _, _, rfl, .inl ⟨_, rfl⟩, TyOf.bl _, kit_same _ _, _, rfl, iteF ?_⟩
      refine ⟨_, rfl, v, d.c_Share, dxv, fsv, _, rfl, hv6, W.c_Share.cl, W.n_Share_by_line, hso.2, _, rfl, (by show 2 ≤ sizeLine; decide), fun tp htp => ?_⟩
      have s8 := same_new (o := .tup [.int 1, .int 2]) htp
      have hv7 := s8 _ _ hv6
      have k7 := k _ (s67.trans s8)
      have e12 : inV (.int (j : Nat)) [.int 1, .int 2] = (j == 1 || j == 2) := by
        match j, hj with
        | 0, _ => rfl
        | 1, _ => rfl
        | 2, _ => rfl
        | 3, _ => rfl
        | n + 4, h => omega
      refine ⟨tp, _, rfl, .inr (SqT.of upd_same), rfl, rfl, _, rfl, ?_⟩
      rw [if_neg Bool.false_ne_true, e12]
      generalize upd H6 tp (.tup [.int 1, .int 2]) = H7 at *
      have last : ∀ b : Bool, b = byF c j → (∃ c' : Bool, L2.V.bl b = .bl c' ∧ _) := fun _ _ => ⟨_, rfl, trivial⟩
      clear last
      cases hb : (j == 1 || j == 2) with
      | false =>
        have ey : byF c j = false := by
          unfold byF
          rw [hb]
          rfl
        refine iteF ⟨rfl, _, rfl, ?_⟩
        rw [ey]
        show if (!decide (V.bl false = V.bl false)) = true then _ else _
        rw [show (!decide (V.bl false = V.bl false)) = false by simp]
        refine iteF ⟨_, rfl, v, d.c_Share, dxv, fsv, _, rfl, hv7, W.c_Share.cl, W.n_Share_share, hso.1, _, rfl, rfl, ?_⟩
        show Q (.bl (decide (V.int (shF c) = V.int (shF c)))) H7
        rw [show decide (V.int (shF c) = V.int (shF c)) = true by simp]
        exact k7
      | true =>
        have ey : byF c j = decide (c / 35 % 2 = 1) := by
          unfold byF
          rw [hb]
          rfl
        refine iteT ⟨_, rfl, _, _, rfl, rfl, ⟨by decide, by decide⟩, _, _, rfl, rfl, (by show (0 : Int) < 2; decide), rfl, rfl, _, rfl, ?_⟩
        rw [ey, eqInt]
        show if (!decide (V.bl (decide (c / 35 % 2 = 1)) = V.bl (decide (c / 35 % 2 = 1)))) = true then _ else _
        rw [show (!decide (V.bl (decide (c / 35 % 2 = 1)) = V.bl (decide (c / 35 % 2 = 1)))) = false by simp]
        refine iteF ⟨_, rfl, v, d.c_Share, dxv, fsv, _, rfl, hv7, W.c_Share.cl, W.n_Share_share, hso.1, _, rfl, rfl, ?_⟩
        show Q (.bl (decide (V.int (shF c) = V.int (shF c)))) H7
        rw [show decide (V.int (shF c) = V.int (shF c)) = true by simp]
        exact k7
    have n1 : ¬ c % 5 = 1 := fun z => h (decide_eq_true z)
    refine ⟨_, rfl, rfl, _, rfl, ?_⟩
    rw [eqInt]
    refine ite2 (fun h => ?_) (fun h => ?_)
    · have h0 : c % 5 = 2 := of_decide_eq_true h
      have es : soF c j = .cheap (2 + c / 5 % 19) := by
        unfold soF
        rw [if_neg n0, if_neg n1, if_pos h0]
      rw [es] at hv5 hso
      refine ⟨_, rfl, v, d.c_Cheapest, dxv, fsv, _, rfl, hv5, W.c_Cheapest.cl, W.n_Cheapest_many, hso, _, rfl, rfl, ?_⟩
      show Q (.bl (decide (V.int (2 + c / 5 % 19) = V.int (2 + c / 5 % 19)))) H5
      rw [show decide (V.int (2 + c / 5 % 19) = V.int (2 + c / 5 % 19)) = true by simp]
      exact k5
    have n2 : ¬ c % 5 = 2 := fun z => h (decide_eq_true z)
    refine ⟨_, rfl, rfl, _, rfl, ?_⟩
    rw [eqInt]
    by_cases h4 : c % 5 = 4
    · rw [decide_eq_true h4]
      exact iteT k5
    · rw [decide_eq_false h4]
      have h0 : c % 5 = 3 := by omega
      have es : soF c j = .bund (2 + c / 5 % 19) (amF c) := by
        unfold soF
        rw [if_neg n0, if_neg n1, if_neg n2, if_pos h0]
      rw [es] at hv5 hso
      refine iteF ⟨_, rfl, v, d.c_Bundle, dxv, fsv, _, rfl, hv5, W.c_Bundle.cl, W.n_Bundle_many, hso.1, _, rfl, rfl, _, rfl, ?_⟩
      show if decide (V.int (2 + c / 5 % 19) = V.int (2 + c / 5 % 19)) = true then _ else _
      rw [show decide (V.int (2 + c / 5 % 19) = V.int (2 + c / 5 % 19)) = true by simp]
      refine iteT ⟨_, rfl, v, d.c_Bundle, dxv, fsv, _, rfl, hv5, W.c_Bundle.cl, W.n_Bundle_price, hso.2, _, rfl, rfl, ?_⟩
      show Q (.bl (decide (V.int (amF c) = V.int (amF c)))) H5
      rw [show decide (V.int (amF c) = V.int (amF c)) = true by simp]
      exact k5
theorem kit_none_bool (K : PySem.W.Frag) : PySem.W.kitOne K (.type "NoneType") (.type "bool") = some false := by
  have e : (Value.type "NoneType" == Value.type "bool") = false := by decide +kernel
  unfold PySem.W.kitOne PySem.W.kitCls PySem.W.subIn
  rw [e, if_neg Bool.false_ne_true]
  show (if PySem.W.kitMeta "bool" = true then _ else _) = _
  rw [if_pos (by decide +kernel)]
  show (fastBuiltinMro "NoneType").map (·.contains (Value.type "bool")) = some false
  decide +kernel
/-- whether a field is a bool -/
theorem mk_isb (K : PySem.W.Frag) (H : Hp) (M : Mks) {i : Nat} {v : V} (h : (mkV M)[i]? = some v) : ∃ (t : Value) (b : Bool), TyOf K H v t ∧ PySem.W.kitOne K t (cV (.ty "bool")) = some b := by
  have hi := at_lt h
  match i, hi with
  | 0, _ =>
    cases h
    cases ek : M.kind with
    | none => exact ⟨_, false, .non, kit_none_bool K⟩
    | some n => exact ⟨_, false, .int _, kit_int_bool K⟩
  | 1, _ =>
    cases h
    exact ⟨_, false, .int _, kit_int_bool K⟩
  | 2, _ =>
    cases h
    cases ek : M.most with
    | none => exact ⟨_, false, .non, kit_none_bool K⟩
    | some n => exact ⟨_, false, .int _, kit_int_bool K⟩
  | 3, _ =>
    cases h
    exact ⟨_, true, .bl _, kit_same _ _⟩
  | 4, _ =>
    cases h
    exact ⟨_, true, .bl _, kit_same _ _⟩
  | 5, _ =>
    cases h
    exact ⟨_, true, .bl _, kit_same _ _⟩
  | n + 6, h => exact absurd h (by show ¬ (n + 6 < 6); omega)
theorem sc_law : FnScope ["_law_script", "_law_cell", "_law_own", "_law_due", "_law_k", "_law_how", "_law_drawn", "_law_voucher"] ["_law_script"] (defScope s_law) := ⟨rfl, rfl, rfl, by decide +kernel, rfl, by decide +kernel, by decide +kernel⟩
theorem ok_law (W : Wld K mg d) : FnOk P w K mg base CX0 7 d.f_law d.fd_law ["_law_script"] (spLaw K) := by
  refine FunD.ok W.d_law.F sc_law (fun vs H Q E h => ?_) (fun cdv A outer s H vs Q E hr h => ?_)
  · obtain ⟨a, ns, rfl, _⟩ := h
    rfl
  · obtain ⟨a, ns, rfl, hS, hn, k⟩ := h
    have G__law_marks_by := ok__law_marks_by (P := P) (w := w) (base := base) W
    have G__law_fields := ok__law_fields (P := P) (w := w) (base := base) W
    have G__law_mix := ok__law_mix (P := P) (w := w) (base := base) W
    have G__law_made := ok__law_made (P := P) (w := w) (base := base) W
    have G__law_right := ok__law_right (P := P) (w := w) (base := base) W
    have hr1 : Room 1 _ := hr.mono (by decide)
    have hr2 : Room 2 _ := hr.mono (by decide)
    have hr4 : Room 4 _ := hr.mono (by decide)
    refine ⟨_, pss_cons (ps_for PassesOwn.never rfl (pi_list (pe_op op_catS (pv 0) (pe_lst (pa_cons pe_int pa_nil)))) (pg_name (i := 1) sc_law.nd rfl (Or.inl rfl))
      (pss_cons (ps_asg (pe_call G__law_marks_by hr4 rfl W.d__law_marks_by.m W.d__law_marks_by.F.kp W.d__law_marks_by.b .nil pass0 (pa_cons (pe_op op_fdiv (pv 1) pe_int) pa_nil)) (pg_tup rfl (pgs_cons (pg_name (i := 2) sc_law.nd rfl (Or.inl rfl)) (pgs_cons (pg_name (i := 3) sc_law.nd rfl (Or.inl rfl)) pgs_nil))))
      (pss_cons (ps_if (PW.pt (pw_or (pt_not (pt_val (pe_callB call_isinst (by rfl) W.B.isi b_isi (pa_cons (pv 2) (pa_cons (pe_glob (v := .ref d.c_Marks) (by rfl) W.c_Marks.m rfl) pa_nil))))) (pw_or1 (pt_cmpR (op_neL hr.units0) (pe_call G__law_fields hr1 rfl W.d__law_fields.m W.d__law_fields.F.kp W.d__law_fields.b .nil pass0 (pa_cons (pv 2) pa_nil)) (pv 3) (nomark _))))) (pss_one (ps_ret pe_bl)) (pss_nil))
      (pss_cons (ps_for PassesOwn.never rfl (pi_range1 rfl W.B.range (pa_cons pe_int pa_nil)) (pg_name (i := 4) sc_law.nd rfl (Or.inl rfl))
      (pss_one (ps_if (pt_cmpR op_ne (pe_callB call_isinst (by rfl) W.B.isi b_isi (pa_cons (pe_ix (r := rIxL K) ix_list (pe_call G__law_fields hr1 rfl W.d__law_fields.m W.d__law_fields.F.kp W.d__law_fields.b .nil pass0 (pa_cons (pv 2) pa_nil)) (pv 4) (fun _ _ => rfl)) (pa_cons (pe_bltn (v := .ty "bool") (by rfl) W.B.bool b_bool rfl) pa_nil))) (pe_callB call_isinst (by rfl) W.B.isi b_isi (pa_cons (pe_ix (r := rIxL K) ix_list (pv 3) (pv 4) (fun _ _ => rfl)) (pa_cons (pe_bltn (v := .ty "bool") (by rfl) W.B.bool b_bool rfl) pa_nil))) (nomark _)) (pss_one (ps_ret pe_bl)) (pss_nil))))
      (pss_cons (ps_set (i := 5) sc_law.nd rfl (Or.inl rfl) (pe_op op_mod (pv 1) pe_int))
      (pss_cons (ps_set (i := 6) sc_law.nd rfl (Or.inl rfl) (pe_call G__law_mix hr1 rfl W.d__law_mix.m W.d__law_mix.F.kp W.d__law_mix.b .nil pass0 (pa_cons (pv 1) (pa_cons pe_int (pa_cons pe_int pa_nil)))))
      (pss_cons (ps_set (i := 7) sc_law.nd rfl (Or.inl rfl) (pe_call G__law_made hr rfl W.d__law_made.m W.d__law_made.F.kp W.d__law_made.b .nil pass0 (pa_cons (pv 6) (pa_cons (pv 2) (pa_cons (pv 5) pa_nil)))))
      (pss_cons (ps_if (PW.pt (pw_or (pt_not (pt_val (pe_call G__law_right hr2 rfl W.d__law_right.m W.d__law_right.F.kp W.d__law_right.b .nil pass0 (pa_cons (pv 7) (pa_cons (pv 6) (pa_cons (pv 5) pa_nil)))))) (pw_or1 (pt_not (pt_val (pe_callB call_isinst (by rfl) W.B.isi b_isi (pa_cons (pe_fld (pv 7) rfl) (pa_cons (pe_glob (v := .ref d.c_Marks) (by rfl) W.c_Marks.m rfl) pa_nil)))))))) (pss_one (ps_ret pe_bl)) (pss_nil))
      (pss_cons (ps_cut (ps_if (pt_cmpR op_lt (pv 5) pe_int (nomark _)) (pss_one (ps_set (i := 3) sc_law.nd rfl (Or.inl rfl) (pe_lst (pa_cons pe_non (pa_cons pe_int (pa_cons pe_non (pa_cons pe_bl (pa_cons pe_bl (pa_cons pe_bl pa_nil))))))))) (pss_nil)))
      (pss_one (ps_if (pt_cmpR (op_neL hr.units0) (pe_call G__law_fields hr1 rfl W.d__law_fields.m W.d__law_fields.F.kp W.d__law_fields.b .nil pass0 (pa_cons (pe_fld (pv 7) rfl) pa_nil)) (pv 3) (nomark _)) (pss_one (ps_ret pe_bl)) (pss_nil))))))))))))
      (pss_one (ps_ret pe_bl)), ?_⟩
    refine ⟨_, rfl, (by show 1 ≤ sizeLine; decide), fun l0 hl0 => ?_⟩
    have s0 := same_new (o := .lst [V.int 0]) hl0
    refine ⟨a, l0, _, _, rfl, rfl, s0.seq hS, SqL.of upd_same, ?_, fun sc hsc => ?_⟩
    · rw [List.length_map]
      exact Nat.le_of_lt (small1000 (by show ns.length + 1 ≤ 1000; omega))
    have e0 : ns.map V.int ++ [V.int 0] = (ns ++ [0]).map V.int := by rw [List.map_append]; rfl
    rw [e0]
    have hs0 : (upd (upd H l0 (.lst [V.int 0])) sc (.lst ((ns ++ [0]).map V.int))) sc = some (.lst ((ns ++ [0]).map V.int)) := upd_same
    generalize upd (upd H l0 (.lst [V.int 0])) sc (.lst ((ns ++ [0]).map V.int)) = H0 at *
    refine ⟨sc, rfl, ⟨_, SqL.of hs0⟩, for_list (K := K) (a := sc) (xs := (ns ++ [0]).map V.int) (fun _ σ H' => Same H0 H' ∧ ∃ (v1 v2 v3 v4 v5 v6 v7 : Option V), σ = [some (.ref a), v1, v2, v3, v4, v5, v6, v7]) ⟨Same.refl _, none, none, none, none, none, none, none, rfl⟩
      (fun i σ H' _ h => SqL.of (h.1 _ _ hs0)) ?_ (fun σ H' _ => k _)⟩
    rintro i cv σ Hi hi ⟨sI, v1, v2, v3, v4, v5, v6, v7, rfl⟩
    obtain ⟨c, rfl⟩ : ∃ c : Int, cv = .int c := by
      obtain ⟨m, _, rfl⟩ := List.mem_map.mp (List.mem_of_getElem? hi)
      exact ⟨m, rfl⟩
    -- marks
    refine ⟨_, rfl, _, _, rfl, rfl, ⟨by decide, by decide⟩, _, rfl, fun H1 t x p M s1 ht hM hp => ?_⟩
    refine ⟨t, _, rfl, SqT.of ht, rfl, _, _, rfl, _, _, rfl, rfl, ?_⟩
    have hM' := hM
    obtain ⟨dxm, fsm, hmx, _⟩ := hM'
    refine ⟨_, rfl, _, _, _, _, rfl, .inr ⟨_, rfl⟩, TyOf.ins hmx W.c_Marks.cl W.c_Marks.isi.ha W.c_Marks.isi.hn W.c_Marks.isi.ht W.c_Marks.isi.hm, kit_same _ _, _, rfl, iteF ?_⟩
    refine ⟨_, rfl, x, M, rfl, hM, fun q1 hq1 => ?_⟩
    have s2 := same_new (o := .lst (mkV M)) hq1
    refine ⟨_, rfl, q1, p, _, _, rfl, rfl, SqL.of upd_same, SqL.of (s2 _ _ hp), flat_mkV M, flat_mkV M, _, rfl, ?_⟩
    rw [eqVs_refl (flat_mkV M)]
    refine iteF ?_
    have s12 := s1.trans s2
    have hp2 := s2 _ _ hp
    have hM2 := hM.same s2
    generalize upd H1 q1 (.lst (mkV M)) = H2 at *
    -- field by field
    refine ⟨6, rfl, by decide, by decide, for_range (n := 6) (fun _ σ H' => Same H2 H' ∧ ∃ (v4 v5 v6 v7 : Option V), σ = [some (.ref a), some (.int c), some (.ref x), some (.ref p), v4, v5, v6, v7]) ⟨Same.refl _, _, _, _, _, rfl⟩ ?_ ?_⟩
    · rintro j σ H3 hj ⟨s3, v4, v5, v6, v7, rfl⟩
      rw [Int.zero_add]
      obtain ⟨v, ev⟩ := at_of (xs := mkV M) (i := j) hj
      refine ⟨_, rfl, x, M, rfl, hM2.same s3, fun q2 hq2 => ?_⟩
      have s4 := same_new (o := .lst (mkV M)) hq2
      obtain ⟨ty, b, hty, hb⟩ := mk_isb K (upd H3 q2 (.lst (mkV M))) M ev
      refine ⟨_, rfl, q2, _, _, v, rfl, rfl, SqL.of upd_same, atI_nat ev, _, _, _, _, rfl, .inl ⟨_, rfl⟩, hty, hb, _, rfl, _, rfl, p, _, _, v, rfl, rfl, SqL.of (s4 _ _ (s3 _ _ hp2)), atI_nat ev, _, _, _, _, rfl, .inl ⟨_, rfl⟩, hty, hb, rfl, _, rfl, ?_⟩
      show if (!decide (V.bl b = V.bl b)) = true then _ else _
      rw [show (!decide (V.bl b = V.bl b)) = false by simp]
      exact iteF ⟨s3.trans s4, _, _, _, _, rfl⟩
    rintro σ H3 ⟨s3, v4, v5, v6, v7, rfl⟩
    obtain ⟨j, ej⟩ := Int.eq_ofNat_of_zero_le (show 0 ≤ c % 4 by omega)
    have hj : j < 4 := by omega
    refine ⟨_, rfl, _, _, rfl, rfl, (by show (0 : Int) < 4; decide), ?_⟩
    dsimp only
    rw [ej]
    refine ⟨_, rfl, _, _, _, rfl, ⟨by decide, by decide⟩, by decide, ?_⟩
    generalize c * 39373 % 2147483587 = dr
    refine ⟨_, rfl, _, rfl, _, rfl, dr, x, j, M, rfl, hM2.same s3, hj, fun H4 v s4 hV => ?_⟩
    refine ⟨_, rfl, _, rfl, _, rfl, v, dr, j, _, rfl, hj, hV, fun H5 s5 => ⟨_, rfl, iteF ?_⟩⟩
    have hV5 := hV.same s5
    obtain ⟨mA, dxv, fsv, hv, lvm, _, hmA, hh⟩ := id hV5
    obtain ⟨dxw, fsw, hmw, _⟩ := id hmA
    refine ⟨_, rfl, v, clsOf d (soF dr j), dxv, fsv, _, rfl, hv, cl_of W hh, na_of W hh, lvm, _, _, _, _, rfl, .inr ⟨_, rfl⟩, TyOf.ins hmw W.c_Marks.cl W.c_Marks.isi.ha W.c_Marks.isi.hn W.c_Marks.isi.ht W.c_Marks.isi.hm, kit_same _ _, _, rfl, iteF ?_⟩
    have s35 := (s3.trans s4).trans s5
    have s05 := (sI.trans s12).trans s35
    refine ⟨fun σ' H' => Same H5 H' ∧ ∃ p' : Addr, σ' = [some (.ref a), some (.int c), some (.ref x), some (.ref p'), v4, some (.int (j : Nat)), some (.int dr), some (.ref v)] ∧ H' p' = some (.lst (mkV (msF M j))), ⟨_, rfl, _, _, rfl, rfl, _, rfl, ?_⟩, ?_⟩
    · by_cases h2 : j < 2
      · rw [decide_eq_true (show ((j : Nat) : Int) < 2 by omega)]
        refine iteT ⟨(by show 6 ≤ sizeLine; decide), fun q hq => ⟨same_new hq, q, rfl, ?_⟩⟩
        have e : msF M j = mks0 := if_pos h2
        rw [e]
        exact upd_same
      · rw [decide_eq_false (show ¬ ((j : Nat) : Int) < 2 by omega)]
        refine iteF ⟨Same.refl _, p, rfl, ?_⟩
        have e : msF M j = M := if_neg h2
        rw [e]
        exact s35 _ _ hp2
    rintro σ' H6 ⟨s6, p', rfl, hp6⟩
    refine ⟨_, rfl, v, clsOf d (soF dr j), dxv, fsv, _, rfl, s6 _ _ hv, cl_of W hh, na_of W hh, lvm, mA, msF M j, rfl, hmA.same s6, fun q3 hq3 => ?_⟩
    have s7 := same_new (o := .lst (mkV (msF M j))) hq3
    refine ⟨_, rfl, q3, p', _, _, rfl, rfl, SqL.of upd_same, SqL.of (s7 _ _ hp6), flat_mkV _, flat_mkV _, _, rfl, ?_⟩
    rw [eqVs_refl (flat_mkV _)]
    exact iteF ⟨(s05.trans s6).trans s7, _, _, _, _, _, _, _, rfl⟩
end
end Vs
namespace Vs
open PySem L2
theorem all_mk {l : PySem.W.OpenLaw} {w : World} {K : PySem.W.Frag} {h : Heap} {mg : Str → Option Value} {fa f_law_whole f_law_mix f_law_coin f_law_fields f_law_one_named f_law_marks_by f_law_made f_law_right flaw CMarks fMarks_init TMarks_init CVoucher fVoucher_init TVoucher_init COff fOff_init TOff_init CShare fShare_init TShare_init CCheapest fCheapest_init TCheapest_init CBundle fBundle_init TBundle_init CCarriage fCarriage_init TCarriage_init : Addr} {od_law_whole an_law_whole od_law_mix an_law_mix od_law_coin an_law_coin od_law_fields an_law_fields od_law_one_named an_law_one_named od_law_marks_by an_law_marks_by od_law_made an_law_made od_law_right an_law_right odlaw anlaw odMarks_init anMarks_init tdMarks_init odVoucher_init anVoucher_init tdVoucher_init odOff_init anOff_init tdOff_init odShare_init anShare_init tdShare_init odCheapest_init anCheapest_init tdCheapest_init odBundle_init anBundle_init tdBundle_init odCarriage_init anCarriage_init tdCarriage_init : Option Addr} {sl_law_whole sl_law_mix sl_law_coin sl_law_fields sl_law_one_named sl_law_marks_by sl_law_made sl_law_right sllaw slMarks_init tsMarks_init slVoucher_init tsVoucher_init slOff_init tsOff_init slShare_init tsShare_init slCheapest_init tsCheapest_init slBundle_init tsBundle_init slCarriage_init tsCarriage_init : Array (Option Value)} {oc_law_whole kV_law_whole dc_law_whole pm_law_whole cd_law_whole ct_law_whole oc_law_mix kV_law_mix dc_law_mix pm_law_mix cd_law_mix ct_law_mix oc_law_coin kV_law_coin dc_law_coin pm_law_coin cd_law_coin ct_law_coin oc_law_fields kV_law_fields dc_law_fields pm_law_fields cd_law_fields ct_law_fields oc_law_one_named kV_law_one_named dc_law_one_named pm_law_one_named cd_law_one_named ct_law_one_named oc_law_marks_by kV_law_marks_by dc_law_marks_by pm_law_marks_by cd_law_marks_by ct_law_marks_by oc_law_made kV_law_made dc_law_made pm_law_made cd_law_made ct_law_made oc_law_right kV_law_right dc_law_right pm_law_right cd_law_right ct_law_right oclaw kVlaw dclaw pmlaw cdlaw ctlaw ocMarks_init kVMarks_init dcMarks_init pmMarks_init cdMarks_init ctMarks_init tcMarks_init ocVoucher_init kVVoucher_init dcVoucher_init pmVoucher_init cdVoucher_init ctVoucher_init tcVoucher_init ocOff_init kVOff_init dcOff_init pmOff_init cdOff_init ctOff_init tcOff_init ocShare_init kVShare_init dcShare_init pmShare_init cdShare_init ctShare_init tcShare_init ocCheapest_init kVCheapest_init dcCheapest_init pmCheapest_init cdCheapest_init ctCheapest_init tcCheapest_init ocBundle_init kVBundle_init dcBundle_init pmBundle_init cdBundle_init ctBundle_init tcBundle_init ocCarriage_init kVCarriage_init dcCarriage_init pmCarriage_init cdCarriage_init ctCarriage_init tcCarriage_init : Value} {tnMarks_init tok1_Marks_init tnVoucher_init tnOff_init tnShare_init tnCheapest_init tnBundle_init tnCarriage_init : Nat} (X : K.In h) (G : h.Ns mainGlobals mg) (hfa : mg "law" = some (.ref fa))
    (a_law_whole : PySem.W.nsIn K mainGlobals "_law_whole" = some (some (.ref f_law_whole))) (l_law_whole : K.lookup f_law_whole = some ⟨oc_law_whole, od_law_whole, .func (PySem.W.fnOf "_law_whole" "_law_whole" (defArgs s__law_whole) (defBody s__law_whole) (defScope s__law_whole) .none kV_law_whole dc_law_whole pm_law_whole an_law_whole cd_law_whole ct_law_whole), sl_law_whole⟩) (c_law_whole : PySem.W.codeIn K cd_law_whole "_law_whole" = true) (k_law_whole : PySem.W.keepIn K (.ref f_law_whole) = true)
    (a_law_mix : PySem.W.nsIn K mainGlobals "_law_mix" = some (some (.ref f_law_mix))) (l_law_mix : K.lookup f_law_mix = some ⟨oc_law_mix, od_law_mix, .func (PySem.W.fnOf "_law_mix" "_law_mix" (defArgs s__law_mix) (defBody s__law_mix) (defScope s__law_mix) .none kV_law_mix dc_law_mix pm_law_mix an_law_mix cd_law_mix ct_law_mix), sl_law_mix⟩) (c_law_mix : PySem.W.codeIn K cd_law_mix "_law_mix" = true) (k_law_mix : PySem.W.keepIn K (.ref f_law_mix) = true)
    (a_law_coin : PySem.W.nsIn K mainGlobals "_law_coin" = some (some (.ref f_law_coin))) (l_law_coin : K.lookup f_law_coin = some ⟨oc_law_coin, od_law_coin, .func (PySem.W.fnOf "_law_coin" "_law_coin" (defArgs s__law_coin) (defBody s__law_coin) (defScope s__law_coin) .none kV_law_coin dc_law_coin pm_law_coin an_law_coin cd_law_coin ct_law_coin), sl_law_coin⟩) (c_law_coin : PySem.W.codeIn K cd_law_coin "_law_coin" = true) (k_law_coin : PySem.W.keepIn K (.ref f_law_coin) = true)
    (a_law_fields : PySem.W.nsIn K mainGlobals "_law_fields" = some (some (.ref f_law_fields))) (l_law_fields : K.lookup f_law_fields = some ⟨oc_law_fields, od_law_fields, .func (PySem.W.fnOf "_law_fields" "_law_fields" (defArgs s__law_fields) (defBody s__law_fields) (defScope s__law_fields) .none kV_law_fields dc_law_fields pm_law_fields an_law_fields cd_law_fields ct_law_fields), sl_law_fields⟩) (c_law_fields : PySem.W.codeIn K cd_law_fields "_law_fields" = true) (k_law_fields : PySem.W.keepIn K (.ref f_law_fields) = true)
    (a_law_one_named : PySem.W.nsIn K mainGlobals "_law_one_named" = some (some (.ref f_law_one_named))) (l_law_one_named : K.lookup f_law_one_named = some ⟨oc_law_one_named, od_law_one_named, .func (PySem.W.fnOf "_law_one_named" "_law_one_named" (defArgs s__law_one_named) (defBody s__law_one_named) (defScope s__law_one_named) .none kV_law_one_named dc_law_one_named pm_law_one_named an_law_one_named cd_law_one_named ct_law_one_named), sl_law_one_named⟩) (c_law_one_named : PySem.W.codeIn K cd_law_one_named "_law_one_named" = true) (k_law_one_named : PySem.W.keepIn K (.ref f_law_one_named) = true)
    (a_law_marks_by : PySem.W.nsIn K mainGlobals "_law_marks_by" = some (some (.ref f_law_marks_by))) (l_law_marks_by : K.lookup f_law_marks_by = some ⟨oc_law_marks_by, od_law_marks_by, .func (PySem.W.fnOf "_law_marks_by" "_law_marks_by" (defArgs s__law_marks_by) (defBody s__law_marks_by) (defScope s__law_marks_by) .none kV_law_marks_by dc_law_marks_by pm_law_marks_by an_law_marks_by cd_law_marks_by ct_law_marks_by), sl_law_marks_by⟩) (c_law_marks_by : PySem.W.codeIn K cd_law_marks_by "_law_marks_by" = true) (k_law_marks_by : PySem.W.keepIn K (.ref f_law_marks_by) = true)
    (a_law_made : PySem.W.nsIn K mainGlobals "_law_made" = some (some (.ref f_law_made))) (l_law_made : K.lookup f_law_made = some ⟨oc_law_made, od_law_made, .func (PySem.W.fnOf "_law_made" "_law_made" (defArgs s__law_made) (defBody s__law_made) (defScope s__law_made) .none kV_law_made dc_law_made pm_law_made an_law_made cd_law_made ct_law_made), sl_law_made⟩) (c_law_made : PySem.W.codeIn K cd_law_made "_law_made" = true) (k_law_made : PySem.W.keepIn K (.ref f_law_made) = true)
    (a_law_right : PySem.W.nsIn K mainGlobals "_law_right" = some (some (.ref f_law_right))) (l_law_right : K.lookup f_law_right = some ⟨oc_law_right, od_law_right, .func (PySem.W.fnOf "_law_right" "_law_right" (defArgs s__law_right) (defBody s__law_right) (defScope s__law_right) .none kV_law_right dc_law_right pm_law_right an_law_right cd_law_right ct_law_right), sl_law_right⟩) (c_law_right : PySem.W.codeIn K cd_law_right "_law_right" = true) (k_law_right : PySem.W.keepIn K (.ref f_law_right) = true)
    (alaw : PySem.W.nsIn K mainGlobals "law" = some (some (.ref flaw))) (llaw : K.lookup flaw = some ⟨oclaw, odlaw, .func (PySem.W.fnOf "law" "law" (defArgs s_law) (defBody s_law) (defScope s_law) .none kVlaw dclaw pmlaw anlaw cdlaw ctlaw), sllaw⟩) (claw : PySem.W.codeIn K cdlaw "law" = true) (klaw : PySem.W.keepIn K (.ref flaw) = true)
    (aMarks : PySem.W.nsIn K mainGlobals "Marks" = some (some (.ref CMarks))) (pgMarks : PySem.W.plainGet K CMarks Str.empty = true) (hdMarks : PySem.W.hasDictIn K CMarks = true) (poMarks : PySem.W.plainOver K CMarks = true) (saMarks : PySem.W.findIn K (.ref CMarks) "__setattr__" = some (some (.builtin "object.__setattr__"))) (mkMarks : PySem.W.makesIn K CMarks = true) (kcMarks : PySem.W.keepIn K (.ref CMarks) = true)
    (iaMarks : PySem.W.findIn K (.ref CMarks) "__class__" = some (some (.builtin "object.__class__"))) (inMarks : PySem.W.specialIn K (.builtin "object.__class__") "__get__" = some (some (.builtin "getset_descriptor.__get__"))) (itMarks : PySem.W.takesIn K (.builtin "object.__class__") = some true) (imMarks : PySem.W.mroIn K CMarks (.type "object") = some true) (isMarks : PySem.W.mroIn K CMarks (.ref CMarks) = some true) (iyMarks : PySem.W.typeIn K (.ref CMarks) = some (.type "type"))
    (nMarks_kind : PySem.W.findIn K (.ref CMarks) "kind" = some none)
    (nMarks_needs : PySem.W.findIn K (.ref CMarks) "needs" = some none)
    (nMarks_most : PySem.W.findIn K (.ref CMarks) "most" = some none)
    (nMarks_member : PySem.W.findIn K (.ref CMarks) "member" = some none)
    (nMarks_once : PySem.W.findIn K (.ref CMarks) "once" = some none)
    (nMarks_lone : PySem.W.findIn K (.ref CMarks) "lone" = some none)
    (hMarks_init : PySem.W.findIn K (.ref CMarks) "__init__" = some (some (.ref fMarks_init))) (iMarks_init : PySem.W.isFn K (.ref fMarks_init) = true) (lMarks_init : K.lookup fMarks_init = some ⟨ocMarks_init, odMarks_init, .func (PySem.W.fnOf "__init__" "Marks.__init__" (defArgs s_Marks_init) (defBody s_Marks_init) (defScope s_Marks_init) (.ref TMarks_init) kVMarks_init dcMarks_init pmMarks_init anMarks_init cdMarks_init ctMarks_init), slMarks_init⟩) (cMarks_init : PySem.W.codeIn K cdMarks_init "Marks.__init__" = true) (kMarks_init : PySem.W.keepIn K (.ref fMarks_init) = true) (tMarks_init : K.lookup TMarks_init = some ⟨tcMarks_init, tdMarks_init, .seq #[.none, .int 0 tok1_Marks_init, .none, .bool false, .bool false, .bool false] tnMarks_init, tsMarks_init⟩)
    (aVoucher : PySem.W.nsIn K mainGlobals "Voucher" = some (some (.ref CVoucher))) (pgVoucher : PySem.W.plainGet K CVoucher Str.empty = true) (hdVoucher : PySem.W.hasDictIn K CVoucher = true) (poVoucher : PySem.W.plainOver K CVoucher = true) (saVoucher : PySem.W.findIn K (.ref CVoucher) "__setattr__" = some (some (.builtin "object.__setattr__"))) (mkVoucher : PySem.W.makesIn K CVoucher = true) (kcVoucher : PySem.W.keepIn K (.ref CVoucher) = true)
    (iaVoucher : PySem.W.findIn K (.ref CVoucher) "__class__" = some (some (.builtin "object.__class__"))) (inVoucher : PySem.W.specialIn K (.builtin "object.__class__") "__get__" = some (some (.builtin "getset_descriptor.__get__"))) (itVoucher : PySem.W.takesIn K (.builtin "object.__class__") = some true) (imVoucher : PySem.W.mroIn K CVoucher (.type "object") = some true) (isVoucher : PySem.W.mroIn K CVoucher (.ref CVoucher) = some true) (iyVoucher : PySem.W.typeIn K (.ref CVoucher) = some (.type "type"))
    (nVoucher_marks : PySem.W.findIn K (.ref CVoucher) "marks" = some none)
    (hVoucher_init : PySem.W.findIn K (.ref CVoucher) "__init__" = some (some (.ref fVoucher_init))) (iVoucher_init : PySem.W.isFn K (.ref fVoucher_init) = true) (lVoucher_init : K.lookup fVoucher_init = some ⟨ocVoucher_init, odVoucher_init, .func (PySem.W.fnOf "__init__" "Voucher.__init__" (defArgs s_Voucher_init) (defBody s_Voucher_init) (defScope s_Voucher_init) (.ref TVoucher_init) kVVoucher_init dcVoucher_init pmVoucher_init anVoucher_init cdVoucher_init ctVoucher_init), slVoucher_init⟩) (cVoucher_init : PySem.W.codeIn K cdVoucher_init "Voucher.__init__" = true) (kVoucher_init : PySem.W.keepIn K (.ref fVoucher_init) = true) (tVoucher_init : K.lookup TVoucher_init = some ⟨tcVoucher_init, tdVoucher_init, .seq #[.none] tnVoucher_init, tsVoucher_init⟩)
    (aOff : PySem.W.nsIn K mainGlobals "Off" = some (some (.ref COff))) (pgOff : PySem.W.plainGet K COff Str.empty = true) (hdOff : PySem.W.hasDictIn K COff = true) (poOff : PySem.W.plainOver K COff = true) (saOff : PySem.W.findIn K (.ref COff) "__setattr__" = some (some (.builtin "object.__setattr__"))) (mkOff : PySem.W.makesIn K COff = true) (kcOff : PySem.W.keepIn K (.ref COff) = true)
    (iaOff : PySem.W.findIn K (.ref COff) "__class__" = some (some (.builtin "object.__class__"))) (inOff : PySem.W.specialIn K (.builtin "object.__class__") "__get__" = some (some (.builtin "getset_descriptor.__get__"))) (itOff : PySem.W.takesIn K (.builtin "object.__class__") = some true) (imOff : PySem.W.mroIn K COff (.type "object") = some true) (isOff : PySem.W.mroIn K COff (.ref COff) = some true) (iyOff : PySem.W.typeIn K (.ref COff) = some (.type "type"))
    (nOff_amount : PySem.W.findIn K (.ref COff) "amount" = some none)
    (nOff_marks : PySem.W.findIn K (.ref COff) "marks" = some none)
    (hOff_init : PySem.W.findIn K (.ref COff) "__init__" = some (some (.ref fOff_init))) (iOff_init : PySem.W.isFn K (.ref fOff_init) = true) (lOff_init : K.lookup fOff_init = some ⟨ocOff_init, odOff_init, .func (PySem.W.fnOf "__init__" "Off.__init__" (defArgs s_Off_init) (defBody s_Off_init) (defScope s_Off_init) (.ref TOff_init) kVOff_init dcOff_init pmOff_init anOff_init cdOff_init ctOff_init), slOff_init⟩) (cOff_init : PySem.W.codeIn K cdOff_init "Off.__init__" = true) (kOff_init : PySem.W.keepIn K (.ref fOff_init) = true) (tOff_init : K.lookup TOff_init = some ⟨tcOff_init, tdOff_init, .seq #[.none] tnOff_init, tsOff_init⟩)
    (aShare : PySem.W.nsIn K mainGlobals "Share" = some (some (.ref CShare))) (pgShare : PySem.W.plainGet K CShare Str.empty = true) (hdShare : PySem.W.hasDictIn K CShare = true) (poShare : PySem.W.plainOver K CShare = true) (saShare : PySem.W.findIn K (.ref CShare) "__setattr__" = some (some (.builtin "object.__setattr__"))) (mkShare : PySem.W.makesIn K CShare = true) (kcShare : PySem.W.keepIn K (.ref CShare) = true)
    (iaShare : PySem.W.findIn K (.ref CShare) "__class__" = some (some (.builtin "object.__class__"))) (inShare : PySem.W.specialIn K (.builtin "object.__class__") "__get__" = some (some (.builtin "getset_descriptor.__get__"))) (itShare : PySem.W.takesIn K (.builtin "object.__class__") = some true) (imShare : PySem.W.mroIn K CShare (.type "object") = some true) (isShare : PySem.W.mroIn K CShare (.ref CShare) = some true) (iyShare : PySem.W.typeIn K (.ref CShare) = some (.type "type"))
    (nShare_share : PySem.W.findIn K (.ref CShare) "share" = some none)
    (nShare_by_line : PySem.W.findIn K (.ref CShare) "by_line" = some none)
    (nShare_marks : PySem.W.findIn K (.ref CShare) "marks" = some none)
    (hShare_init : PySem.W.findIn K (.ref CShare) "__init__" = some (some (.ref fShare_init))) (iShare_init : PySem.W.isFn K (.ref fShare_init) = true) (lShare_init : K.lookup fShare_init = some ⟨ocShare_init, odShare_init, .func (PySem.W.fnOf "__init__" "Share.__init__" (defArgs s_Share_init) (defBody s_Share_init) (defScope s_Share_init) (.ref TShare_init) kVShare_init dcShare_init pmShare_init anShare_init cdShare_init ctShare_init), slShare_init⟩) (cShare_init : PySem.W.codeIn K cdShare_init "Share.__init__" = true) (kShare_init : PySem.W.keepIn K (.ref fShare_init) = true) (tShare_init : K.lookup TShare_init = some ⟨tcShare_init, tdShare_init, .seq #[.bool false, .none] tnShare_init, tsShare_init⟩)
    (aCheapest : PySem.W.nsIn K mainGlobals "Cheapest" = some (some (.ref CCheapest))) (pgCheapest : PySem.W.plainGet K CCheapest Str.empty = true) (hdCheapest : PySem.W.hasDictIn K CCheapest = true) (poCheapest : PySem.W.plainOver K CCheapest = true) (saCheapest : PySem.W.findIn K (.ref CCheapest) "__setattr__" = some (some (.builtin "object.__setattr__"))) (mkCheapest : PySem.W.makesIn K CCheapest = true) (kcCheapest : PySem.W.keepIn K (.ref CCheapest) = true)
    (iaCheapest : PySem.W.findIn K (.ref CCheapest) "__class__" = some (some (.builtin "object.__class__"))) (inCheapest : PySem.W.specialIn K (.builtin "object.__class__") "__get__" = some (some (.builtin "getset_descriptor.__get__"))) (itCheapest : PySem.W.takesIn K (.builtin "object.__class__") = some true) (imCheapest : PySem.W.mroIn K CCheapest (.type "object") = some true) (isCheapest : PySem.W.mroIn K CCheapest (.ref CCheapest) = some true) (iyCheapest : PySem.W.typeIn K (.ref CCheapest) = some (.type "type"))
    (nCheapest_many : PySem.W.findIn K (.ref CCheapest) "many" = some none)
    (nCheapest_marks : PySem.W.findIn K (.ref CCheapest) "marks" = some none)
    (hCheapest_init : PySem.W.findIn K (.ref CCheapest) "__init__" = some (some (.ref fCheapest_init))) (iCheapest_init : PySem.W.isFn K (.ref fCheapest_init) = true) (lCheapest_init : K.lookup fCheapest_init = some ⟨ocCheapest_init, odCheapest_init, .func (PySem.W.fnOf "__init__" "Cheapest.__init__" (defArgs s_Cheapest_init) (defBody s_Cheapest_init) (defScope s_Cheapest_init) (.ref TCheapest_init) kVCheapest_init dcCheapest_init pmCheapest_init anCheapest_init cdCheapest_init ctCheapest_init), slCheapest_init⟩) (cCheapest_init : PySem.W.codeIn K cdCheapest_init "Cheapest.__init__" = true) (kCheapest_init : PySem.W.keepIn K (.ref fCheapest_init) = true) (tCheapest_init : K.lookup TCheapest_init = some ⟨tcCheapest_init, tdCheapest_init, .seq #[.none] tnCheapest_init, tsCheapest_init⟩)
    (aBundle : PySem.W.nsIn K mainGlobals "Bundle" = some (some (.ref CBundle))) (pgBundle : PySem.W.plainGet K CBundle Str.empty = true) (hdBundle : PySem.W.hasDictIn K CBundle = true) (poBundle : PySem.W.plainOver K CBundle = true) (saBundle : PySem.W.findIn K (.ref CBundle) "__setattr__" = some (some (.builtin "object.__setattr__"))) (mkBundle : PySem.W.makesIn K CBundle = true) (kcBundle : PySem.W.keepIn K (.ref CBundle) = true)
    (iaBundle : PySem.W.findIn K (.ref CBundle) "__class__" = some (some (.builtin "object.__class__"))) (inBundle : PySem.W.specialIn K (.builtin "object.__class__") "__get__" = some (some (.builtin "getset_descriptor.__get__"))) (itBundle : PySem.W.takesIn K (.builtin "object.__class__") = some true) (imBundle : PySem.W.mroIn K CBundle (.type "object") = some true) (isBundle : PySem.W.mroIn K CBundle (.ref CBundle) = some true) (iyBundle : PySem.W.typeIn K (.ref CBundle) = some (.type "type"))
    (nBundle_many : PySem.W.findIn K (.ref CBundle) "many" = some none)
    (nBundle_price : PySem.W.findIn K (.ref CBundle) "price" = some none)
    (nBundle_marks : PySem.W.findIn K (.ref CBundle) "marks" = some none)
    (hBundle_init : PySem.W.findIn K (.ref CBundle) "__init__" = some (some (.ref fBundle_init))) (iBundle_init : PySem.W.isFn K (.ref fBundle_init) = true) (lBundle_init : K.lookup fBundle_init = some ⟨ocBundle_init, odBundle_init, .func (PySem.W.fnOf "__init__" "Bundle.__init__" (defArgs s_Bundle_init) (defBody s_Bundle_init) (defScope s_Bundle_init) (.ref TBundle_init) kVBundle_init dcBundle_init pmBundle_init anBundle_init cdBundle_init ctBundle_init), slBundle_init⟩) (cBundle_init : PySem.W.codeIn K cdBundle_init "Bundle.__init__" = true) (kBundle_init : PySem.W.keepIn K (.ref fBundle_init) = true) (tBundle_init : K.lookup TBundle_init = some ⟨tcBundle_init, tdBundle_init, .seq #[.none] tnBundle_init, tsBundle_init⟩)
    (aCarriage : PySem.W.nsIn K mainGlobals "Carriage" = some (some (.ref CCarriage))) (pgCarriage : PySem.W.plainGet K CCarriage Str.empty = true) (hdCarriage : PySem.W.hasDictIn K CCarriage = true) (poCarriage : PySem.W.plainOver K CCarriage = true) (saCarriage : PySem.W.findIn K (.ref CCarriage) "__setattr__" = some (some (.builtin "object.__setattr__"))) (mkCarriage : PySem.W.makesIn K CCarriage = true) (kcCarriage : PySem.W.keepIn K (.ref CCarriage) = true)
    (iaCarriage : PySem.W.findIn K (.ref CCarriage) "__class__" = some (some (.builtin "object.__class__"))) (inCarriage : PySem.W.specialIn K (.builtin "object.__class__") "__get__" = some (some (.builtin "getset_descriptor.__get__"))) (itCarriage : PySem.W.takesIn K (.builtin "object.__class__") = some true) (imCarriage : PySem.W.mroIn K CCarriage (.type "object") = some true) (isCarriage : PySem.W.mroIn K CCarriage (.ref CCarriage) = some true) (iyCarriage : PySem.W.typeIn K (.ref CCarriage) = some (.type "type"))
    (nCarriage_marks : PySem.W.findIn K (.ref CCarriage) "marks" = some none)
    (hCarriage_init : PySem.W.findIn K (.ref CCarriage) "__init__" = some (some (.ref fCarriage_init))) (iCarriage_init : PySem.W.isFn K (.ref fCarriage_init) = true) (lCarriage_init : K.lookup fCarriage_init = some ⟨ocCarriage_init, odCarriage_init, .func (PySem.W.fnOf "__init__" "Carriage.__init__" (defArgs s_Carriage_init) (defBody s_Carriage_init) (defScope s_Carriage_init) (.ref TCarriage_init) kVCarriage_init dcCarriage_init pmCarriage_init anCarriage_init cdCarriage_init ctCarriage_init), slCarriage_init⟩) (cCarriage_init : PySem.W.codeIn K cdCarriage_init "Carriage.__init__" = true) (kCarriage_init : PySem.W.keepIn K (.ref fCarriage_init) = true) (tCarriage_init : K.lookup TCarriage_init = some ⟨tcCarriage_init, tdCarriage_init, .seq #[.none] tnCarriage_init, tsCarriage_init⟩)
    (rdVoucher_init : PySem.W.readsIn K CVoucher (.type "type") = true) (gaVoucher_init : PySem.W.specialIn K (.ref CVoucher) "__getattribute__" = some (some (.builtin "type.__getattribute__"))) (fcVoucher_init : PySem.W.findCls K (.ref CVoucher) (.type "type") "__init__" = some (.val (.ref fVoucher_init)))
    (qMarks_Off : PySem.W.mroIn K CMarks (.ref COff) = some false)
    (qVoucher_Off : PySem.W.mroIn K CVoucher (.ref COff) = some false)
    (qShare_Off : PySem.W.mroIn K CShare (.ref COff) = some false)
    (qCheapest_Off : PySem.W.mroIn K CCheapest (.ref COff) = some false)
    (qBundle_Off : PySem.W.mroIn K CBundle (.ref COff) = some false)
    (qCarriage_Off : PySem.W.mroIn K CCarriage (.ref COff) = some false)
    (qMarks_Share : PySem.W.mroIn K CMarks (.ref CShare) = some false)
    (qVoucher_Share : PySem.W.mroIn K CVoucher (.ref CShare) = some false)
    (qOff_Share : PySem.W.mroIn K COff (.ref CShare) = some false)
    (qCheapest_Share : PySem.W.mroIn K CCheapest (.ref CShare) = some false)
    (qBundle_Share : PySem.W.mroIn K CBundle (.ref CShare) = some false)
    (qCarriage_Share : PySem.W.mroIn K CCarriage (.ref CShare) = some false)
    (qMarks_Cheapest : PySem.W.mroIn K CMarks (.ref CCheapest) = some false)
    (qVoucher_Cheapest : PySem.W.mroIn K CVoucher (.ref CCheapest) = some false)
    (qOff_Cheapest : PySem.W.mroIn K COff (.ref CCheapest) = some false)
    (qShare_Cheapest : PySem.W.mroIn K CShare (.ref CCheapest) = some false)
    (qBundle_Cheapest : PySem.W.mroIn K CBundle (.ref CCheapest) = some false)
    (qCarriage_Cheapest : PySem.W.mroIn K CCarriage (.ref CCheapest) = some false)
    (qMarks_Bundle : PySem.W.mroIn K CMarks (.ref CBundle) = some false)
    (qVoucher_Bundle : PySem.W.mroIn K CVoucher (.ref CBundle) = some false)
    (qOff_Bundle : PySem.W.mroIn K COff (.ref CBundle) = some false)
    (qShare_Bundle : PySem.W.mroIn K CShare (.ref CBundle) = some false)
    (qCheapest_Bundle : PySem.W.mroIn K CCheapest (.ref CBundle) = some false)
    (qCarriage_Bundle : PySem.W.mroIn K CCarriage (.ref CBundle) = some false)
    (qMarks_Carriage : PySem.W.mroIn K CMarks (.ref CCarriage) = some false)
    (qVoucher_Carriage : PySem.W.mroIn K CVoucher (.ref CCarriage) = some false)
    (qOff_Carriage : PySem.W.mroIn K COff (.ref CCarriage) = some false)
    (qShare_Carriage : PySem.W.mroIn K CShare (.ref CCarriage) = some false)
    (qCheapest_Carriage : PySem.W.mroIn K CCheapest (.ref CCarriage) = some false)
    (qBundle_Carriage : PySem.W.mroIn K CBundle (.ref CCarriage) = some false)
    (qMarks_Voucher : PySem.W.mroIn K CMarks (.ref CVoucher) = some false)
    (qOff_Voucher : PySem.W.mroIn K COff (.ref CVoucher) = some true)
    (qShare_Voucher : PySem.W.mroIn K CShare (.ref CVoucher) = some true)
    (qCheapest_Voucher : PySem.W.mroIn K CCheapest (.ref CVoucher) = some true)
    (qBundle_Voucher : PySem.W.mroIn K CBundle (.ref CVoucher) = some true)
    (qCarriage_Voucher : PySem.W.mroIn K CCarriage (.ref CVoucher) = some true)
    (qVoucher_Marks : PySem.W.mroIn K CVoucher (.ref CMarks) = some false)
    (qOff_Marks : PySem.W.mroIn K COff (.ref CMarks) = some false)
    (qShare_Marks : PySem.W.mroIn K CShare (.ref CMarks) = some false)
    (qCheapest_Marks : PySem.W.mroIn K CCheapest (.ref CMarks) = some false)
    (qBundle_Marks : PySem.W.mroIn K CBundle (.ref CMarks) = some false)
    (qCarriage_Marks : PySem.W.mroIn K CCarriage (.ref CMarks) = some false)
    (z1 : PySem.W.nsIn K mainGlobals "range" = some none)
    (z2 : PySem.W.nsIn K mainGlobals "len" = some none)
    (z3 : PySem.W.nsIn K mainGlobals "min" = some none)
    (z4 : PySem.W.nsIn K mainGlobals "max" = some none)
    (z5 : PySem.W.nsIn K mainGlobals "isinstance" = some none)
    (z6 : PySem.W.nsIn K mainGlobals "bool" = some none)
    (z7 : PySem.W.nsIn K mainGlobals "int" = some none)
    (z8 : PySem.W.nsIn K mainGlobals "list" = some none)
    (z9 : PySem.W.nsIn K mainGlobals "sum" = some none)
    (z10 : PySem.W.nsIn K mainGlobals "enumerate" = some none)
    (z11 : PySem.W.nsIn K mainGlobals "any" = some none)
    (z12 : PySem.W.nsIn K mainGlobals "all" = some none)
    (z13 : PySem.W.nsIn K mainGlobals "reversed" = some none)
    (z14 : PySem.W.nsIn K mainGlobals "zip" = some none)
    (z15 : PySem.W.nsIn K mainGlobals "abs" = some none)
    (z16 : PySem.W.nsIn K mainGlobals "sorted" = some none)
    (z17 : PySem.W.nsIn K mainGlobals "tuple" = some none)
    (z18 : PySem.W.nsIn K mainGlobals "str" = some none)
    : ∃ fd : FuncData, (∀ (s : Shared) (v : Value), BindsTo s fd ⟨[v], []⟩ [("_law_script", v)]) ∧ ∀ base : Heap, K.In base → base.Ns mainGlobals mg → FnOk l.prog w K mg base CX0 7 fa fd ["_law_script"] (spLaw K) := by
  have e := hfa.symm.trans (PySem.W.mg_of X G alaw)
  have hf : flaw = fa := by
    injection e with e
    injection e with e
    exact e.symm
  subst hf
  have B : TxtB mg := ⟨PySem.W.mg_none_of X G z1, PySem.W.mg_none_of X G z2, PySem.W.mg_none_of X G z3, PySem.W.mg_none_of X G z4, PySem.W.mg_none_of X G z5, PySem.W.mg_none_of X G z6, PySem.W.mg_none_of X G z7, PySem.W.mg_none_of X G z8, PySem.W.mg_none_of X G z9, PySem.W.mg_none_of X G z10, PySem.W.mg_none_of X G z11, PySem.W.mg_none_of X G z12, PySem.W.mg_none_of X G z13, PySem.W.mg_none_of X G z14, PySem.W.mg_none_of X G z15, PySem.W.mg_none_of X G z16, PySem.W.mg_none_of X G z17, PySem.W.mg_none_of X G z18⟩
  have F_law_whole := fund_mk (x := "_law_whole") (qual := "_law_whole") (st := s__law_whole) l_law_whole c_law_whole k_law_whole
  have b_law_whole : Binds K (PySem.W.fnOf "_law_whole" "_law_whole" (defArgs s__law_whole) (defBody s__law_whole) (defScope s__law_whole) .none kV_law_whole dc_law_whole pm_law_whole an_law_whole cd_law_whole ct_law_whole) ["_law_found"] [] := Binds.all fun us hl => match us, hl with | [_], _ => rfl
  have F_law_mix := fund_mk (x := "_law_mix") (qual := "_law_mix") (st := s__law_mix) l_law_mix c_law_mix k_law_mix
  have b_law_mix : Binds K (PySem.W.fnOf "_law_mix" "_law_mix" (defArgs s__law_mix) (defBody s__law_mix) (defScope s__law_mix) .none kV_law_mix dc_law_mix pm_law_mix an_law_mix cd_law_mix ct_law_mix) ["_law_cell", "_law_factor", "_law_prime"] [] := Binds.all fun us hl => match us, hl with | [_, _, _], _ => rfl
  have F_law_coin := fund_mk (x := "_law_coin") (qual := "_law_coin") (st := s__law_coin) l_law_coin c_law_coin k_law_coin
  have b_law_coin : Binds K (PySem.W.fnOf "_law_coin" "_law_coin" (defArgs s__law_coin) (defBody s__law_coin) (defScope s__law_coin) .none kV_law_coin dc_law_coin pm_law_coin an_law_coin cd_law_coin ct_law_coin) ["_law_cell"] [] := Binds.all fun us hl => match us, hl with | [_], _ => rfl
  have F_law_fields := fund_mk (x := "_law_fields") (qual := "_law_fields") (st := s__law_fields) l_law_fields c_law_fields k_law_fields
  have b_law_fields : Binds K (PySem.W.fnOf "_law_fields" "_law_fields" (defArgs s__law_fields) (defBody s__law_fields) (defScope s__law_fields) .none kV_law_fields dc_law_fields pm_law_fields an_law_fields cd_law_fields ct_law_fields) ["_law_own"] [] := Binds.all fun us hl => match us, hl with | [_], _ => rfl
  have F_law_one_named := fund_mk (x := "_law_one_named") (qual := "_law_one_named") (st := s__law_one_named) l_law_one_named c_law_one_named k_law_one_named
  have b_law_one_named : Binds K (PySem.W.fnOf "_law_one_named" "_law_one_named" (defArgs s__law_one_named) (defBody s__law_one_named) (defScope s__law_one_named) .none kV_law_one_named dc_law_one_named pm_law_one_named an_law_one_named cd_law_one_named ct_law_one_named) ["_law_branch", "_law_least", "_law_top", "_law_bits", "_law_pick"] [] := Binds.all fun us hl => match us, hl with | [_, _, _, _, _], _ => rfl
  have F_law_marks_by := fund_mk (x := "_law_marks_by") (qual := "_law_marks_by") (st := s__law_marks_by) l_law_marks_by c_law_marks_by k_law_marks_by
  have b_law_marks_by : Binds K (PySem.W.fnOf "_law_marks_by" "_law_marks_by" (defArgs s__law_marks_by) (defBody s__law_marks_by) (defScope s__law_marks_by) .none kV_law_marks_by dc_law_marks_by pm_law_marks_by an_law_marks_by cd_law_marks_by ct_law_marks_by) ["_law_cell"] [] := Binds.all fun us hl => match us, hl with | [_], _ => rfl
  have F_law_made := fund_mk (x := "_law_made") (qual := "_law_made") (st := s__law_made) l_law_made c_law_made k_law_made
  have b_law_made : Binds K (PySem.W.fnOf "_law_made" "_law_made" (defArgs s__law_made) (defBody s__law_made) (defScope s__law_made) .none kV_law_made dc_law_made pm_law_made an_law_made cd_law_made ct_law_made) ["_law_cell", "_law_own", "_law_how"] [] := Binds.all fun us hl => match us, hl with | [_, _, _], _ => rfl
  have F_law_right := fund_mk (x := "_law_right") (qual := "_law_right") (st := s__law_right) l_law_right c_law_right k_law_right
  have b_law_right : Binds K (PySem.W.fnOf "_law_right" "_law_right" (defArgs s__law_right) (defBody s__law_right) (defScope s__law_right) .none kV_law_right dc_law_right pm_law_right an_law_right cd_law_right ct_law_right) ["_law_voucher", "_law_cell", "_law_how"] [] := Binds.all fun us hl => match us, hl with | [_, _, _], _ => rfl
  have Flaw := fund_mk (x := "law") (qual := "law") (st := s_law) llaw claw klaw
  have blaw : Binds K (PySem.W.fnOf "law" "law" (defArgs s_law) (defBody s_law) (defScope s_law) .none kVlaw dclaw pmlaw anlaw cdlaw ctlaw) ["_law_script"] [] := Binds.all fun us hl => match us, hl with | [_], _ => rfl
  have FMarks_init := fund_mk (x := "__init__") (qual := "Marks.__init__") (st := s_Marks_init) lMarks_init cMarks_init kMarks_init
  have bMarks_init : Binds K (PySem.W.fnOf "__init__" "Marks.__init__" (defArgs s_Marks_init) (defBody s_Marks_init) (defScope s_Marks_init) (.ref TMarks_init) kVMarks_init dcMarks_init pmMarks_init anMarks_init cdMarks_init ctMarks_init) ["self", "kind", "needs", "most", "member", "once", "lone"] [] := fun s us KX hl => match us, hl with | [_, _, _, _, _, _, _], _ => BindsTo.of_defaults rfl (KX _ _ tMarks_init) rfl rfl rfl
  have b1_Marks_init : Binds K (PySem.W.fnOf "__init__" "Marks.__init__" (defArgs s_Marks_init) (defBody s_Marks_init) (defScope s_Marks_init) (.ref TMarks_init) kVMarks_init dcMarks_init pmMarks_init anMarks_init cdMarks_init ctMarks_init) ["self", "kind", "needs", "most", "member", "once", "lone"] [.bool false] := fun s us KX hl => by
    have hl' : us.length = 6 := by simpa using hl
    match us, hl' with
    | [_, _, _, _, _, _], _ => exact BindsTo.of_defaults rfl (KX _ _ tMarks_init) rfl rfl rfl
  have b2_Marks_init : Binds K (PySem.W.fnOf "__init__" "Marks.__init__" (defArgs s_Marks_init) (defBody s_Marks_init) (defScope s_Marks_init) (.ref TMarks_init) kVMarks_init dcMarks_init pmMarks_init anMarks_init cdMarks_init ctMarks_init) ["self", "kind", "needs", "most", "member", "once", "lone"] [.bool false, .bool false] := fun s us KX hl => by
    have hl' : us.length = 5 := by simpa using hl
    match us, hl' with
    | [_, _, _, _, _], _ => exact BindsTo.of_defaults rfl (KX _ _ tMarks_init) rfl rfl rfl
  have b3_Marks_init : Binds K (PySem.W.fnOf "__init__" "Marks.__init__" (defArgs s_Marks_init) (defBody s_Marks_init) (defScope s_Marks_init) (.ref TMarks_init) kVMarks_init dcMarks_init pmMarks_init anMarks_init cdMarks_init ctMarks_init) ["self", "kind", "needs", "most", "member", "once", "lone"] [.bool false, .bool false, .bool false] := fun s us KX hl => by
    have hl' : us.length = 4 := by simpa using hl
    match us, hl' with
    | [_, _, _, _], _ => exact BindsTo.of_defaults rfl (KX _ _ tMarks_init) rfl rfl rfl
  have b4_Marks_init : Binds K (PySem.W.fnOf "__init__" "Marks.__init__" (defArgs s_Marks_init) (defBody s_Marks_init) (defScope s_Marks_init) (.ref TMarks_init) kVMarks_init dcMarks_init pmMarks_init anMarks_init cdMarks_init ctMarks_init) ["self", "kind", "needs", "most", "member", "once", "lone"] [.none, .bool false, .bool false, .bool false] := fun s us KX hl => by
    have hl' : us.length = 3 := by simpa using hl
    match us, hl' with
    | [_, _, _], _ => exact BindsTo.of_defaults rfl (KX _ _ tMarks_init) rfl rfl rfl
  have b5_Marks_init : Binds K (PySem.W.fnOf "__init__" "Marks.__init__" (defArgs s_Marks_init) (defBody s_Marks_init) (defScope s_Marks_init) (.ref TMarks_init) kVMarks_init dcMarks_init pmMarks_init anMarks_init cdMarks_init ctMarks_init) ["self", "kind", "needs", "most", "member", "once", "lone"] [.int 0 tok1_Marks_init, .none, .bool false, .bool false, .bool false] := fun s us KX hl => by
    have hl' : us.length = 2 := by simpa using hl
    match us, hl' with
    | [_, _], _ => exact BindsTo.of_defaults rfl (KX _ _ tMarks_init) rfl rfl rfl
  have b6_Marks_init : Binds K (PySem.W.fnOf "__init__" "Marks.__init__" (defArgs s_Marks_init) (defBody s_Marks_init) (defScope s_Marks_init) (.ref TMarks_init) kVMarks_init dcMarks_init pmMarks_init anMarks_init cdMarks_init ctMarks_init) ["self", "kind", "needs", "most", "member", "once", "lone"] [.none, .int 0 tok1_Marks_init, .none, .bool false, .bool false, .bool false] := fun s us KX hl => by
    have hl' : us.length = 1 := by simpa using hl
    match us, hl' with
    | [_], _ => exact BindsTo.of_defaults rfl (KX _ _ tMarks_init) rfl rfl rfl
  have FVoucher_init := fund_mk (x := "__init__") (qual := "Voucher.__init__") (st := s_Voucher_init) lVoucher_init cVoucher_init kVoucher_init
  have bVoucher_init : Binds K (PySem.W.fnOf "__init__" "Voucher.__init__" (defArgs s_Voucher_init) (defBody s_Voucher_init) (defScope s_Voucher_init) (.ref TVoucher_init) kVVoucher_init dcVoucher_init pmVoucher_init anVoucher_init cdVoucher_init ctVoucher_init) ["self", "marks"] [] := fun s us KX hl => match us, hl with | [_, _], _ => BindsTo.of_defaults rfl (KX _ _ tVoucher_init) rfl rfl rfl
  have b1_Voucher_init : Binds K (PySem.W.fnOf "__init__" "Voucher.__init__" (defArgs s_Voucher_init) (defBody s_Voucher_init) (defScope s_Voucher_init) (.ref TVoucher_init) kVVoucher_init dcVoucher_init pmVoucher_init anVoucher_init cdVoucher_init ctVoucher_init) ["self", "marks"] [.none] := fun s us KX hl => by
    have hl' : us.length = 1 := by simpa using hl
    match us, hl' with
    | [_], _ => exact BindsTo.of_defaults rfl (KX _ _ tVoucher_init) rfl rfl rfl
  have FOff_init := fund_mk (x := "__init__") (qual := "Off.__init__") (st := s_Off_init) lOff_init cOff_init kOff_init
  have bOff_init : Binds K (PySem.W.fnOf "__init__" "Off.__init__" (defArgs s_Off_init) (defBody s_Off_init) (defScope s_Off_init) (.ref TOff_init) kVOff_init dcOff_init pmOff_init anOff_init cdOff_init ctOff_init) ["self", "amount", "marks"] [] := fun s us KX hl => match us, hl with | [_, _, _], _ => BindsTo.of_defaults rfl (KX _ _ tOff_init) rfl rfl rfl
  have b1_Off_init : Binds K (PySem.W.fnOf "__init__" "Off.__init__" (defArgs s_Off_init) (defBody s_Off_init) (defScope s_Off_init) (.ref TOff_init) kVOff_init dcOff_init pmOff_init anOff_init cdOff_init ctOff_init) ["self", "amount", "marks"] [.none] := fun s us KX hl => by
    have hl' : us.length = 2 := by simpa using hl
    match us, hl' with
    | [_, _], _ => exact BindsTo.of_defaults rfl (KX _ _ tOff_init) rfl rfl rfl
  have FShare_init := fund_mk (x := "__init__") (qual := "Share.__init__") (st := s_Share_init) lShare_init cShare_init kShare_init
  have bShare_init : Binds K (PySem.W.fnOf "__init__" "Share.__init__" (defArgs s_Share_init) (defBody s_Share_init) (defScope s_Share_init) (.ref TShare_init) kVShare_init dcShare_init pmShare_init anShare_init cdShare_init ctShare_init) ["self", "share", "by_line", "marks"] [] := fun s us KX hl => match us, hl with | [_, _, _, _], _ => BindsTo.of_defaults rfl (KX _ _ tShare_init) rfl rfl rfl
  have b1_Share_init : Binds K (PySem.W.fnOf "__init__" "Share.__init__" (defArgs s_Share_init) (defBody s_Share_init) (defScope s_Share_init) (.ref TShare_init) kVShare_init dcShare_init pmShare_init anShare_init cdShare_init ctShare_init) ["self", "share", "by_line", "marks"] [.none] := fun s us KX hl => by
    have hl' : us.length = 3 := by simpa using hl
    match us, hl' with
    | [_, _, _], _ => exact BindsTo.of_defaults rfl (KX _ _ tShare_init) rfl rfl rfl
  have b2_Share_init : Binds K (PySem.W.fnOf "__init__" "Share.__init__" (defArgs s_Share_init) (defBody s_Share_init) (defScope s_Share_init) (.ref TShare_init) kVShare_init dcShare_init pmShare_init anShare_init cdShare_init ctShare_init) ["self", "share", "by_line", "marks"] [.bool false, .none] := fun s us KX hl => by
    have hl' : us.length = 2 := by simpa using hl
    match us, hl' with
    | [_, _], _ => exact BindsTo.of_defaults rfl (KX _ _ tShare_init) rfl rfl rfl
  have FCheapest_init := fund_mk (x := "__init__") (qual := "Cheapest.__init__") (st := s_Cheapest_init) lCheapest_init cCheapest_init kCheapest_init
  have bCheapest_init : Binds K (PySem.W.fnOf "__init__" "Cheapest.__init__" (defArgs s_Cheapest_init) (defBody s_Cheapest_init) (defScope s_Cheapest_init) (.ref TCheapest_init) kVCheapest_init dcCheapest_init pmCheapest_init anCheapest_init cdCheapest_init ctCheapest_init) ["self", "many", "marks"] [] := fun s us KX hl => match us, hl with | [_, _, _], _ => BindsTo.of_defaults rfl (KX _ _ tCheapest_init) rfl rfl rfl
  have b1_Cheapest_init : Binds K (PySem.W.fnOf "__init__" "Cheapest.__init__" (defArgs s_Cheapest_init) (defBody s_Cheapest_init) (defScope s_Cheapest_init) (.ref TCheapest_init) kVCheapest_init dcCheapest_init pmCheapest_init anCheapest_init cdCheapest_init ctCheapest_init) ["self", "many", "marks"] [.none] := fun s us KX hl => by
    have hl' : us.length = 2 := by simpa using hl
    match us, hl' with
    | [_, _], _ => exact BindsTo.of_defaults rfl (KX _ _ tCheapest_init) rfl rfl rfl
  have FBundle_init := fund_mk (x := "__init__") (qual := "Bundle.__init__") (st := s_Bundle_init) lBundle_init cBundle_init kBundle_init
  have bBundle_init : Binds K (PySem.W.fnOf "__init__" "Bundle.__init__" (defArgs s_Bundle_init) (defBody s_Bundle_init) (defScope s_Bundle_init) (.ref TBundle_init) kVBundle_init dcBundle_init pmBundle_init anBundle_init cdBundle_init ctBundle_init) ["self", "many", "price", "marks"] [] := fun s us KX hl => match us, hl with | [_, _, _, _], _ => BindsTo.of_defaults rfl (KX _ _ tBundle_init) rfl rfl rfl
  have b1_Bundle_init : Binds K (PySem.W.fnOf "__init__" "Bundle.__init__" (defArgs s_Bundle_init) (defBody s_Bundle_init) (defScope s_Bundle_init) (.ref TBundle_init) kVBundle_init dcBundle_init pmBundle_init anBundle_init cdBundle_init ctBundle_init) ["self", "many", "price", "marks"] [.none] := fun s us KX hl => by
    have hl' : us.length = 3 := by simpa using hl
    match us, hl' with
    | [_, _, _], _ => exact BindsTo.of_defaults rfl (KX _ _ tBundle_init) rfl rfl rfl
  have FCarriage_init := fund_mk (x := "__init__") (qual := "Carriage.__init__") (st := s_Carriage_init) lCarriage_init cCarriage_init kCarriage_init
  have bCarriage_init : Binds K (PySem.W.fnOf "__init__" "Carriage.__init__" (defArgs s_Carriage_init) (defBody s_Carriage_init) (defScope s_Carriage_init) (.ref TCarriage_init) kVCarriage_init dcCarriage_init pmCarriage_init anCarriage_init cdCarriage_init ctCarriage_init) ["self", "marks"] [] := fun s us KX hl => match us, hl with | [_, _], _ => BindsTo.of_defaults rfl (KX _ _ tCarriage_init) rfl rfl rfl
  have b1_Carriage_init : Binds K (PySem.W.fnOf "__init__" "Carriage.__init__" (defArgs s_Carriage_init) (defBody s_Carriage_init) (defScope s_Carriage_init) (.ref TCarriage_init) kVCarriage_init dcCarriage_init pmCarriage_init anCarriage_init cdCarriage_init ctCarriage_init) ["self", "marks"] [.none] := fun s us KX hl => by
    have hl' : us.length = 1 := by simpa using hl
    match us, hl' with
    | [_], _ => exact BindsTo.of_defaults rfl (KX _ _ tCarriage_init) rfl rfl rfl
  have kb_Marks_0_kind : KBinds K (PySem.W.fnOf "__init__" "Marks.__init__" (defArgs s_Marks_init) (defBody s_Marks_init) (defScope s_Marks_init) (.ref TMarks_init) kVMarks_init dcMarks_init pmMarks_init anMarks_init cdMarks_init ctMarks_init) ["self", "kind", "needs", "most", "member", "once", "lone"] ["kind"] (gk 1 1 [.p 0, .k 0, .d (.int 0 tok1_Marks_init) (.int 0), .d (.none) (.non), .d (.bool false) (.bl false), .d (.bool false) (.bl false), .d (.bool false) (.bl false)]) (gkV 1 1 [.p 0, .k 0, .d (.int 0 tok1_Marks_init) (.int 0), .d (.none) (.non), .d (.bool false) (.bl false), .d (.bool false) (.bl false), .d (.bool false) (.bl false)]) := ⟨fun s us ws KX hl => by
    obtain ⟨l1, l2⟩ := gk_len (n := 6) hl
    match us, ws, l1, l2 with
    | [_], [_], _, _ => exact BindsTo.of_defaults rfl (KX _ _ tMarks_init) rfl rfl rfl, fun h1 h2 => gk_rel (fun s hs => by
    simp only [List.mem_cons, List.not_mem_nil, or_false] at hs
    rcases hs with rfl | rfl | rfl | rfl | rfl | rfl | rfl <;> first | exact trivial | exact rfl | exact ⟨_, rfl⟩) h1 h2⟩
  have kb_Marks_0_needs : KBinds K (PySem.W.fnOf "__init__" "Marks.__init__" (defArgs s_Marks_init) (defBody s_Marks_init) (defScope s_Marks_init) (.ref TMarks_init) kVMarks_init dcMarks_init pmMarks_init anMarks_init cdMarks_init ctMarks_init) ["self", "kind", "needs", "most", "member", "once", "lone"] ["needs"] (gk 1 1 [.p 0, .d (.none) (.non), .k 0, .d (.none) (.non), .d (.bool false) (.bl false), .d (.bool false) (.bl false), .d (.bool false) (.bl false)]) (gkV 1 1 [.p 0, .d (.none) (.non), .k 0, .d (.none) (.non), .d (.bool false) (.bl false), .d (.bool false) (.bl false), .d (.bool false) (.bl false)]) := ⟨fun s us ws KX hl => by
    obtain ⟨l1, l2⟩ := gk_len (n := 6) hl
    match us, ws, l1, l2 with
    | [_], [_], _, _ => exact BindsTo.of_defaults rfl (KX _ _ tMarks_init) rfl rfl rfl, fun h1 h2 => gk_rel (fun s hs => by
    simp only [List.mem_cons, List.not_mem_nil, or_false] at hs
    rcases hs with rfl | rfl | rfl | rfl | rfl | rfl | rfl <;> first | exact trivial | exact rfl | exact ⟨_, rfl⟩) h1 h2⟩
  have kb_Marks_0_most : KBinds K (PySem.W.fnOf "__init__" "Marks.__init__" (defArgs s_Marks_init) (defBody s_Marks_init) (defScope s_Marks_init) (.ref TMarks_init) kVMarks_init dcMarks_init pmMarks_init anMarks_init cdMarks_init ctMarks_init) ["self", "kind", "needs", "most", "member", "once", "lone"] ["most"] (gk 1 1 [.p 0, .d (.none) (.non), .d (.int 0 tok1_Marks_init) (.int 0), .k 0, .d (.bool false) (.bl false), .d (.bool false) (.bl false), .d (.bool false) (.bl false)]) (gkV 1 1 [.p 0, .d (.none) (.non), .d (.int 0 tok1_Marks_init) (.int 0), .k 0, .d (.bool false) (.bl false), .d (.bool false) (.bl false), .d (.bool false) (.bl false)]) := ⟨fun s us ws KX hl => by
    obtain ⟨l1, l2⟩ := gk_len (n := 6) hl
    match us, ws, l1, l2 with
    | [_], [_], _, _ => exact BindsTo.of_defaults rfl (KX _ _ tMarks_init) rfl rfl rfl, fun h1 h2 => gk_rel (fun s hs => by
    simp only [List.mem_cons, List.not_mem_nil, or_false] at hs
    rcases hs with rfl | rfl | rfl | rfl | rfl | rfl | rfl <;> first | exact trivial | exact rfl | exact ⟨_, rfl⟩) h1 h2⟩
  have kb_Marks_0_lone_once_member_most_needs_kind : KBinds K (PySem.W.fnOf "__init__" "Marks.__init__" (defArgs s_Marks_init) (defBody s_Marks_init) (defScope s_Marks_init) (.ref TMarks_init) kVMarks_init dcMarks_init pmMarks_init anMarks_init cdMarks_init ctMarks_init) ["self", "kind", "needs", "most", "member", "once", "lone"] ["lone", "once", "member", "most", "needs", "kind"] (gk 1 6 [.p 0, .k 5, .k 4, .k 3, .k 2, .k 1, .k 0]) (gkV 1 6 [.p 0, .k 5, .k 4, .k 3, .k 2, .k 1, .k 0]) := ⟨fun s us ws KX hl => by
    obtain ⟨l1, l2⟩ := gk_len (n := 6) hl
    match us, ws, l1, l2 with
    | [_], [_, _, _, _, _, _], _, _ => exact BindsTo.of_defaults rfl (KX _ _ tMarks_init) rfl rfl rfl, fun h1 h2 => gk_rel (fun s hs => by
    simp only [List.mem_cons, List.not_mem_nil, or_false] at hs
    rcases hs with rfl | rfl | rfl | rfl | rfl | rfl | rfl <;> first | exact trivial | exact rfl | exact ⟨_, rfl⟩) h1 h2⟩
  have kb_Marks_0_member : KBinds K (PySem.W.fnOf "__init__" "Marks.__init__" (defArgs s_Marks_init) (defBody s_Marks_init) (defScope s_Marks_init) (.ref TMarks_init) kVMarks_init dcMarks_init pmMarks_init anMarks_init cdMarks_init ctMarks_init) ["self", "kind", "needs", "most", "member", "once", "lone"] ["member"] (gk 1 1 [.p 0, .d (.none) (.non), .d (.int 0 tok1_Marks_init) (.int 0), .d (.none) (.non), .k 0, .d (.bool false) (.bl false), .d (.bool false) (.bl false)]) (gkV 1 1 [.p 0, .d (.none) (.non), .d (.int 0 tok1_Marks_init) (.int 0), .d (.none) (.non), .k 0, .d (.bool false) (.bl false), .d (.bool false) (.bl false)]) := ⟨fun s us ws KX hl => by
    obtain ⟨l1, l2⟩ := gk_len (n := 6) hl
    match us, ws, l1, l2 with
    | [_], [_], _, _ => exact BindsTo.of_defaults rfl (KX _ _ tMarks_init) rfl rfl rfl, fun h1 h2 => gk_rel (fun s hs => by
    simp only [List.mem_cons, List.not_mem_nil, or_false] at hs
    rcases hs with rfl | rfl | rfl | rfl | rfl | rfl | rfl <;> first | exact trivial | exact rfl | exact ⟨_, rfl⟩) h1 h2⟩
  have kb_Marks_0_once : KBinds K (PySem.W.fnOf "__init__" "Marks.__init__" (defArgs s_Marks_init) (defBody s_Marks_init) (defScope s_Marks_init) (.ref TMarks_init) kVMarks_init dcMarks_init pmMarks_init anMarks_init cdMarks_init ctMarks_init) ["self", "kind", "needs", "most", "member", "once", "lone"] ["once"] (gk 1 1 [.p 0, .d (.none) (.non), .d (.int 0 tok1_Marks_init) (.int 0), .d (.none) (.non), .d (.bool false) (.bl false), .k 0, .d (.bool false) (.bl false)]) (gkV 1 1 [.p 0, .d (.none) (.non), .d (.int 0 tok1_Marks_init) (.int 0), .d (.none) (.non), .d (.bool false) (.bl false), .k 0, .d (.bool false) (.bl false)]) := ⟨fun s us ws KX hl => by
    obtain ⟨l1, l2⟩ := gk_len (n := 6) hl
    match us, ws, l1, l2 with
    | [_], [_], _, _ => exact BindsTo.of_defaults rfl (KX _ _ tMarks_init) rfl rfl rfl, fun h1 h2 => gk_rel (fun s hs => by
    simp only [List.mem_cons, List.not_mem_nil, or_false] at hs
    rcases hs with rfl | rfl | rfl | rfl | rfl | rfl | rfl <;> first | exact trivial | exact rfl | exact ⟨_, rfl⟩) h1 h2⟩
  have kb_Marks_0_lone : KBinds K (PySem.W.fnOf "__init__" "Marks.__init__" (defArgs s_Marks_init) (defBody s_Marks_init) (defScope s_Marks_init) (.ref TMarks_init) kVMarks_init dcMarks_init pmMarks_init anMarks_init cdMarks_init ctMarks_init) ["self", "kind", "needs", "most", "member", "once", "lone"] ["lone"] (gk 1 1 [.p 0, .d (.none) (.non), .d (.int 0 tok1_Marks_init) (.int 0), .d (.none) (.non), .d (.bool false) (.bl false), .d (.bool false) (.bl false), .k 0]) (gkV 1 1 [.p 0, .d (.none) (.non), .d (.int 0 tok1_Marks_init) (.int 0), .d (.none) (.non), .d (.bool false) (.bl false), .d (.bool false) (.bl false), .k 0]) := ⟨fun s us ws KX hl => by
    obtain ⟨l1, l2⟩ := gk_len (n := 6) hl
    match us, ws, l1, l2 with
    | [_], [_], _, _ => exact BindsTo.of_defaults rfl (KX _ _ tMarks_init) rfl rfl rfl, fun h1 h2 => gk_rel (fun s hs => by
    simp only [List.mem_cons, List.not_mem_nil, or_false] at hs
    rcases hs with rfl | rfl | rfl | rfl | rfl | rfl | rfl <;> first | exact trivial | exact rfl | exact ⟨_, rfl⟩) h1 h2⟩
  have kb_Carriage_0_marks : KBinds K (PySem.W.fnOf "__init__" "Carriage.__init__" (defArgs s_Carriage_init) (defBody s_Carriage_init) (defScope s_Carriage_init) (.ref TCarriage_init) kVCarriage_init dcCarriage_init pmCarriage_init anCarriage_init cdCarriage_init ctCarriage_init) ["self", "marks"] ["marks"] (gk 1 1 [.p 0, .k 0]) (gkV 1 1 [.p 0, .k 0]) := ⟨fun s us ws KX hl => by
    obtain ⟨l1, l2⟩ := gk_len (n := 1) hl
    match us, ws, l1, l2 with
    | [_], [_], _, _ => exact BindsTo.of_defaults rfl (KX _ _ tCarriage_init) rfl rfl rfl, fun h1 h2 => gk_rel (fun s hs => by
    simp only [List.mem_cons, List.not_mem_nil, or_false] at hs
    rcases hs with rfl | rfl <;> first | exact trivial | exact rfl | exact ⟨_, rfl⟩) h1 h2⟩
  have kb_Off_1_marks : KBinds K (PySem.W.fnOf "__init__" "Off.__init__" (defArgs s_Off_init) (defBody s_Off_init) (defScope s_Off_init) (.ref TOff_init) kVOff_init dcOff_init pmOff_init anOff_init cdOff_init ctOff_init) ["self", "amount", "marks"] ["marks"] (gk 2 1 [.p 0, .p 1, .k 0]) (gkV 2 1 [.p 0, .p 1, .k 0]) := ⟨fun s us ws KX hl => by
    obtain ⟨l1, l2⟩ := gk_len (n := 2) hl
    match us, ws, l1, l2 with
    | [_, _], [_], _, _ => exact BindsTo.of_defaults rfl (KX _ _ tOff_init) rfl rfl rfl, fun h1 h2 => gk_rel (fun s hs => by
    simp only [List.mem_cons, List.not_mem_nil, or_false] at hs
    rcases hs with rfl | rfl | rfl <;> first | exact trivial | exact rfl | exact ⟨_, rfl⟩) h1 h2⟩
  have kb_Share_1_marks : KBinds K (PySem.W.fnOf "__init__" "Share.__init__" (defArgs s_Share_init) (defBody s_Share_init) (defScope s_Share_init) (.ref TShare_init) kVShare_init dcShare_init pmShare_init anShare_init cdShare_init ctShare_init) ["self", "share", "by_line", "marks"] ["marks"] (gk 2 1 [.p 0, .p 1, .d (.bool false) (.bl false), .k 0]) (gkV 2 1 [.p 0, .p 1, .d (.bool false) (.bl false), .k 0]) := ⟨fun s us ws KX hl => by
    obtain ⟨l1, l2⟩ := gk_len (n := 3) hl
    match us, ws, l1, l2 with
    | [_, _], [_], _, _ => exact BindsTo.of_defaults rfl (KX _ _ tShare_init) rfl rfl rfl, fun h1 h2 => gk_rel (fun s hs => by
    simp only [List.mem_cons, List.not_mem_nil, or_false] at hs
    rcases hs with rfl | rfl | rfl | rfl <;> first | exact trivial | exact rfl | exact ⟨_, rfl⟩) h1 h2⟩
  have kb_Cheapest_1_marks : KBinds K (PySem.W.fnOf "__init__" "Cheapest.__init__" (defArgs s_Cheapest_init) (defBody s_Cheapest_init) (defScope s_Cheapest_init) (.ref TCheapest_init) kVCheapest_init dcCheapest_init pmCheapest_init anCheapest_init cdCheapest_init ctCheapest_init) ["self", "many", "marks"] ["marks"] (gk 2 1 [.p 0, .p 1, .k 0]) (gkV 2 1 [.p 0, .p 1, .k 0]) := ⟨fun s us ws KX hl => by
    obtain ⟨l1, l2⟩ := gk_len (n := 2) hl
    match us, ws, l1, l2 with
    | [_, _], [_], _, _ => exact BindsTo.of_defaults rfl (KX _ _ tCheapest_init) rfl rfl rfl, fun h1 h2 => gk_rel (fun s hs => by
    simp only [List.mem_cons, List.not_mem_nil, or_false] at hs
    rcases hs with rfl | rfl | rfl <;> first | exact trivial | exact rfl | exact ⟨_, rfl⟩) h1 h2⟩
  have kb_Bundle_2_marks : KBinds K (PySem.W.fnOf "__init__" "Bundle.__init__" (defArgs s_Bundle_init) (defBody s_Bundle_init) (defScope s_Bundle_init) (.ref TBundle_init) kVBundle_init dcBundle_init pmBundle_init anBundle_init cdBundle_init ctBundle_init) ["self", "many", "price", "marks"] ["marks"] (gk 3 1 [.p 0, .p 1, .p 2, .k 0]) (gkV 3 1 [.p 0, .p 1, .p 2, .k 0]) := ⟨fun s us ws KX hl => by
    obtain ⟨l1, l2⟩ := gk_len (n := 3) hl
    match us, ws, l1, l2 with
    | [_, _, _], [_], _, _ => exact BindsTo.of_defaults rfl (KX _ _ tBundle_init) rfl rfl rfl, fun h1 h2 => gk_rel (fun s hs => by
    simp only [List.mem_cons, List.not_mem_nil, or_false] at hs
    rcases hs with rfl | rfl | rfl | rfl <;> first | exact trivial | exact rfl | exact ⟨_, rfl⟩) h1 h2⟩
  have W : Wld K mg ⟨(f_law_whole), (PySem.W.fnOf "_law_whole" "_law_whole" (defArgs s__law_whole) (defBody s__law_whole) (defScope s__law_whole) .none kV_law_whole dc_law_whole pm_law_whole an_law_whole cd_law_whole ct_law_whole), (f_law_mix), (PySem.W.fnOf "_law_mix" "_law_mix" (defArgs s__law_mix) (defBody s__law_mix) (defScope s__law_mix) .none kV_law_mix dc_law_mix pm_law_mix an_law_mix cd_law_mix ct_law_mix), (f_law_coin), (PySem.W.fnOf "_law_coin" "_law_coin" (defArgs s__law_coin) (defBody s__law_coin) (defScope s__law_coin) .none kV_law_coin dc_law_coin pm_law_coin an_law_coin cd_law_coin ct_law_coin), (f_law_fields), (PySem.W.fnOf "_law_fields" "_law_fields" (defArgs s__law_fields) (defBody s__law_fields) (defScope s__law_fields) .none kV_law_fields dc_law_fields pm_law_fields an_law_fields cd_law_fields ct_law_fields), (f_law_one_named), (PySem.W.fnOf "_law_one_named" "_law_one_named" (defArgs s__law_one_named) (defBody s__law_one_named) (defScope s__law_one_named) .none kV_law_one_named dc_law_one_named pm_law_one_named an_law_one_named cd_law_one_named ct_law_one_named), (f_law_marks_by), (PySem.W.fnOf "_law_marks_by" "_law_marks_by" (defArgs s__law_marks_by) (defBody s__law_marks_by) (defScope s__law_marks_by) .none kV_law_marks_by dc_law_marks_by pm_law_marks_by an_law_marks_by cd_law_marks_by ct_law_marks_by), (f_law_made), (PySem.W.fnOf "_law_made" "_law_made" (defArgs s__law_made) (defBody s__law_made) (defScope s__law_made) .none kV_law_made dc_law_made pm_law_made an_law_made cd_law_made ct_law_made), (f_law_right), (PySem.W.fnOf "_law_right" "_law_right" (defArgs s__law_right) (defBody s__law_right) (defScope s__law_right) .none kV_law_right dc_law_right pm_law_right an_law_right cd_law_right ct_law_right), (flaw), (PySem.W.fnOf "law" "law" (defArgs s_law) (defBody s_law) (defScope s_law) .none kVlaw dclaw pmlaw anlaw cdlaw ctlaw), (CMarks), (fMarks_init), (PySem.W.fnOf "__init__" "Marks.__init__" (defArgs s_Marks_init) (defBody s_Marks_init) (defScope s_Marks_init) (.ref TMarks_init) kVMarks_init dcMarks_init pmMarks_init anMarks_init cdMarks_init ctMarks_init), (tok1_Marks_init), (CVoucher), (fVoucher_init), (PySem.W.fnOf "__init__" "Voucher.__init__" (defArgs s_Voucher_init) (defBody s_Voucher_init) (defScope s_Voucher_init) (.ref TVoucher_init) kVVoucher_init dcVoucher_init pmVoucher_init anVoucher_init cdVoucher_init ctVoucher_init), (COff), (fOff_init), (PySem.W.fnOf "__init__" "Off.__init__" (defArgs s_Off_init) (defBody s_Off_init) (defScope s_Off_init) (.ref TOff_init) kVOff_init dcOff_init pmOff_init anOff_init cdOff_init ctOff_init), (CShare), (fShare_init), (PySem.W.fnOf "__init__" "Share.__init__" (defArgs s_Share_init) (defBody s_Share_init) (defScope s_Share_init) (.ref TShare_init) kVShare_init dcShare_init pmShare_init anShare_init cdShare_init ctShare_init), (CCheapest), (fCheapest_init), (PySem.W.fnOf "__init__" "Cheapest.__init__" (defArgs s_Cheapest_init) (defBody s_Cheapest_init) (defScope s_Cheapest_init) (.ref TCheapest_init) kVCheapest_init dcCheapest_init pmCheapest_init anCheapest_init cdCheapest_init ctCheapest_init), (CBundle), (fBundle_init), (PySem.W.fnOf "__init__" "Bundle.__init__" (defArgs s_Bundle_init) (defBody s_Bundle_init) (defScope s_Bundle_init) (.ref TBundle_init) kVBundle_init dcBundle_init pmBundle_init anBundle_init cdBundle_init ctBundle_init), (CCarriage), (fCarriage_init), (PySem.W.fnOf "__init__" "Carriage.__init__" (defArgs s_Carriage_init) (defBody s_Carriage_init) (defScope s_Carriage_init) (.ref TCarriage_init) kVCarriage_init dcCarriage_init pmCarriage_init anCarriage_init cdCarriage_init ctCarriage_init)⟩ := ⟨B, ⟨F_law_whole, b_law_whole, PySem.W.mg_of X G a_law_whole⟩, ⟨F_law_mix, b_law_mix, PySem.W.mg_of X G a_law_mix⟩, ⟨F_law_coin, b_law_coin, PySem.W.mg_of X G a_law_coin⟩, ⟨F_law_fields, b_law_fields, PySem.W.mg_of X G a_law_fields⟩, ⟨F_law_one_named, b_law_one_named, PySem.W.mg_of X G a_law_one_named⟩, ⟨F_law_marks_by, b_law_marks_by, PySem.W.mg_of X G a_law_marks_by⟩, ⟨F_law_made, b_law_made, PySem.W.mg_of X G a_law_made⟩, ⟨F_law_right, b_law_right, PySem.W.mg_of X G a_law_right⟩, ⟨Flaw, blaw, PySem.W.mg_of X G alaw⟩, ⟨⟨pgMarks, hdMarks, poMarks, saMarks⟩, PySem.W.mg_of X G aMarks, ⟨iaMarks, inMarks, itMarks, imMarks⟩, isMarks, iyMarks, mkMarks, kcMarks⟩, nMarks_kind, nMarks_needs, nMarks_most, nMarks_member, nMarks_once, nMarks_lone, ⟨hMarks_init, iMarks_init, FMarks_init, bMarks_init⟩, b1_Marks_init, b2_Marks_init, b3_Marks_init, b4_Marks_init, b5_Marks_init, b6_Marks_init, ⟨⟨pgVoucher, hdVoucher, poVoucher, saVoucher⟩, PySem.W.mg_of X G aVoucher, ⟨iaVoucher, inVoucher, itVoucher, imVoucher⟩, isVoucher, iyVoucher, mkVoucher, kcVoucher⟩, nVoucher_marks, ⟨hVoucher_init, iVoucher_init, FVoucher_init, bVoucher_init⟩, b1_Voucher_init, ⟨⟨pgOff, hdOff, poOff, saOff⟩, PySem.W.mg_of X G aOff, ⟨iaOff, inOff, itOff, imOff⟩, isOff, iyOff, mkOff, kcOff⟩, nOff_amount, nOff_marks, ⟨hOff_init, iOff_init, FOff_init, bOff_init⟩, b1_Off_init, ⟨⟨pgShare, hdShare, poShare, saShare⟩, PySem.W.mg_of X G aShare, ⟨iaShare, inShare, itShare, imShare⟩, isShare, iyShare, mkShare, kcShare⟩, nShare_share, nShare_by_line, nShare_marks, ⟨hShare_init, iShare_init, FShare_init, bShare_init⟩, b1_Share_init, b2_Share_init, ⟨⟨pgCheapest, hdCheapest, poCheapest, saCheapest⟩, PySem.W.mg_of X G aCheapest, ⟨iaCheapest, inCheapest, itCheapest, imCheapest⟩, isCheapest, iyCheapest, mkCheapest, kcCheapest⟩, nCheapest_many, nCheapest_marks, ⟨hCheapest_init, iCheapest_init, FCheapest_init, bCheapest_init⟩, b1_Cheapest_init, ⟨⟨pgBundle, hdBundle, poBundle, saBundle⟩, PySem.W.mg_of X G aBundle, ⟨iaBundle, inBundle, itBundle, imBundle⟩, isBundle, iyBundle, mkBundle, kcBundle⟩, nBundle_many, nBundle_price, nBundle_marks, ⟨hBundle_init, iBundle_init, FBundle_init, bBundle_init⟩, b1_Bundle_init, ⟨⟨pgCarriage, hdCarriage, poCarriage, saCarriage⟩, PySem.W.mg_of X G aCarriage, ⟨iaCarriage, inCarriage, itCarriage, imCarriage⟩, isCarriage, iyCarriage, mkCarriage, kcCarriage⟩, nCarriage_marks, ⟨hCarriage_init, iCarriage_init, FCarriage_init, bCarriage_init⟩, b1_Carriage_init, kb_Marks_0_kind, kb_Marks_0_needs, kb_Marks_0_most, kb_Marks_0_lone_once_member_most_needs_kind, kb_Marks_0_member, kb_Marks_0_once, kb_Marks_0_lone, kb_Carriage_0_marks, kb_Off_1_marks, kb_Share_1_marks, kb_Cheapest_1_marks, kb_Bundle_2_marks, ⟨rdVoucher_init, gaVoucher_init, fcVoucher_init⟩, kit_pair qMarks_Off imOff iyOff (cls_ne qMarks_Off isMarks), kit_pair qVoucher_Off imOff iyOff (cls_ne qVoucher_Off isVoucher), kit_pair qShare_Off imOff iyOff (cls_ne qShare_Off isShare), kit_pair qCheapest_Off imOff iyOff (cls_ne qCheapest_Off isCheapest), kit_pair qBundle_Off imOff iyOff (cls_ne qBundle_Off isBundle), kit_pair qCarriage_Off imOff iyOff (cls_ne qCarriage_Off isCarriage), kit_pair qMarks_Share imShare iyShare (cls_ne qMarks_Share isMarks), kit_pair qVoucher_Share imShare iyShare (cls_ne qVoucher_Share isVoucher), kit_pair qOff_Share imShare iyShare (cls_ne qOff_Share isOff), kit_pair qCheapest_Share imShare iyShare (cls_ne qCheapest_Share isCheapest), kit_pair qBundle_Share imShare iyShare (cls_ne qBundle_Share isBundle), kit_pair qCarriage_Share imShare iyShare (cls_ne qCarriage_Share isCarriage), kit_pair qMarks_Cheapest imCheapest iyCheapest (cls_ne qMarks_Cheapest isMarks), kit_pair qVoucher_Cheapest imCheapest iyCheapest (cls_ne qVoucher_Cheapest isVoucher), kit_pair qOff_Cheapest imCheapest iyCheapest (cls_ne qOff_Cheapest isOff), kit_pair qShare_Cheapest imCheapest iyCheapest (cls_ne qShare_Cheapest isShare), kit_pair qBundle_Cheapest imCheapest iyCheapest (cls_ne qBundle_Cheapest isBundle), kit_pair qCarriage_Cheapest imCheapest iyCheapest (cls_ne qCarriage_Cheapest isCarriage), kit_pair qMarks_Bundle imBundle iyBundle (cls_ne qMarks_Bundle isMarks), kit_pair qVoucher_Bundle imBundle iyBundle (cls_ne qVoucher_Bundle isVoucher), kit_pair qOff_Bundle imBundle iyBundle (cls_ne qOff_Bundle isOff), kit_pair qShare_Bundle imBundle iyBundle (cls_ne qShare_Bundle isShare), kit_pair qCheapest_Bundle imBundle iyBundle (cls_ne qCheapest_Bundle isCheapest), kit_pair qCarriage_Bundle imBundle iyBundle (cls_ne qCarriage_Bundle isCarriage), kit_pair qMarks_Carriage imCarriage iyCarriage (cls_ne qMarks_Carriage isMarks), kit_pair qVoucher_Carriage imCarriage iyCarriage (cls_ne qVoucher_Carriage isVoucher), kit_pair qOff_Carriage imCarriage iyCarriage (cls_ne qOff_Carriage isOff), kit_pair qShare_Carriage imCarriage iyCarriage (cls_ne qShare_Carriage isShare), kit_pair qCheapest_Carriage imCarriage iyCarriage (cls_ne qCheapest_Carriage isCheapest), kit_pair qBundle_Carriage imCarriage iyCarriage (cls_ne qBundle_Carriage isBundle), kit_pair qMarks_Voucher imVoucher iyVoucher (cls_ne qMarks_Voucher isMarks), kit_pair qOff_Voucher imVoucher iyVoucher (cls_ne qVoucher_Off isVoucher).symm, kit_pair qShare_Voucher imVoucher iyVoucher (cls_ne qVoucher_Share isVoucher).symm, kit_pair qCheapest_Voucher imVoucher iyVoucher (cls_ne qVoucher_Cheapest isVoucher).symm, kit_pair qBundle_Voucher imVoucher iyVoucher (cls_ne qVoucher_Bundle isVoucher).symm, kit_pair qCarriage_Voucher imVoucher iyVoucher (cls_ne qVoucher_Carriage isVoucher).symm, kit_pair qVoucher_Marks imMarks iyMarks (cls_ne qVoucher_Marks isVoucher), kit_pair qOff_Marks imMarks iyMarks (cls_ne qOff_Marks isOff), kit_pair qShare_Marks imMarks iyMarks (cls_ne qShare_Marks isShare), kit_pair qCheapest_Marks imMarks iyMarks (cls_ne qCheapest_Marks isCheapest), kit_pair qBundle_Marks imMarks iyMarks (cls_ne qBundle_Marks isBundle), kit_pair qCarriage_Marks imMarks iyMarks (cls_ne qCarriage_Marks isCarriage)⟩
  exact ⟨_, fun s v => .of_eq rfl, fun base _ _ => ok_law W⟩
theorem walk {l : PySem.W.OpenLaw} {q : Program} {loose : List Str} {XP : (Str → Option Value) → Heap → Prop} {YP : World → Heap → Prop} {d : DefRec} {K : Params → PySem.W.Frag} (hn : l.most = some 63) (hdf : d.params.defaults = [])
    (hY : ∀ (w : World) (h : Heap), YP w h → (K w.params).In h)
    (F : ∀ (w : World) (mg : Str → Option Value) (fa : Addr) (h : Heap), (K w.params).In h → h.Ns mainGlobals mg → mg d.name = some (.ref fa) →
      ∃ fd : FuncData, (∀ (s : Shared) (u : Value), BindsTo s fd ⟨[u], []⟩ [("_law_script", u)]) ∧ ∀ base : Heap, (K w.params).In base → base.Ns mainGlobals mg → FnOk l.prog w (K w.params) mg base CX0 7 fa fd ["_law_script"] (spLaw (K w.params))) :
    PySem.W.WalkO q loose XP YP l.row.toRowW d [] (fun f vs => PySem.call f vs) :=
  L2.walk_of (n := 63) (k := 7) (x := "_law_script") (CX := fun _ => CX0) (sp := fun w => spLaw (K w.params)) hn (by decide) hdf ⟨rfl, by decide, by decide⟩ hY F (fun _ _ a ns hl _ hS => ⟨a, ns, rfl, hS, hl, fun _ => rfl⟩) fun _ _ _ _ _ z => z
end Vs
open PySem PySem.W PyProof.Rows
set_option maxRecDepth 100000 in
set_option maxHeartbeats 0 in
theorem PySem.Challenge.cw_voucherstack_k08_marks_and_sorts_holds : PySem.Challenge.rw_voucherstack_k08_marks_and_sorts.Holds := by
  w_on; o_law; k_head; (case hw => w_witness2)
  k_fill
  refine Vs.walk (l := PySem.Challenge.rw_voucherstack_k08_marks_and_sorts) rfl rfl (fun w h Y => PySem.W.kIn_of Y) ?F
  case F =>
    intro w mg fa h KX G hmg
    refine' Vs.all_mk KX G hmg ?a_law_whole ?l_law_whole ?c_law_whole ?k_law_whole ?a_law_mix ?l_law_mix ?c_law_mix ?k_law_mix ?a_law_coin ?l_law_coin ?c_law_coin ?k_law_coin ?a_law_fields ?l_law_fields ?c_law_fields ?k_law_fields ?a_law_one_named ?l_law_one_named ?c_law_one_named ?k_law_one_named ?a_law_marks_by ?l_law_marks_by ?c_law_marks_by ?k_law_marks_by ?a_law_made ?l_law_made ?c_law_made ?k_law_made ?a_law_right ?l_law_right ?c_law_right ?k_law_right ?alaw ?llaw ?claw ?klaw ?aMarks ?pgMarks ?hdMarks ?poMarks ?saMarks ?mkMarks ?kcMarks ?iaMarks ?inMarks ?itMarks ?imMarks ?isMarks ?iyMarks ?nMarks_kind ?nMarks_needs ?nMarks_most ?nMarks_member ?nMarks_once ?nMarks_lone ?hMarks_init ?iMarks_init ?lMarks_init ?cMarks_init ?kMarks_init ?tMarks_init ?aVoucher ?pgVoucher ?hdVoucher ?poVoucher ?saVoucher ?mkVoucher ?kcVoucher ?iaVoucher ?inVoucher ?itVoucher ?imVoucher ?isVoucher ?iyVoucher ?nVoucher_marks ?hVoucher_init ?iVoucher_init ?lVoucher_init ?cVoucher_init ?kVoucher_init ?tVoucher_init ?aOff ?pgOff ?hdOff ?poOff ?saOff ?mkOff ?kcOff ?iaOff ?inOff ?itOff ?imOff ?isOff ?iyOff ?nOff_amount ?nOff_marks ?hOff_init ?iOff_init ?lOff_init ?cOff_init ?kOff_init ?tOff_init ?aShare ?pgShare ?hdShare ?poShare ?saShare ?mkShare ?kcShare ?iaShare ?inShare ?itShare ?imShare ?isShare ?iyShare ?nShare_share ?nShare_by_line ?nShare_marks ?hShare_init ?iShare_init ?lShare_init ?cShare_init ?kShare_init ?tShare_init ?aCheapest ?pgCheapest ?hdCheapest ?poCheapest ?saCheapest ?mkCheapest ?kcCheapest ?iaCheapest ?inCheapest ?itCheapest ?imCheapest ?isCheapest ?iyCheapest ?nCheapest_many ?nCheapest_marks ?hCheapest_init ?iCheapest_init ?lCheapest_init ?cCheapest_init ?kCheapest_init ?tCheapest_init ?aBundle ?pgBundle ?hdBundle ?poBundle ?saBundle ?mkBundle ?kcBundle ?iaBundle ?inBundle ?itBundle ?imBundle ?isBundle ?iyBundle ?nBundle_many ?nBundle_price ?nBundle_marks ?hBundle_init ?iBundle_init ?lBundle_init ?cBundle_init ?kBundle_init ?tBundle_init ?aCarriage ?pgCarriage ?hdCarriage ?poCarriage ?saCarriage ?mkCarriage ?kcCarriage ?iaCarriage ?inCarriage ?itCarriage ?imCarriage ?isCarriage ?iyCarriage ?nCarriage_marks ?hCarriage_init ?iCarriage_init ?lCarriage_init ?cCarriage_init ?kCarriage_init ?tCarriage_init ?rdVoucher_init ?gaVoucher_init ?fcVoucher_init ?qMarks_Off ?qVoucher_Off ?qShare_Off ?qCheapest_Off ?qBundle_Off ?qCarriage_Off ?qMarks_Share ?qVoucher_Share ?qOff_Share ?qCheapest_Share ?qBundle_Share ?qCarriage_Share ?qMarks_Cheapest ?qVoucher_Cheapest ?qOff_Cheapest ?qShare_Cheapest ?qBundle_Cheapest ?qCarriage_Cheapest ?qMarks_Bundle ?qVoucher_Bundle ?qOff_Bundle ?qShare_Bundle ?qCheapest_Bundle ?qCarriage_Bundle ?qMarks_Carriage ?qVoucher_Carriage ?qOff_Carriage ?qShare_Carriage ?qCheapest_Carriage ?qBundle_Carriage ?qMarks_Voucher ?qOff_Voucher ?qShare_Voucher ?qCheapest_Voucher ?qBundle_Voucher ?qCarriage_Voucher ?qVoucher_Marks ?qOff_Marks ?qShare_Marks ?qCheapest_Marks ?qBundle_Marks ?qCarriage_Marks ?z1 ?z2 ?z3 ?z4 ?z5 ?z6 ?z7 ?z8 ?z9 ?z10 ?z11 ?z12 ?z13 ?z14 ?z15 ?z16 ?z17 ?z18
    (case a_law_whole => k_is)
    (case l_law_whole => k_is)
    (case c_law_whole => k_is)
    (case k_law_whole => k_is)
    (case a_law_mix => k_is)
    (case l_law_mix => k_is)
    (case c_law_mix => k_is)
    (case k_law_mix => k_is)
    (case a_law_coin => k_is)
    (case l_law_coin => k_is)
    (case c_law_coin => k_is)
    (case k_law_coin => k_is)
    (case a_law_fields => k_is)
    (case l_law_fields => k_is)
    (case c_law_fields => k_is)
    (case k_law_fields => k_is)
    (case a_law_one_named => k_is)
    (case l_law_one_named => k_is)
    (case c_law_one_named => k_is)
    (case k_law_one_named => k_is)
    (case a_law_marks_by => k_is)
    (case l_law_marks_by => k_is)
    (case c_law_marks_by => k_is)
    (case k_law_marks_by => k_is)
    (case a_law_made => k_is)
    (case l_law_made => k_is)
    (case c_law_made => k_is)
    (case k_law_made => k_is)
    (case a_law_right => k_is)
    (case l_law_right => k_is)
    (case c_law_right => k_is)
    (case k_law_right => k_is)
    (case alaw => k_is)
    (case llaw => k_is)
    (case claw => k_is)
    (case klaw => k_is)
    (case aMarks => k_is)
    (case pgMarks => k_is)
    (case hdMarks => k_is)
    (case poMarks => k_is)
    (case saMarks => k_is)
    (case mkMarks => k_is)
    (case kcMarks => k_is)
    (case iaMarks => k_is)
    (case inMarks => k_is)
    (case itMarks => k_is)
    (case imMarks => k_is)
    (case isMarks => k_is)
    (case iyMarks => k_is)
    (case nMarks_kind => k_is)
    (case nMarks_needs => k_is)
    (case nMarks_most => k_is)
    (case nMarks_member => k_is)
    (case nMarks_once => k_is)
    (case nMarks_lone => k_is)
    (case hMarks_init => k_is)
    (case iMarks_init => k_is)
    (case lMarks_init => k_is)
    (case cMarks_init => k_is)
    (case kMarks_init => k_is)
    (case tMarks_init => k_is)
    (case aVoucher => k_is)
    (case pgVoucher => k_is)
    (case hdVoucher => k_is)
    (case poVoucher => k_is)
    (case saVoucher => k_is)
    (case mkVoucher => k_is)
    (case kcVoucher => k_is)
    (case iaVoucher => k_is)
    (case inVoucher => k_is)
    (case itVoucher => k_is)
    (case imVoucher => k_is)
    (case isVoucher => k_is)
    (case iyVoucher => k_is)
    (case nVoucher_marks => k_is)
    (case hVoucher_init => k_is)
    (case iVoucher_init => k_is)
    (case lVoucher_init => k_is)
    (case cVoucher_init => k_is)
    (case kVoucher_init => k_is)
    (case tVoucher_init => k_is)
    (case aOff => k_is)
    (case pgOff => k_is)
    (case hdOff => k_is)
    (case poOff => k_is)
    (case saOff => k_is)
    (case mkOff => k_is)
    (case kcOff => k_is)
    (case iaOff => k_is)
    (case inOff => k_is)
    (case itOff => k_is)
    (case imOff => k_is)
    (case isOff => k_is)
    (case iyOff => k_is)
    (case nOff_amount => k_is)
    (case nOff_marks => k_is)
    (case hOff_init => k_is)
    (case iOff_init => k_is)
    (case lOff_init => k_is)
    (case cOff_init => k_is)
    (case kOff_init => k_is)
    (case tOff_init => k_is)
    (case aShare => k_is)
    (case pgShare => k_is)
    (case hdShare => k_is)
    (case poShare => k_is)
    (case saShare => k_is)
    (case mkShare => k_is)
    (case kcShare => k_is)
    (case iaShare => k_is)
    (case inShare => k_is)
    (case itShare => k_is)
    (case imShare => k_is)
    (case isShare => k_is)
    (case iyShare => k_is)
    (case nShare_share => k_is)
    (case nShare_by_line => k_is)
    (case nShare_marks => k_is)
    (case hShare_init => k_is)
    (case iShare_init => k_is)
    (case lShare_init => k_is)
    (case cShare_init => k_is)
    (case kShare_init => k_is)
    (case tShare_init => k_is)
    (case aCheapest => k_is)
    (case pgCheapest => k_is)
    (case hdCheapest => k_is)
    (case poCheapest => k_is)
    (case saCheapest => k_is)
    (case mkCheapest => k_is)
    (case kcCheapest => k_is)
    (case iaCheapest => k_is)
    (case inCheapest => k_is)
    (case itCheapest => k_is)
    (case imCheapest => k_is)
    (case isCheapest => k_is)
    (case iyCheapest => k_is)
    (case nCheapest_many => k_is)
    (case nCheapest_marks => k_is)
    (case hCheapest_init => k_is)
    (case iCheapest_init => k_is)
    (case lCheapest_init => k_is)
    (case cCheapest_init => k_is)
    (case kCheapest_init => k_is)
    (case tCheapest_init => k_is)
    (case aBundle => k_is)
    (case pgBundle => k_is)
    (case hdBundle => k_is)
    (case poBundle => k_is)
    (case saBundle => k_is)
    (case mkBundle => k_is)
    (case kcBundle => k_is)
    (case iaBundle => k_is)
    (case inBundle => k_is)
    (case itBundle => k_is)
    (case imBundle => k_is)
    (case isBundle => k_is)
    (case iyBundle => k_is)
    (case nBundle_many => k_is)
    (case nBundle_price => k_is)
    (case nBundle_marks => k_is)
    (case hBundle_init => k_is)
    (case iBundle_init => k_is)
    (case lBundle_init => k_is)
    (case cBundle_init => k_is)
    (case kBundle_init => k_is)
    (case tBundle_init => k_is)
    (case aCarriage => k_is)
    (case pgCarriage => k_is)
    (case hdCarriage => k_is)
    (case poCarriage => k_is)
    (case saCarriage => k_is)
    (case mkCarriage => k_is)
    (case kcCarriage => k_is)
    (case iaCarriage => k_is)
    (case inCarriage => k_is)
    (case itCarriage => k_is)
    (case imCarriage => k_is)
    (case isCarriage => k_is)
    (case iyCarriage => k_is)
    (case nCarriage_marks => k_is)
    (case hCarriage_init => k_is)
    (case iCarriage_init => k_is)
    (case lCarriage_init => k_is)
    (case cCarriage_init => k_is)
    (case kCarriage_init => k_is)
    (case tCarriage_init => k_is)
    (case rdVoucher_init => k_is)
    (case gaVoucher_init => k_is)
    (case fcVoucher_init => k_is)
    (case qMarks_Off => k_is)
    (case qVoucher_Off => k_is)
    (case qShare_Off => k_is)
    (case qCheapest_Off => k_is)
    (case qBundle_Off => k_is)
    (case qCarriage_Off => k_is)
    (case qMarks_Share => k_is)
    (case qVoucher_Share => k_is)
    (case qOff_Share => k_is)
    (case qCheapest_Share => k_is)
    (case qBundle_Share => k_is)
    (case qCarriage_Share => k_is)
    (case qMarks_Cheapest => k_is)
    (case qVoucher_Cheapest => k_is)
    (case qOff_Cheapest => k_is)
    (case qShare_Cheapest => k_is)
    (case qBundle_Cheapest => k_is)
    (case qCarriage_Cheapest => k_is)
    (case qMarks_Bundle => k_is)
    (case qVoucher_Bundle => k_is)
    (case qOff_Bundle => k_is)
    (case qShare_Bundle => k_is)
    (case qCheapest_Bundle => k_is)
    (case qCarriage_Bundle => k_is)
    (case qMarks_Carriage => k_is)
    (case qVoucher_Carriage => k_is)
    (case qOff_Carriage => k_is)
    (case qShare_Carriage => k_is)
    (case qCheapest_Carriage => k_is)
    (case qBundle_Carriage => k_is)
    (case qMarks_Voucher => k_is)
    (case qOff_Voucher => k_is)
    (case qShare_Voucher => k_is)
    (case qCheapest_Voucher => k_is)
    (case qBundle_Voucher => k_is)
    (case qCarriage_Voucher => k_is)
    (case qVoucher_Marks => k_is)
    (case qOff_Marks => k_is)
    (case qShare_Marks => k_is)
    (case qCheapest_Marks => k_is)
    (case qBundle_Marks => k_is)
    (case qCarriage_Marks => k_is)
    (case z1 => k_is)
    (case z2 => k_is)
    (case z3 => k_is)
    (case z4 => k_is)
    (case z5 => k_is)
    (case z6 => k_is)
    (case z7 => k_is)
    (case z8 => k_is)
    (case z9 => k_is)
    (case z10 => k_is)
    (case z11 => k_is)
    (case z12 => k_is)
    (case z13 => k_is)
    (case z14 => k_is)
    (case z15 => k_is)
    (case z16 => k_is)
    (case z17 => k_is)
    (case z18 => k_is)
