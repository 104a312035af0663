import PyProof.Rows.All
import Wide.All
import OpenK.AllK
import Wide.FinOn
import Lean
import PyProof.EqAt
import PyProof.EqKinds
import PyProof.TupleCall
import PySem.Challenge.RW_voucherstack_k15_carriage_and_most
set_option Elab.async false
set_option linter.all false
set_option maxRecDepth 100000
namespace L2
open PySem PySem.Spec PyProof.Rows
abbrev Key := Sum Int Str
def keyIs : Key → Value → Bool
  | .inl k, v => Value.isInt k v
  | .inr x, v => Value.isStrOf x v
def keyH (w : World) : Key → Int
  | .inl k => hashInt k
  | .inr x => hashStr w x
theorem keyIs_shape : ∀ {k : Key} {v : Value}, keyIs k v = true → (∃ i t, k = Sum.inl i ∧ v = Value.int i t) ∨ (∃ x t, k = Sum.inr x ∧ v = Value.str x t)
  | .inl i, v, h => by
    obtain ⟨t, e⟩ := Value.isInt_shape (k := i) (v := v) h
    exact .inl ⟨i, t, rfl, e⟩
  | .inr x, v, h => by
    obtain ⟨t, e⟩ := Value.isStrOf_shape (x := x) (v := v) h
    exact .inr ⟨x, t, rfl, e⟩
theorem keyIs_int (i : Int) (t : Tok) : keyIs (.inl i) (.int i t) = true := by simp [keyIs, Value.isInt]
theorem key_ll (a b : Int) : decide ((Sum.inl a : Key) = Sum.inl b) = (a == b) := by
  by_cases e : a = b
  · subst e; simp
  · have h : ¬ (Sum.inl a : Key) = Sum.inl b := fun q => e (Sum.inl.inj q)
    rw [decide_eq_false h]
    exact (beq_eq_false_iff_ne.mpr e).symm
theorem key_rr (a b : Str) : decide ((Sum.inr a : Key) = Sum.inr b) = decide (a = b) := by
  by_cases e : a = b
  · subst e; simp
  · have h : ¬ (Sum.inr a : Key) = Sum.inr b := fun q => e (Sum.inr.inj q)
    rw [decide_eq_false h, decide_eq_false e]
theorem key_lr (a : Int) (b : Str) : decide ((Sum.inl a : Key) = Sum.inr b) = false := decide_eq_false (fun q => nomatch q)
theorem key_rl (a : Str) (b : Int) : decide ((Sum.inr a : Key) = Sum.inl b) = false := decide_eq_false (fun q => nomatch q)
def mixKind (prog : Program) (w : World) : PySem.KeyKind prog w Key where
  is := keyIs
  hash := keyH w
  inj := fun v a b ha hb => by
    rcases keyIs_shape ha with ⟨i, t, rfl, rfl⟩ | ⟨x, t, rfl, rfl⟩
    · rcases keyIs_shape hb with ⟨j, u, rfl, e⟩ | ⟨y, u, rfl, e⟩
      · injection e with e1 _; rw [e1]
      · exact nomatch e
    · rcases keyIs_shape hb with ⟨j, u, rfl, e⟩ | ⟨y, u, rfl, e⟩
      · exact nomatch e
      · injection e with e1 _; rw [e1]
  byValue := fun k v h => by
    rcases keyIs_shape h with ⟨i, t, rfl, rfl⟩ | ⟨x, t, rfl, rfl⟩ <;> rfl
  pyHash := fun hv h => by
    rcases keyIs_shape hv with ⟨i, t, rfl, rfl⟩ | ⟨x, t, rfl, rfl⟩
    · exact wpAny_pyHash_int h
    · exact wpAny_pyHash_str h
  eqBool := fun hu hv h => by
    rcases keyIs_shape hu with ⟨i, t, rfl, rfl⟩ | ⟨x, t, rfl, rfl⟩
    · rcases keyIs_shape hv with ⟨j, u, rfl, rfl⟩ | ⟨y, u, rfl, rfl⟩
      · rw [key_ll] at h; exact wpAny_eqBool_int h
      · rw [key_lr] at h; exact SeqAt.EqAt.int_str i t y u _ _ _ _ h
    · rcases keyIs_shape hv with ⟨j, u, rfl, rfl⟩ | ⟨y, u, rfl, rfl⟩
      · rw [key_rl] at h; exact SeqAt.EqAt.str_int x t j u _ _ _ _ h
      · rw [key_rr] at h; exact wpAny_eqBool_str h
  «strs» := fun k x t v h => by
    rcases keyIs_shape h with ⟨i, u, rfl, e⟩ | ⟨y, u, rfl, e⟩
    · exact nomatch e
    · injection e with e1 _
      subst e1
      cases v <;> rfl
theorem mixKind_int (prog : Program) (w : World) (i : Int) (t : Tok) : (mixKind prog w).is (.inl i) (.int i t) = true := keyIs_int i t
end L2
namespace L2
open PySem PySem.Spec PyProof.Rows
inductive V where
  | non | bl (b : Bool) | int (i : Int) | str (x : Str) | byt (b : Array UInt8) | flt (b : UInt64) | ref (a : Addr) | ty (n : String)
  deriving DecidableEq
def RelV : V → Value → Prop
  | .non, u => u = Value.none
  | .bl b, u => u = Value.bool b
  | .int i, u => ∃ t, u = Value.int i t
  | .str x, u => ∃ t, u = Value.str x t
  | .byt b, u => ∃ t, u = Value.bytes b t
  | .flt b, u => ∃ t, u = Value.float b t
  | .ref a, u => u = Value.ref a
  | .ty n, u => u = Value.type n
abbrev Vals : List V → List Value → Prop := Paired RelV
theorem Vals.length {xs : List V} {us : List Value} (r : Vals xs us) : xs.length = us.length := Paired.length r
theorem Vals.get : ∀ {xs : List V} {us : List Value} {i : Nat} {x : V}, Vals xs us → xs[i]? = some x → ∃ u, us[i]? = some u ∧ RelV x u
  | _, _, _, _, .nil, e => by simp at e
  | _, _, 0, _, .cons r _, e => by simp at e; subst e; exact ⟨_, rfl, r⟩
  | _, _, i + 1, x, .cons _ t, e => by
    obtain ⟨u, h1, h2⟩ := Vals.get (i := i) (x := x) t (by simpa using e)
    exact ⟨u, by simpa using h1, h2⟩
theorem Vals.set {x : V} {u : Value} (r : RelV x u) : ∀ {xs : List V} {us : List Value} (i : Nat), Vals xs us → Vals (xs.set i x) (us.set i u)
  | _, _, _, .nil => .nil
  | _, _, 0, .cons _ t => .cons r t
  | _, _, i + 1, .cons q t => .cons q (Vals.set r i t)
theorem Vals.append : ∀ {xs ys : List V} {us ws : List Value}, Vals xs us → Vals ys ws → Vals (xs ++ ys) (us ++ ws)
  | _, _, _, _, .nil, s => s
  | _, _, _, _, .cons r t, s => .cons r (Vals.append t s)
theorem Vals.take : ∀ {xs : List V} {us : List Value} (n : Nat), Vals xs us → Vals (xs.take n) (us.take n)
  | _, _, 0, _ => .nil
  | _, _, _ + 1, .nil => .nil
  | _, _, n + 1, .cons r t => .cons r (Vals.take n t)
theorem Vals.drop : ∀ {xs : List V} {us : List Value} (n : Nat), Vals xs us → Vals (xs.drop n) (us.drop n)
  | _, _, 0, r => r
  | _, _, _ + 1, .nil => .nil
  | _, _, n + 1, .cons _ t => Vals.drop n t
theorem Vals.none_of : ∀ {xs : List V} {us : List Value} {i : Nat}, Vals xs us → xs[i]? = none → us[i]? = none := fun {xs us i} r e => by
  have h1 := r.length
  have h2 : xs.length ≤ i := List.getElem?_eq_none_iff.mp e
  exact List.getElem?_eq_none_iff.mpr (by omega)
def RelO : Option V → Option Value → Prop
  | some v, some u => RelV v u
  | none, none => True
  | _, _ => False
def KV {κ : Type} : List (κ × V) → List (κ × Value) → Prop := Paired fun (p : κ × V) (q : κ × Value) => p.1 = q.1 ∧ RelV p.2 q.2
def kV : Key → V
  | .inl i => .int i
  | .inr x => .str x
inductive HO where
  | lst (xs : List V)
  | tup (xs : List V)
  | dK (kvs : List (Key × V)) | dT (kvs : List (List Key × V))
  | set (S : Int → Bool) (n : Nat)
  | ins (C dx : Addr) (fs : List (Str × V))
  | own (x : Addr)
  | xd (fs : List (Str × V))
  | met (f x : Addr)
  | rng (lo hi : Int)
  | frz (o : Obj) (u : HO)
  | tbl (ps : Array Value)
  | ext (φ : Heap → Prop)
abbrev Hp := Addr → Option HO
def upd (H : Hp) (a : Addr) (o : HO) : Hp := fun b => if b = a then some o else H b
theorem upd_same {H : Hp} {a : Addr} {o : HO} : upd H a o a = some o := by unfold upd; rw [if_pos rfl]
theorem upd_ne {H : Hp} {a b : Addr} {o : HO} (h : b ≠ a) : upd H a o b = H b := by unfold upd; rw [if_neg h]
theorem upd_upd {H : Hp} {a : Addr} {o u : HO} : upd (upd H a o) a u = upd H a u := by
  funext b; unfold upd; split <;> rfl
theorem ne_of {H : Hp} {a b : Addr} {o u : HO} (h : H a = some o) (h' : H b = some u) (d : o ≠ u) : a ≠ b := by
  intro e; subst e; rw [h] at h'; exact d (Option.some.inj h')
theorem ne_of_none {H : Hp} {a b : Addr} {o : HO} (h : H a = some o) (h' : H b = none) : a ≠ b := by
  intro e; subst e; rw [h] at h'; cases h'
section
variable (P : Program) (w : World)
def ObjOk (H : Hp) (h : Heap) (a : Addr) : HO → Prop
  | .lst xs => xs.length ≤ sizeLine ∧ ∃ (its : List Value) (n : Nat), Vals xs its ∧ h.get? a = some { cls := .type "list", data := .seq its.toArray n }
  | .tup xs => xs.length ≤ sizeLine ∧ ∃ its : List Value, Vals xs its ∧ IsTup h a its.toArray
  | .dK kvs => kvs.length ≤ sizeLine ∧ (a == sysModules) = false ∧ ∃ vs, KV kvs vs ∧ h.DictOf (mixKind P w) a vs
  | .dT kvs => kvs.length ≤ sizeLine ∧ (a == sysModules) = false ∧ ∃ xs : List (List Key × Addr × Value),
      Paired (fun (p : List Key × V) (q : List Key × Addr × Value) => p.1 = q.1 ∧ H q.2.1 = some (.tup (p.1.map kV)) ∧ RelV p.2 q.2.2) kvs xs ∧
      ∃ o es ep, h.get? a = some o ∧ o.ExactDict ∧ o.data = .dict es ep ∧ es.toList = xs.map (entryOfKey (tupleKind (mixKind P w))) ∧ (xs.map (·.1)).Nodup
  | .set S n => h.SetOf (intKind P w) a S n
  | .ins C dx fs => H dx = some (.own a) ∧ fs.length ≤ 1000 ∧ dx ≠ a ∧ h.get? a = some (PySem.W.instObj C dx) ∧
      ∃ mA, h.Ns1 dx mA ∧ (∀ f, RelO (fs.lookup f) (mA f)) ∧ PySem.Within mA (fs.map (·.1))
  | .own _ => ∃ o, h.get? a = some o
  | .xd fs => ∃ mA, h.Ns1 a mA ∧ ∀ f, RelO (fs.lookup f) (mA f)
  | .rng lo hi => ∃ t u v, h.get? a = some { cls := .type "range", data := .fields #[.int lo t, .int hi u, .int 1 v] }
  | .frz o u => h.get? a = some o ∧ ObjOk H h a u
  | .tbl ps => h.get? a = some { cls := .none, data := .fields ps }
  | .met f x => h.get? a = some (PySem.W.methodObj (.ref f) (.ref x))
  | .ext φ => φ h ∧ (∃ o, h.get? a = some o) ∧ ∀ h1 h2 : Heap, φ h1 → (∀ o, h1.get? a = some o → h2.get? a = some o) → φ h2
def HOk (H : Hp) (h : Heap) : Prop := ∀ a o, H a = some o → ObjOk P w H h a o
end
section
variable {P : Program} {w : World} {H H' : Hp} {h h' : Heap} {a : Addr} {o : HO}
theorem ObjOk.lt (x : ObjOk P w H h a o) : a < h.objs.size := by
  cases o with
  | lst xs => obtain ⟨_, _, _, _, e⟩ := x; exact Heap.lt_size e
  | tup xs => obtain ⟨_, _, _, p⟩ := x; exact p.lt
  | dK kvs => obtain ⟨_, _, _, _, o, _, _, e, _⟩ := x; exact Heap.lt_size e
  | dT kvs => obtain ⟨_, _, _, _, o, _, _, e, _⟩ := x; exact Heap.lt_size e
  | set S n => obtain ⟨o, _, _, _, e, _⟩ := x; exact Heap.lt_size e
  | ins C dx fs => obtain ⟨_, _, _, e, _⟩ := x; exact Heap.lt_size e
  | own y => obtain ⟨_, e⟩ := x; exact Heap.lt_size e
  | xd fs => obtain ⟨_, ⟨_, _, _, e, _⟩, _⟩ := x; exact Heap.lt_size e
  | rng lo hi => obtain ⟨_, _, _, e⟩ := x; exact Heap.lt_size e
  | frz ob u => obtain ⟨e, _⟩ := x; exact Heap.lt_size e
  | tbl ps => exact Heap.lt_size (show h.get? a = some _ from x)
  | met f y => exact Heap.lt_size (show h.get? a = some _ from x)
  | ext φ => obtain ⟨_, ⟨_, e⟩, _⟩ := x; exact Heap.lt_size e
theorem Paired.mapP {α β : Type} {F G : α → β → Prop} : ∀ {l₁ : List α} {l₂ : List β}, Paired F l₁ l₂ → (∀ a b, F a b → G a b) → Paired G l₁ l₂
  | _, _, .nil, _ => .nil
  | _, _, .cons r t, f => .cons (f _ _ r) (Paired.mapP t f)
theorem ObjOk.stay (x : ObjOk P w H h a o) (k : ∀ b u, (b = a ∨ H b = some (.own a)) → h.get? b = some u → h'.get? b = some u)
    (ho : ∀ b, H b = some (.own a) → H' b = some (.own a)) (ht : ∀ b xs, H b = some (.tup xs) → H' b = some (.tup xs)) : ObjOk P w H' h' a o := by
  induction o with
  | lst xs => obtain ⟨z, its, n, r, e⟩ := x; exact ⟨z, its, n, r, k _ _ (.inl rfl) e⟩
  | tup xs => obtain ⟨z, its, r, ob, e, c⟩ := x; exact ⟨z, its, r, ob, k _ _ (.inl rfl) e, c⟩
  | dK kvs => obtain ⟨z, y, vs, r, ob, es, ep, e, c⟩ := x; exact ⟨z, y, vs, r, ob, es, ep, k _ _ (.inl rfl) e, c⟩
  | dT kvs =>
    obtain ⟨z, y, xs, r, ob, es, ep, e, c⟩ := x
    exact ⟨z, y, xs, Paired.mapP r fun p q z => ⟨z.1, ht _ _ z.2.1, z.2.2⟩, ob, es, ep, k _ _ (.inl rfl) e, c⟩
  | set S n => obtain ⟨ob, es, ep, t, e, c⟩ := x; exact ⟨ob, es, ep, t, k _ _ (.inl rfl) e, c⟩
  | ins C dx fs =>
    obtain ⟨d, z, ne, e, mA, ⟨od, es, ep, e2, c⟩, r⟩ := x
    exact ⟨ho _ d, z, ne, k _ _ (.inl rfl) e, mA, ⟨od, es, ep, k _ _ (.inr d) e2, c⟩, r⟩
  | own y => obtain ⟨ob, e⟩ := x; exact ⟨ob, k _ _ (.inl rfl) e⟩
  | xd fs => obtain ⟨mA, ⟨od, es, ep, e, c⟩, r⟩ := x; exact ⟨mA, ⟨od, es, ep, k _ _ (.inl rfl) e, c⟩, r⟩
  | rng lo hi => obtain ⟨t, u, v, e⟩ := x; exact ⟨t, u, v, k _ _ (.inl rfl) e⟩
  | frz ob u ih => obtain ⟨e, q⟩ := x; exact ⟨k _ _ (.inl rfl) e, ih q⟩
  | tbl ps =>
    have e : h.get? a = some { cls := .none, data := .fields ps } := x
    show h'.get? a = some { cls := .none, data := .fields ps }
    exact k a _ (.inl rfl) e
  | met f y =>
    have e : h.get? a = some (PySem.W.methodObj (.ref f) (.ref y)) := x
    show h'.get? a = some (PySem.W.methodObj (.ref f) (.ref y))
    exact k a _ (.inl rfl) e
  | ext φ => obtain ⟨p, ⟨o, e⟩, st⟩ := x; exact ⟨st _ _ p fun o q => k _ _ (.inl rfl) q, ⟨o, k _ _ (.inl rfl) e⟩, st⟩
theorem HOk.lt (x : HOk P w H h) (e : H a = some o) : a < h.objs.size := (x a o e).lt
theorem HOk.fresh (x : HOk P w H h) (e : h.objs.size ≤ a) : H a = none := by
  cases q : H a with
  | none => rfl
  | some u => exact absurd (Nat.lt_of_lt_of_le (x.lt q) e) (Nat.lt_irrefl _)
theorem HOk.kept (x : HOk P w H h) (k : ∀ b u, h.get? b = some u → h'.get? b = some u) : HOk P w H h' := fun a o e =>
  (x a o e).stay (fun b u _ q => k b u q) (fun _ q => q) fun _ _ q => q
theorem HOk.laid (x : HOk P w H h) (k : ∀ b u, h.get? b = some u → h'.get? b = some u) (hp : h.objs.size ≤ a) (new : ObjOk P w (upd H a o) h' a o) : HOk P w (upd H a o) h' := fun b u e => by
  have hn := x.fresh hp
  by_cases hb : b = a
  · subst hb; rw [upd_same] at e; cases e; exact new
  · rw [upd_ne hb] at e
    exact (x b u e).stay (fun c v _ q => k c v q) (fun c q => by rw [upd_ne (ne_of_none q hn)]; exact q) fun c xs q => by rw [upd_ne (ne_of_none q hn)]; exact q
end
def Rd (H : Hp) (a : Addr) (u : HO) : Prop := H a = some u ∨ ∃ o, H a = some (.frz o u)
theorem Rd.of {H : Hp} {a : Addr} {u : HO} (h : H a = some u) : Rd H a u := .inl h
theorem Rd.ok {P : Program} {w : World} {H : Hp} {h : Heap} {a : Addr} {u : HO} (r : Rd H a u) (x : HOk P w H h) : ObjOk P w H h a u := by
  rcases r with r | ⟨o, r⟩
  · exact x a u r
  · obtain ⟨_, q⟩ := x a _ r
    exact q
def Mut : Option HO → Prop
  | some (.lst _) => True
  | some (.dK _) => True
  | some (.dT _) => True
  | some (.set _ _) => True
  | some (.ins _ _ _) => True
  | some (.ext _) => True
  | _ => False
section
variable {P : Program} {w : World} {H : Hp} {h h' : Heap} {x e : Addr} {o' : HO}
theorem HOk.write (ok : HOk P w H h) (mu : Mut (H x)) (he : e = x ∨ H e = some (.own x)) (k : ∀ b u, b ≠ e → h.get? b = some u → h'.get? b = some u) (heo : ∃ u, h'.get? e = some u)
    (new : ObjOk P w (upd H x o') h' x o') : HOk P w (upd H x o') h' := fun b u q => by
  have nown : ∀ c y, H c = some (.own y) → c ≠ x := fun c y r z => by subst z; rw [r] at mu; exact mu
  have ntup : ∀ c xs, H c = some (.tup xs) → c ≠ x := fun c xs r z => by subst z; rw [r] at mu; exact mu
  by_cases hb : b = x
  · subst hb; rw [upd_same] at q; cases q; exact new
  · rw [upd_ne hb] at q
    by_cases hbe : b = e
    · have q' : H b = some (.own x) := by
        rcases he with z | z
        · exact absurd (hbe.trans z) hb
        · rw [hbe]; exact z
      rw [q] at q'; cases q'
      obtain ⟨v, hv⟩ := heo
      exact ⟨v, by rw [hbe]; exact hv⟩
    · refine (ok b u q).stay (fun c v hc r => k c v ?_ r) (fun c r => by rw [upd_ne (nown c b r)]; exact r) fun c xs r => by rw [upd_ne (ntup c xs r)]; exact r
      rcases hc with rfl | hc
      · exact hbe
      · rintro rfl
        rcases he with z | z
        · exact nown c b hc z
        · rw [hc] at z; cases z; exact hb rfl
end
structure Un (fs ex : List Addr) (H H' : Hp) (h h' : Heap) : Prop where
  keep : ∀ b o, h.get? b = some o → H b = none → b ∉ fs → b ∉ ex → h'.get? b = some o
  slot : ∀ b o, h.get? b = some o → H b = none → b ∈ fs → b ∉ ex → ∃ sl, h'.get? b = some { o with slots := sl }
  free : ∀ b o, h.get? b = some o → H b = none → b ∉ ex → H' b = none
  there : ∀ b o, h.get? b = some o → b ∉ ex → ∃ o', h'.get? b = some o'
  tups : ∀ b xs, H b = some (.tup xs) → H' b = some (.tup xs)
  frzs : ∀ b o u, H b = some (.frz o u) → H' b = some (.frz o u)
  tbls : ∀ b ps, H b = some (.tbl ps) → ∃ more, H' b = some (.tbl (ps ++ more))
section
variable {fs fs' ex ex' : List Addr} {H H1 H2 : Hp} {h h1 h2 h' : Heap} {a x e : Addr} {o : HO}
theorem Un.any (u : Un fs ex H H1 h h1) {b : Addr} {ob : Obj} (q : h.get? b = some ob) (n : H b = none) (hx : b ∉ ex) : ∃ sl, h1.get? b = some { ob with slots := sl } := by
  by_cases hb : b ∈ fs
  · exact u.slot b ob q n hb hx
  · exact ⟨ob.slots, u.keep b ob q n hb hx⟩
theorem Un.trans (a : Un fs ex H H1 h h1) (b : Un fs ex H1 H2 h1 h2) : Un fs ex H H2 h h2 where
  keep := fun c ob q n hc hx => b.keep c ob (a.keep c ob q n hc hx) (a.free c ob q n hx) hc hx
  slot := fun c ob q n hc hx => by
    obtain ⟨sl, e1⟩ := a.slot c ob q n hc hx
    obtain ⟨sl', e2⟩ := b.slot c _ e1 (a.free c ob q n hx) hc hx
    exact ⟨sl', e2⟩
  free := fun c ob q n hx => by
    obtain ⟨o', e1⟩ := a.there c ob q hx
    exact b.free c o' e1 (a.free c ob q n hx) hx
  there := fun c ob q hx => by
    obtain ⟨o', e1⟩ := a.there c ob q hx
    exact b.there c o' e1 hx
  tups := fun c xs q => b.tups c xs (a.tups c xs q)
  frzs := fun c ob xs q => b.frzs c ob xs (a.frzs c ob xs q)
  tbls := fun c ps q => by
    obtain ⟨m1, e1⟩ := a.tbls c ps q
    obtain ⟨m2, e2⟩ := b.tbls c _ e1
    exact ⟨m1 ++ m2, by rw [e2, Array.append_assoc]⟩
theorem Un.kept (k : ∀ b u, h.get? b = some u → h'.get? b = some u) : Un fs ex H H h h' :=
  ⟨fun b ob q _ _ _ => k b ob q, fun b ob q _ _ _ => ⟨ob.slots, k b ob q⟩, fun _ _ _ n _ => n, fun b ob q _ => ⟨ob, k b ob q⟩, fun _ _ q => q, fun _ _ _ q => q, fun _ ps q => ⟨#[], by rw [q]; simp⟩⟩
theorem Un.refl : Un fs ex H H h h := Un.kept fun _ _ q => q
theorem Un.laid (k : ∀ b u, h.get? b = some u → h'.get? b = some u) (hp : h.objs.size ≤ a) (hn : H a = none) : Un fs ex H (upd H a o) h h' where
  keep := fun b u q _ _ _ => k b u q
  slot := fun b u q _ _ _ => ⟨u.slots, k b u q⟩
  free := fun b u q n _ => by rw [upd_ne (Nat.ne_of_lt (Nat.lt_of_lt_of_le (Heap.lt_size q) hp))]; exact n
  there := fun b u q _ => ⟨u, k b u q⟩
  tups := fun b xs q => by rw [upd_ne (ne_of_none q hn)]; exact q
  frzs := fun b u xs q => by rw [upd_ne (ne_of_none q hn)]; exact q
  tbls := fun b ps q => ⟨#[], by rw [upd_ne (ne_of_none q hn), q]; simp⟩
theorem Un.write (mu : Mut (H x)) (he : e = x ∨ H e = some (.own x)) (k : ∀ b u, b ≠ e → h.get? b = some u → h'.get? b = some u) (heo : ∃ u, h'.get? e = some u) : Un fs ex H (upd H x o) h h' := by
  have hx : ∀ b, H b = none → b ≠ x := fun b n z => by subst z; rw [n] at mu; exact mu
  have hb : ∀ b, H b = none → b ≠ e := fun b n z => by
    subst z
    rcases he with r | r
    · exact hx b n r
    · rw [n] at r; cases r
  have hm : ∀ b u, H b = some u → ¬ Mut (some u) → b ≠ x := fun b u q nm z => by subst z; rw [q] at mu; exact nm mu
  refine ⟨fun b u q n _ _ => k b u (hb b n) q, fun b u q n _ _ => ⟨u.slots, k b u (hb b n) q⟩, fun b u q n _ => by rw [upd_ne (hx b n)]; exact n, fun b u q _ => ?_,
    fun b xs q => by rw [upd_ne (hm b _ q fun z => z)]; exact q, fun b u xs q => by rw [upd_ne (hm b _ q fun z => z)]; exact q, fun b ps q => ⟨#[], by rw [upd_ne (hm b _ q fun z => z), q]; simp⟩⟩
  by_cases hbe : b = e
  · subst hbe; exact heo
  · exact ⟨u, k b u hbe q⟩
theorem Un.mono (u : Un fs ex H H1 h h1) (hs : ∀ b ∈ fs, b ∈ fs') (hx : ∀ b ∈ ex, b ∈ ex') : Un fs' ex' H H1 h h1 :=
  ⟨fun b ob q n hb he => u.keep b ob q n (fun z => hb (hs b z)) fun z => he (hx b z), fun _ _ q n _ he => u.any q n fun z => he (hx _ z), fun b ob q n he => u.free b ob q n fun z => he (hx b z), fun b ob q he => u.there b ob q fun z => he (hx b z), u.tups, u.frzs, u.tbls⟩
end
def trk (h : Heap) (H : Hp) : List Addr := (List.range h.objs.size).filter fun a => (H a).isSome
def hidT (h : Heap) (H : Hp) : Heap := PySem.W.hideAll h (trk h H)
theorem hidT_size (h : Heap) (H : Hp) : (hidT h H).objs.size = h.objs.size := PySem.W.hideAll_size _ _
theorem hidT_get {h : Heap} {H : Hp} {b : Addr} {o : Obj} (e : h.get? b = some o) (n : H b = none) : (hidT h H).get? b = some o :=
  PySem.W.hideAll_get _ e fun hm => by
    have q : (H b).isSome = true := (List.mem_filter.mp hm).2
    rw [n] at q; simp at q
theorem of_hidT {h : Heap} {H : Hp} {b : Addr} {o : Obj} (e : (hidT h H).get? b = some o) : h.get? b = some o ∧ H b = none := by
  have e' : h.get? b = some o := PySem.W.of_hideAll (trk h H) e
  refine ⟨e', ?_⟩
  cases q : H b with
  | none => rfl
  | some x =>
    have hm : b ∈ trk h H := List.mem_filter.mpr ⟨List.mem_range.mpr (Heap.lt_size e'), by simp [q]⟩
    have z : (hidT h H).get? b = none := PySem.W.hideAll_none (trk h H) hm
    rw [z] at e; cases e
def allNews (g h : Heap) (L : Addr) : List (Addr × Obj) := (List.range h.objs.size).filterMap fun a => if a = L ∨ (g.get? a).isSome = true then none else (h.get? a).map fun o => (a, o)
def rest (g h : Heap) (L d : Addr) : List (Addr × Obj) := (allNews g h L).filter fun p => decide (p.1 ≠ d)
end L2
namespace L2
open PySem PySem.Spec PyProof.Rows
structure Mod (K : PySem.W.Frag) (mg : Str → Option Value) (base : Heap) : Prop where
  kin : K.In base
  glob : base.Ns mainGlobals mg
  blt : ∃ mb, base.Ns builtinsNs mb ∧ ∀ x : Str, x ≠ "__name__" → mb x = bootBuiltins x
  nolimit : base.NoLimit
structure Cx where
  prog : Program
  w : World
  K : PySem.W.Frag
  mg : Str → Option Value
  base : Heap
  A : Around
  N : List Str
  s₀ : Shared
  H₀ : Hp
  env : Env
  outer : List Env
  stack : List Env
  ex : List Addr
  fn : Str → Bool
  calm : Bool
  pn : List (Addr × Obj)
  xe : Value → Shared → Prop
def frs (l : List Env) : List Addr := l.filterMap (·.frame)
abbrev Cx.fs (X : Cx) : List Addr := frs X.outer
def Vis (sc : Scope) (x : Str) : Prop := sc.names.lookup x = some .local ∨ sc.names.lookup x = some .cell ∨ sc.names.lookup x = some .free
def Loc (sc : Scope) (x : Str) : Prop := sc.names.lookup x = some .local ∨ sc.names.lookup x = some .cell
def Look (env : Env) (h : Heap) (m : Str → Option Value) (x : Str) (u : Value) : Prop :=
  (env.kindOf x = some .local ∧ m x = some u) ∨ ((env.kindOf x = some .cell ∨ env.kindOf x = some .free) ∧ ∃ c, env.cells.lookup x = some c ∧ h.IsCell c (some u))
structure Cx.Ok (X : Cx) : Prop where
  mod : Mod X.K X.mg X.base
  kind : X.env.scope.kind = .function
  glob : X.env.globals = mainGlobals
  blt : X.env.builtins = builtinsNs
  above : X.s₀.heap.objs.size ≤ X.env.locals
  inj : ∀ x y c, X.env.cells.lookup x = some c → X.env.cells.lookup y = some c → x = y
  has : ∀ x, (X.env.kindOf x = some .cell ∨ X.env.kindOf x = some .free) → ∃ c, X.env.cells.lookup x = some c
  cab : ∀ x c, X.fn x = true → X.env.cells.lookup x = some c → X.s₀.heap.objs.size ≤ c
  hd : X.calm = true → X.A.handled = none
  frames : X.A.frames = some X.stack
  stk : X.stack = X.outer ∨ (X.stack = X.env :: X.outer ∧ X.env.frame = some X.env.locals)
  exf : ∀ b ∈ X.ex, b ≠ X.env.locals ∧ ∀ x c, X.env.cells.lookup x = some c → c ≠ b
  bs : ∀ b o, X.base.get? b = some o → X.s₀.heap.get? b = some o ∧ X.H₀ b = none
  bsz : X.base.objs.size ≤ X.s₀.heap.objs.size
  noex : ∀ b o, X.base.get? b = some o → b ∉ X.ex
  exfs : ∀ b ∈ X.ex, b ∉ X.fs
  funs : X.s₀.heap.FunFrames X.base X.outer
  frf : ∀ b ∈ X.fs, X.H₀ b = none
structure Inv (X : Cx) (pins : List (Addr × Obj)) (σ : List (Option V)) (H : Hp) (s : Shared) : Prop where
  ok : X.Ok
  os : s.os = X.s₀.os
  bare : AllBare s.gens
  base : Un X.fs X.ex X.H₀ H X.s₀.heap s.heap
  loc : ∃ m, s.heap.Ns X.env.locals m ∧ ∀ (i : Nat) (x : Str) (v : V), X.N[i]? = some x → σ[i]? = some (some v) → Vis X.env.scope x → ∃ u, RelV v u ∧ Look X.env s.heap m x u
  cell : ∀ x c, X.env.cells.lookup x = some c → ∃ v, s.heap.IsCell c v
  free : H X.env.locals = none
  freeC : ∀ x c, X.env.cells.lookup x = some c → H c = none
  pin : ∀ p ∈ X.pn ++ pins, s.heap.get? p.1 = some p.2 ∧ H p.1 = none ∧ p.1 ≠ X.env.locals ∧ p.1 ∉ X.fs ∧ ∀ v, p.2.data ≠ .cell v
  hok : HOk X.prog X.w H s.heap
  len : σ.length = X.N.length
section
variable {X : Cx} {pins : List (Addr × Obj)} {σ : List (Option V)} {H H' : Hp} {s : Shared} {h' : Heap}
theorem Cx.Ok.nofr (ok : X.Ok) {b : Addr} {o : Obj} (e : X.base.get? b = some o) : b ∉ X.fs := fun hb => by
  have := (ok.funs.mem hb).1
  rw [e] at this; cases this
theorem Inv.bs (I : Inv X pins σ H s) : ∀ b o, X.base.get? b = some o → s.heap.get? b = some o ∧ H b = none := fun b o e =>
  ⟨I.base.keep b o (I.ok.bs b o e).1 (I.ok.bs b o e).2 (I.ok.nofr e) (I.ok.noex b o e), I.base.free b o (I.ok.bs b o e).1 (I.ok.bs b o e).2 (I.ok.noex b o e)⟩
theorem Inv.bk (I : Inv X pins σ H s) : ∀ b o, X.base.get? b = some o → s.heap.get? b = some o := fun b o e => (I.bs b o e).1
theorem Inv.mod (I : Inv X pins σ H s) : Mod X.K X.mg X.base := I.ok.mod
theorem Inv.kIn (I : Inv X pins σ H s) : X.K.In s.heap := I.ok.mod.kin.keeps I.bk
theorem Inv.nolimit (I : Inv X pins σ H s) : s.heap.NoLimit := I.ok.mod.nolimit.keeps I.bk
theorem Inv.fr (I : Inv X pins σ H s) : ∃ m, Fr X.base X.env.locals s.heap m :=
  let ⟨m, hn, _⟩ := I.loc
  ⟨m, hn, I.bk, Nat.le_trans I.ok.bsz I.ok.above⟩
theorem Inv.lt (I : Inv X pins σ H s) : X.env.locals < s.heap.objs.size := let ⟨_, hn, _⟩ := I.loc; hn.lt
theorem Inv.sz (I : Inv X pins σ H s) : X.s₀.heap.objs.size ≤ s.heap.objs.size := Nat.le_trans I.ok.above (Nat.le_of_lt I.lt)
theorem Inv.nofs (I : Inv X pins σ H s) {a : Addr} (h : s.heap.objs.size ≤ a) : a ∉ X.fs := fun hb => by
  obtain ⟨_, o, ho, _⟩ := I.ok.funs.mem hb
  exact absurd (Nat.lt_of_lt_of_le (Heap.lt_size ho) (Nat.le_trans I.sz h)) (Nat.lt_irrefl _)
theorem Inv.cne (I : Inv X pins σ H s) : ∀ x c, X.env.cells.lookup x = some c → c ≠ X.env.locals := fun x c e z => by
  obtain ⟨v, o, ho, hd⟩ := I.cell x c e
  obtain ⟨m, ⟨o', es, ep, ho', hd', _⟩, _⟩ := I.loc
  rw [z, ho'] at ho; cases ho; rw [hd'] at hd; cases hd
theorem Inv.funs (I : Inv X pins σ H s) : s.heap.FunFrames X.base X.outer := by
  have all : ∀ (l : List Env), (∀ b ∈ frs l, b ∈ X.fs) → X.s₀.heap.FunFrames X.base l → s.heap.FunFrames X.base l := by
    intro l
    induction l with
    | nil => intro _ _; trivial
    | cons env r ih =>
      intro hs hl
      obtain ⟨hk, ⟨L, o, hf, hn, ho, hd⟩, hr⟩ := hl
      have hL : L ∈ X.fs := hs L (by unfold frs; rw [List.filterMap_cons, hf]; exact List.mem_cons_self)
      obtain ⟨sl, e⟩ := I.base.slot L o ho (I.ok.frf L hL) hL fun z => I.ok.exfs L z hL
      exact ⟨hk, ⟨L, _, hf, hn, e, hd⟩, ih (fun b hb => hs b (by unfold frs; rw [List.filterMap_cons, hf]; exact List.mem_cons_of_mem _ hb)) hr⟩
  exact all X.outer (fun _ hb => hb) I.ok.funs
theorem Inv.stack (I : Inv X pins σ H s) : s.heap.FunFrames X.base X.stack := by
  rcases I.ok.stk with e | ⟨e, hf⟩
  · rw [e]; exact I.funs
  · rw [e]
    obtain ⟨m, hn, _⟩ := I.loc
    refine .cons (by rw [I.ok.kind]; decide) hf hn ?_ I.funs
    exact Heap.get?_none_of_le (Nat.le_trans I.ok.bsz I.ok.above)
theorem Inv.stkSub (I : Inv X pins σ H s) : ∀ b ∈ frs X.stack, b ∈ X.env.locals :: X.fs := fun b hb => by
  rcases I.ok.stk with e | ⟨e, hf⟩
  · rw [e] at hb; exact List.mem_cons_of_mem _ hb
  · rw [e] at hb
    unfold frs at hb
    rw [List.filterMap_cons, hf] at hb
    exact hb
theorem Inv.stkFree (I : Inv X pins σ H s) : ∀ b ∈ frs X.stack, H b = none := fun b hb => by
  rcases List.mem_cons.mp (I.stkSub b hb) with e | hb
  · rw [e]; exact I.free
  · obtain ⟨_, o, ho, _⟩ := I.ok.funs.mem hb
    exact I.base.free b o ho (I.ok.frf b hb) fun z => I.ok.exfs b z hb
theorem Inv.step {g' : Array GenState} {t' : Nat} {d' : Drawn} {ch : List Addr} (I : Inv X pins σ H s)
    (hch : ∀ b ∈ ch, (b ∈ X.ex ∨ X.s₀.heap.objs.size ≤ b) ∧ b ≠ X.env.locals ∧ (∀ x c, X.env.cells.lookup x = some c → c ≠ b) ∧ ∀ p ∈ X.pn ++ pins, p.1 ≠ b)
    (keep : ∀ b o, b ≠ X.env.locals → b ∉ X.fs → b ∉ ch → s.heap.get? b = some o → H b = none → h'.get? b = some o)
    (slot : ∀ b o, b ≠ X.env.locals → b ∈ X.fs → b ∉ ch → s.heap.get? b = some o → H b = none → ∃ sl, h'.get? b = some { o with slots := sl }) (free : ∀ b o, b ∉ ch → s.heap.get? b = some o → H b = none → H' b = none)
    (there : ∀ b o, b ∉ ch → s.heap.get? b = some o → ∃ o', h'.get? b = some o')
    (tups : ∀ b xs, H b = some (.tup xs) → H' b = some (.tup xs)) (frzs : ∀ b o u, H b = some (.frz o u) → H' b = some (.frz o u)) (tbls : ∀ b ps, H b = some (.tbl ps) → ∃ more, H' b = some (.tbl (ps ++ more)))
    (ns : ∀ m, s.heap.Ns X.env.locals m → h'.Ns X.env.locals m) (hok : HOk X.prog X.w H' h') (hg : AllBare g') :
    Inv X pins σ H' { s with heap := h', gens := g', drawn := d', toks := t' } := by
  have neL : ∀ b o, X.s₀.heap.get? b = some o → b ≠ X.env.locals := fun b o e => Nat.ne_of_lt (Nat.lt_of_lt_of_le (Heap.lt_size e) I.ok.above)
  have neC : ∀ b o, X.s₀.heap.get? b = some o → b ∉ X.ex → b ∉ ch := fun b o e hx hb => by
    rcases (hch b hb).1 with z | z
    · exact hx z
    · exact absurd (Nat.lt_of_lt_of_le (Heap.lt_size e) z) (Nat.lt_irrefl _)
  have cellK : ∀ x c, X.env.cells.lookup x = some c → ∀ v, s.heap.IsCell c v → h'.IsCell c v := fun x c e v ⟨o, ho, hd⟩ => by
    have nch : c ∉ ch := fun z => (hch c z).2.2.1 x c e rfl
    by_cases hc : c ∈ X.fs
    · obtain ⟨sl, q⟩ := slot c o (I.cne x c e) hc nch ho (I.freeC x c e)
      exact ⟨_, q, hd⟩
    · exact ⟨o, keep c o (I.cne x c e) hc nch ho (I.freeC x c e), hd⟩
  refine ⟨I.ok, I.os, hg, ⟨fun b o e n hb hx => ?_, fun b o e n hb hx => ?_, fun b o e n hx => ?_, fun b o e hx => ?_, fun b xs e => tups b xs (I.base.tups b xs e), fun b o xs e => frzs b o xs (I.base.frzs b o xs e), fun b ps e => ?_⟩, ?_, fun x c e => ?_, ?_, fun x c e => ?_, fun p hp => ?_, hok, I.len⟩
  · exact keep b o (neL b o e) hb (neC b o e hx) (I.base.keep b o e n hb hx) (I.base.free b o e n hx)
  · obtain ⟨sl, e1⟩ := I.base.slot b o e n hb hx
    obtain ⟨sl', e2⟩ := slot b _ (neL b o e) hb (neC b o e hx) e1 (I.base.free b o e n hx)
    exact ⟨sl', e2⟩
  · obtain ⟨o', e1⟩ := I.base.there b o e hx
    exact free b o' (neC b o e hx) e1 (I.base.free b o e n hx)
  · obtain ⟨o', e1⟩ := I.base.there b o e hx
    exact there b o' (neC b o e hx) e1
  · obtain ⟨m1, e1⟩ := I.base.tbls b ps e
    obtain ⟨m2, e2⟩ := tbls b _ e1
    exact ⟨m1 ++ m2, by rw [e2, Array.append_assoc]⟩
  · obtain ⟨m, hn, hl⟩ := I.loc
    refine ⟨m, ns m hn, fun i x v e1 e2 e3 => ?_⟩
    obtain ⟨u, r, l⟩ := hl i x v e1 e2 e3
    refine ⟨u, r, ?_⟩
    rcases l with l | ⟨k, c, e, z⟩
    · exact .inl l
    · exact .inr ⟨k, c, e, cellK x c e _ z⟩
  · obtain ⟨v, z⟩ := I.cell x c e
    exact ⟨v, cellK x c e v z⟩
  · obtain ⟨m, ⟨o, _, _, ho, _⟩, _⟩ := I.loc
    exact free _ o (fun z => (hch _ z).2.1 rfl) ho I.free
  · obtain ⟨v, o, ho, hd⟩ := I.cell x c e
    exact free c o (fun z => (hch c z).2.2.1 x c e rfl) ho (I.freeC x c e)
  · obtain ⟨e, n, ne, nf, d⟩ := I.pin p hp
    have nch : p.1 ∉ ch := fun z => (hch p.1 z).2.2.2 p hp rfl
    exact ⟨keep p.1 p.2 ne nf nch e n, free p.1 p.2 nch e n, ne, nf, d⟩
theorem Inv.un {t' : Nat} (I : Inv X pins σ H s) (u : Un X.fs [] H H' s.heap h') (hok : HOk X.prog X.w H' h') : Inv X pins σ H' { s with heap := h', toks := t' } := by
  obtain ⟨m, ⟨o, es, ep, ho, r⟩, _⟩ := id I.loc
  obtain ⟨sl, hL⟩ := u.any ho I.free (by simp)
  exact I.step (g' := s.gens) (d' := s.drawn) (ch := []) (fun _ z => nomatch z) (fun b o _ hb _ e n => u.keep b o e n hb (by simp)) (fun b o _ hb _ e n => u.slot b o e n hb (by simp)) (fun b o _ e n => u.free b o e n (by simp)) (fun b o _ e => u.there b o e (by simp)) u.tups u.frzs u.tbls (fun m' hm => by
    obtain ⟨o', es', ep', ho', r'⟩ := hm
    rw [ho] at ho'; cases ho'
    exact ⟨_, es', ep', hL, r'⟩) hok I.bare
theorem Inv.call {g' : Array GenState} {t' : Nat} {d' : Drawn} {ch : List Addr} (I : Inv X pins σ H s) (u : Un (frs X.stack) ch H H' s.heap h') (hok : HOk X.prog X.w H' h') (hg : AllBare g')
    (hch : ∀ b ∈ ch, (b ∈ X.ex ∨ X.s₀.heap.objs.size ≤ b) ∧ b ≠ X.env.locals ∧ (∀ x c, X.env.cells.lookup x = some c → c ≠ b) ∧ ∀ p ∈ X.pn ++ pins, p.1 ≠ b) :
    Inv X pins σ H' { s with heap := h', gens := g', drawn := d', toks := t' } := by
  obtain ⟨m, ⟨o, es, ep, ho, r⟩, _⟩ := id I.loc
  obtain ⟨sl, hL⟩ := u.any ho I.free fun z => (hch _ z).2.1 rfl
  exact I.step (ch := ch) hch (fun b o hL hb hc e n => u.keep b o e n (fun z => (List.mem_cons.mp (I.stkSub b z)).elim hL hb) hc) (fun b o _ _ hc e n => u.any e n hc) (fun b o hc e n => u.free b o e n hc) (fun b o hc e => u.there b o e hc) u.tups u.frzs u.tbls (fun m' hm => by
    obtain ⟨o', es', ep', ho', r'⟩ := hm
    rw [ho] at ho'; cases ho'
    exact ⟨_, es', ep', hL, r'⟩) hok hg
theorem Inv.turned {t' : Nat} {it : Addr} (I : Inv X pins σ H s) (k : ∀ b o, b ≠ it → s.heap.get? b = some o → h'.get? b = some o) (hn : H it = none) (hL : it ≠ X.env.locals)
    (h1 : it ∈ X.ex ∨ X.s₀.heap.objs.size ≤ it) (h2 : ∀ x c, X.env.cells.lookup x = some c → c ≠ it) (h3 : ∀ p ∈ X.pn ++ pins, p.1 ≠ it) : Inv X pins σ H { s with heap := h', toks := t' } := by
  have nit : ∀ b u, H b = some u → b ≠ it := fun b u e z => by rw [z, hn] at e; cases e
  refine I.step (g' := s.gens) (d' := s.drawn) (ch := [it]) (fun b hb => ?_) (fun b o _ _ hc e _ => k b o (fun z => hc (by simp [z])) e) (fun b o _ _ hc e _ => ⟨o.slots, k b o (fun z => hc (by simp [z])) e⟩) (fun _ _ _ _ n => n)
    (fun b o hc e => ⟨o, k b o (fun z => hc (by simp [z])) e⟩) (fun _ _ e => e) (fun _ _ _ e => e) (fun b ps e => ⟨#[], by rw [e]; simp⟩) (fun m hm => ?_) (fun b u e => ?_) I.bare
  · have e : b = it := by simpa using hb
    subst e
    exact ⟨h1, hL, h2, h3⟩
  · obtain ⟨o, es, ep, ho, r⟩ := hm
    exact ⟨o, es, ep, k _ o (Ne.symm hL) ho, r⟩
  · refine (I.hok b u e).stay (fun c v hc q => k c v ?_ q) (fun _ q => q) fun _ _ q => q
    rcases hc with z | z
    · rw [z]; exact nit b u e
    · exact nit c _ z
theorem Inv.tok (I : Inv X pins σ H s) (t : Nat) : Inv X pins σ H { s with toks := t } := I.un (h' := s.heap) (t' := t) Un.refl I.hok
theorem Inv.kept {t' : Nat} (I : Inv X pins σ H s) (k : ∀ b u, s.heap.get? b = some u → h'.get? b = some u) : Inv X pins σ H { s with heap := h', toks := t' } := I.un (Un.kept k) (I.hok.kept k)
theorem Inv.laid {a : Addr} {o : HO} {t' : Nat} (I : Inv X pins σ H s) (k : ∀ b u, s.heap.get? b = some u → h'.get? b = some u) (hp : s.heap.objs.size ≤ a) (new : ObjOk X.prog X.w (upd H a o) h' a o) :
    Inv X pins σ (upd H a o) { s with heap := h', toks := t' } := I.un (Un.laid k hp (I.hok.fresh hp)) (I.hok.laid k hp new)
theorem Inv.write {x e : Addr} {o : HO} {t' : Nat} (I : Inv X pins σ H s) (mu : Mut (H x)) (he : e = x ∨ H e = some (.own x)) (k : ∀ b u, b ≠ e → s.heap.get? b = some u → h'.get? b = some u) (heo : ∃ u, h'.get? e = some u)
    (new : ObjOk X.prog X.w (upd H x o) h' x o) : Inv X pins σ (upd H x o) { s with heap := h', toks := t' } := I.un (Un.write mu he k heo) (I.hok.write mu he k heo new)
theorem Inv.pins_of {pins' : List (Addr × Obj)} (I : Inv X pins σ H s) (h : ∀ p ∈ pins', s.heap.get? p.1 = some p.2 ∧ H p.1 = none ∧ p.1 ≠ X.env.locals ∧ p.1 ∉ X.fs ∧ ∀ v, p.2.data ≠ .cell v) : Inv X pins' σ H s :=
  ⟨I.ok, I.os, I.bare, I.base, I.loc, I.cell, I.free, I.freeC, fun p hp => (List.mem_append.mp hp).elim (fun z => I.pin p (List.mem_append_left _ z)) (h p), I.hok, I.len⟩
theorem nodup_ix {N : List Str} (hN : N.Nodup) {i j : Nat} {x : Str} (a : N[i]? = some x) (b : N[j]? = some x) : i = j := by
  obtain ⟨h1, e1⟩ := List.getElem?_eq_some_iff.mp a
  obtain ⟨h2, e2⟩ := List.getElem?_eq_some_iff.mp b
  exact (List.getElem_inj hN).mp (e1.trans e2.symm)
theorem store_ok2 {M : Model} {A : Around} {E : Value → Shared → Prop} {i : Nat} {x : Str} {v : V} {u : Value} {Q : Unit → Shared → Prop} (I : Inv X pins σ H s) (hN : X.N.Nodup) (hi : X.N[i]? = some x) (hx : Loc X.env.scope x) (r : RelV v u)
    (h : ∀ s', Inv X pins (σ.set i (some v)) H s' → (∃ a, Heap.SameBut a s.heap s'.heap ∧ (a = X.env.locals ∨ X.env.cells.lookup x = some a)) → Q () s') (hf : X.fn x = true ∨ X.env.scope.names.lookup x = some .local := by first | exact .inl rfl | exact .inr rfl | assumption) : wpAny M A (storeName X.env x u) Q E s := by
  obtain ⟨m, hn, hl⟩ := id I.loc
  have hcls : (X.env.scope.kind == .class || (X.env.scope.kind == .module && X.env.locals != X.env.globals)) = false := by rw [I.ok.kind]; rfl
  have hiσ : i < σ.length := by rw [I.len]; exact (List.getElem?_eq_some_iff.mp hi).1
  have cne := I.cne
  have tracked : ∀ {a : Addr} {h' : Heap}, (∃ o, s.heap.get? a = some o ∧ H a = none) → Heap.SameBut a s.heap h' → HOk X.prog X.w H h' := fun {a h'} ha hs b ob e => by
    obtain ⟨_, _, hfree⟩ := ha
    refine (I.hok b ob e).stay (fun c w' hc q => (hs.2 c ?_).trans q) (fun _ q => q) fun _ _ q => q
    rintro rfl
    rcases hc with rfl | hc
    · rw [hfree] at e; cases e
    · rw [hfree] at hc; cases hc
  rcases hx with hk | hk
  · refine wpAny_storeName_local hk hn (fun h' hn' hs => ?_) hcls
    obtain ⟨oL, _, _, hoL, _⟩ := id hn
    refine h _ ⟨I.ok, I.os, I.bare, ⟨fun b o e n hb hx => ?_, fun b o e n hb hx => ?_, I.base.free, fun b o e hx => ?_, I.base.tups, I.base.frzs, I.base.tbls⟩, ⟨_, hn', fun j y v' e1 e2 e3 => ?_⟩, fun y c e => ?_, I.free, I.freeC, fun p hp => ?_, tracked ⟨oL, hoL, I.free⟩ hs, by simpa using I.len⟩ ⟨_, hs, .inl rfl⟩
    · exact (hs.2 b (Nat.ne_of_lt (Nat.lt_of_lt_of_le (Heap.lt_size e) I.ok.above))).trans (I.base.keep b o e n hb hx)
    · obtain ⟨sl, e1⟩ := I.base.slot b o e n hb hx
      exact ⟨sl, (hs.2 b (Nat.ne_of_lt (Nat.lt_of_lt_of_le (Heap.lt_size e) I.ok.above))).trans e1⟩
    · obtain ⟨o', e1⟩ := I.base.there b o e hx
      exact ⟨o', (hs.2 b (Nat.ne_of_lt (Nat.lt_of_lt_of_le (Heap.lt_size e) I.ok.above))).trans e1⟩
    · by_cases hj : j = i
      · subst hj
        rw [hi] at e1; cases e1
        rw [List.getElem?_set_self hiσ] at e2
        cases e2
        exact ⟨u, r, .inl ⟨hk, by simp⟩⟩
      · rw [List.getElem?_set_ne (Ne.symm hj)] at e2
        obtain ⟨u', r', q⟩ := hl j y v' e1 e2 e3
        refine ⟨u', r', ?_⟩
        rcases q with ⟨k, e⟩ | ⟨k, c, e, z⟩
        · refine .inl ⟨k, ?_⟩
          have : y ≠ x := fun e => hj (nodup_ix hN e1 (e ▸ hi))
          simp [this, e]
        · exact .inr ⟨k, c, e, z.sameBut hs (cne y c e)⟩
    · obtain ⟨w', z⟩ := I.cell y c e
      exact ⟨w', z.sameBut hs (cne y c e)⟩
    · obtain ⟨e, n, ne, nf, d⟩ := I.pin p hp
      exact ⟨(hs.2 p.1 ne).trans e, n, ne, nf, d⟩
  · have hfn : X.fn x = true := by
      rcases hf with z | z
      · exact z
      · rw [z] at hk; cases hk
    obtain ⟨c, hc⟩ := I.ok.has x (.inl hk)
    obtain ⟨w', z⟩ := I.cell x c hc
    refine wpAny_storeName_cell I.ok.kind hk hc z (fun h' hc' hs => ?_)
    obtain ⟨oc, hoc, hocd⟩ := id z
    refine h { s with heap := h' } ⟨I.ok, I.os, I.bare, ⟨fun b o e n hb hx => ?_, fun b o e n hb hx => ?_, I.base.free, fun b o e hx => ?_, I.base.tups, I.base.frzs, I.base.tbls⟩, ⟨m, hn.sameBut hs (Ne.symm (cne x c hc)), fun j y v' e1 e2 e3 => ?_⟩, fun y c' e => ?_, I.free, I.freeC, fun p hp => ?_, tracked ⟨oc, hoc, I.freeC x c hc⟩ hs, by simpa using I.len⟩ ⟨c, hs, .inr hc⟩
    · exact (hs.2 b (Nat.ne_of_lt (Nat.lt_of_lt_of_le (Heap.lt_size e) (I.ok.cab x c hfn hc)))).trans (I.base.keep b o e n hb hx)
    · obtain ⟨sl, e1⟩ := I.base.slot b o e n hb hx
      exact ⟨sl, (hs.2 b (Nat.ne_of_lt (Nat.lt_of_lt_of_le (Heap.lt_size e) (I.ok.cab x c hfn hc)))).trans e1⟩
    · obtain ⟨o', e1⟩ := I.base.there b o e hx
      exact ⟨o', (hs.2 b (Nat.ne_of_lt (Nat.lt_of_lt_of_le (Heap.lt_size e) (I.ok.cab x c hfn hc)))).trans e1⟩
    · by_cases hj : j = i
      · subst hj
        rw [hi] at e1; cases e1
        rw [List.getElem?_set_self hiσ] at e2
        cases e2
        exact ⟨u, r, .inr ⟨.inl hk, c, hc, hc'⟩⟩
      · rw [List.getElem?_set_ne (Ne.symm hj)] at e2
        obtain ⟨u', r', q⟩ := hl j y v' e1 e2 e3
        refine ⟨u', r', ?_⟩
        rcases q with q | ⟨k, c', e, z'⟩
        · exact .inl q
        · refine .inr ⟨k, c', e, z'.sameBut hs ?_⟩
          rintro rfl
          exact hj (nodup_ix hN e1 (I.ok.inj _ _ _ e hc ▸ hi))
    · by_cases hcc : c' = c
      · subst hcc; exact ⟨_, hc'⟩
      · obtain ⟨w2, z2⟩ := I.cell y c' e
        exact ⟨w2, z2.sameBut hs hcc⟩
    · obtain ⟨e, n, ne, nf, d⟩ := I.pin p hp
      refine ⟨(hs.2 p.1 ?_).trans e, n, ne, nf, d⟩
      intro q
      rw [q, hoc] at e
      have q' : oc = p.2 := Option.some.inj e
      exact d w' (by rw [← q']; exact hocd)
theorem store_ok {M : Model} {A : Around} {E : Value → Shared → Prop} {i : Nat} {x : Str} {v : V} {u : Value} {Q : Unit → Shared → Prop} (I : Inv X pins σ H s) (hN : X.N.Nodup) (hi : X.N[i]? = some x) (hx : Loc X.env.scope x) (r : RelV v u)
    (h : ∀ s', Inv X pins (σ.set i (some v)) H s' → Q () s') (hf : X.fn x = true ∨ X.env.scope.names.lookup x = some .local := by first | exact .inl rfl | exact .inr rfl | assumption) : wpAny M A (storeName X.env x u) Q E s :=
  store_ok2 I hN hi hx r (fun s' I' _ => h s' I') hf
theorem Inv.call' {s' : Shared} {ch : List Addr} (I : Inv X pins σ H s) (ho : s'.os = s.os) (u : Un (frs X.stack) ch H H' s.heap s'.heap) (hok : HOk X.prog X.w H' s'.heap) (hg : AllBare s'.gens)
    (hch : ∀ b ∈ ch, (b ∈ X.ex ∨ X.s₀.heap.objs.size ≤ b) ∧ b ≠ X.env.locals ∧ (∀ x c, X.env.cells.lookup x = some c → c ≠ b) ∧ ∀ p ∈ X.pn ++ pins, p.1 ≠ b) : Inv X pins σ H' s' := by
  obtain ⟨h', g', d', t', o'⟩ := s'
  have e : o' = s.os := ho
  subst e
  exact I.call (g' := g') (t' := t') (d' := d') u hok hg hch
end
abbrev XK := Value → Option Addr → Hp → Prop
abbrev St := List (Option V)
abbrev VK := V → Hp → Prop
abbrev TE := St → Hp → VK → Prop
abbrev TT := St → Hp → (Bool → Hp → Prop) → Prop
abbrev TA := St → Hp → (List V → Hp → Prop) → Prop
structure Ends where
  nx : St → Hp → Prop
  rt : VK
  bk : St → Hp → Prop := fun _ _ => False
  ct : St → Hp → Prop := fun _ _ => False
abbrev TS := Ends → St → Hp → Prop
def EP (X : Cx) (pins : List (Addr × Obj)) (σ : St) (Q : VK) (u : Value) (s' : Shared) : Prop := ∃ v H', Inv X pins σ H' s' ∧ RelV v u ∧ Q v H'
def TP (X : Cx) (pins : List (Addr × Obj)) (σ : St) (Q : Bool → Hp → Prop) (b : Bool) (s' : Shared) : Prop := ∃ H', Inv X pins σ H' s' ∧ Q b H'
def AP (X : Cx) (pins : List (Addr × Obj)) (σ : St) (Q : List V → Hp → Prop) (us : List Value) (s' : Shared) : Prop := ∃ vs H', Inv X pins σ H' s' ∧ Vals vs us ∧ Q vs H'
def SP (X : Cx) (pins : List (Addr × Obj)) (D : Ends) (f : Flow) (s' : Shared) : Prop :=
  match f with
  | .next => ∃ σ' H', Inv X pins σ' H' s' ∧ D.nx σ' H'
  | .brk => ∃ σ' H', Inv X pins σ' H' s' ∧ D.bk σ' H'
  | .cont => ∃ σ' H', Inv X pins σ' H' s' ∧ D.ct σ' H'
  | .ret u => ∃ v σ' H', Inv X pins σ' H' s' ∧ RelV v u ∧ D.rt v H'
def PE (X : Cx) (e : Expr) (t : TE) : Prop :=
  ∀ (pins : List (Addr × Obj)) (s : Shared) (σ : St) (H : Hp) (Q : VK), Inv X pins σ H s → t σ H Q → wpAny (model X.prog X.w) X.A (eval e X.env) (EP X pins σ Q) X.xe s
def PT (X : Cx) (e : Expr) (t : TT) : Prop :=
  ∀ (pins : List (Addr × Obj)) (s : Shared) (σ : St) (H : Hp) (Q : Bool → Hp → Prop), Inv X pins σ H s → t σ H Q → wpAny (model X.prog X.w) X.A (isTrue e X.env (eval e X.env)) (TP X pins σ Q) X.xe s
def PW (X : Cx) (e : Expr) (t : TT) : Prop :=
  ∀ (whole : Sem Value) (pins : List (Addr × Obj)) (s : Shared) (σ : St) (H : Hp) (Q : Bool → Hp → Prop), Inv X pins σ H s → t σ H Q → wpAny (model X.prog X.w) X.A (isTrue e X.env whole) (TP X pins σ Q) X.xe s
theorem PW.pt {X : Cx} {e : Expr} {t : TT} (h : PW X e t) : PT X e t := h _
def PA (X : Cx) (es : List Expr) (t : TA) : Prop :=
  ∀ (pos : Pos) (pins : List (Addr × Obj)) (s : Shared) (σ : St) (H : Hp) (Q : List V → Hp → Prop), Inv X pins σ H s → t σ H Q → wpAny (model X.prog X.w) X.A (spliced (backTo pos (starEach es X.env))) (AP X pins σ Q) X.xe s
def PS (X : Cx) (st : Stmt) (t : TS) : Prop :=
  ∀ (pins : List (Addr × Obj)) (s : Shared) (σ : St) (H : Hp) (D : Ends), Inv X pins σ H s → t D σ H → wpAny (model X.prog X.w) X.A (exec st X.env) (SP X pins D) X.xe s
def PSs (X : Cx) (st : List Stmt) (t : TS) : Prop :=
  ∀ (pins : List (Addr × Obj)) (s : Shared) (σ : St) (H : Hp) (D : Ends), Inv X pins σ H s → t D σ H → wpAny (model X.prog X.w) X.A (execs st X.env) (SP X pins D) X.xe s
theorem thn {α : Type} {t : Sem α} {Q Q' : α → Shared → Prop} {M : Model} {A : Around} {E : Value → Shared → Prop} {s : Shared} (h : wpAny M A t Q E s) (hQ : ∀ a s, Q a s → Q' a s) : wpAny M A t Q' E s := wpAny_mono h hQ fun _ _ x => x
end L2
namespace L2
open PySem PySem.Spec PyProof.Rows
section
variable {X : Cx}
def tVar (i : Nat) : TE := fun σ H Q => ∃ v, σ[i]? = some (some v) ∧ Q v H
def tC (v : V) : TE := fun _ H Q => Q v H
theorem pe_var {i : Nat} {x : Str} {pos : Pos} (hN : X.N[i]? = some x) (hv : Vis X.env.scope x) (hd : (x == ("__debug__" : Str)) = false := by decide) (hcd : (x == ("__classdict__" : Str)) = false := by decide) : PE X (.Name x pos) (tVar i) := by
  intro pins s σ H Q I h
  obtain ⟨v, e, h⟩ := h
  obtain ⟨m, hn, hl⟩ := I.loc
  obtain ⟨u, r, l⟩ := hl i x v hN e hv
  have fin : EP X pins σ Q u s := ⟨v, H, I, r, h⟩
  rcases l with ⟨hk, hm⟩ | ⟨hk, c, hc, hcell⟩
  · exact wpAny_Name (wpAny_loadName_local I.ok.kind hk hn hm fin) hd
  · rcases hk with hk | hk
    · exact wpAny_Name (wpAny_loadName_cell I.ok.kind hk hc hcell fin) hd
    · exact wpAny_Name (wpAny_loadName_free I.ok.kind hk hc hcell fin hcd) hd
theorem pe_int {i j pos} : PE X (.Constant (.int i) j pos) (tC (.int i)) := fun _ _ _ H _ I h => wpAny_Constant_int ⟨.int i, H, I.tok _, ⟨_, rfl⟩, h⟩
theorem pe_bl {b j pos} : PE X (.Constant (.bool b) j pos) (tC (.bl b)) := fun _ _ _ H _ I h => Constant_bool ⟨.bl b, H, I, rfl, h⟩
theorem pe_non {j pos} : PE X (.Constant .none j pos) (tC .non) := fun _ _ _ H _ I h => Constant_none ⟨.non, H, I, rfl, h⟩
def Gl (X : Cx) (x : Str) : Prop := X.env.kindOf x = some .globalImplicit
theorem ld_glob {E : Value → Shared → Prop} {pins : List (Addr × Obj)} {s : Shared} {σ : St} {H : Hp} {x : Str} {u : Value} {pos : Pos} {Q : Value → Shared → Prop} (I : Inv X pins σ H s) (hg : Gl X x) (hm : X.mg x = some u) (h : Q u s)
    (hd : (x == ("__debug__" : Str)) = false := by decide) : wpAny (model X.prog X.w) X.A (eval (.Name x pos) X.env) Q E s :=
  Calls.Name_function_global I.ok.kind hg (Calls.loadGlobal_global (by rw [I.ok.glob]; exact I.mod.glob.keeps I.bk) hm h) hd
theorem ld_blt {E : Value → Shared → Prop} {pins : List (Addr × Obj)} {s : Shared} {σ : St} {H : Hp} {x : Str} {u : Value} {pos : Pos} {Q : Value → Shared → Prop} (I : Inv X pins σ H s) (hg : Gl X x) (hm : X.mg x = none) (hv : bootBuiltins x = some u) (h : Q u s)
    (hn : x ≠ "__name__" := by decide) (hd : (x == ("__debug__" : Str)) = false := by decide) : wpAny (model X.prog X.w) X.A (eval (.Name x pos) X.env) Q E s := by
  obtain ⟨mb, h1, h2⟩ := I.mod.blt
  exact Calls.Name_function_global I.ok.kind hg (Calls.loadGlobal_builtin (by rw [I.ok.glob]; exact I.mod.glob.keeps I.bk) hm (by rw [I.ok.blt]; exact h1.keeps I.bk) ((h2 x hn).trans hv) h) hd
theorem pe_glob {x : Str} {v : V} {u : Value} {pos : Pos} (hg : Gl X x) (hm : X.mg x = some u) (r : RelV v u) (hd : (x == ("__debug__" : Str)) = false := by decide) : PE X (.Name x pos) (tC v) :=
  fun _ _ _ H _ I h => ld_glob I hg hm ⟨v, H, I, r, h⟩ hd
theorem pe_bltn {x : Str} {v : V} {u : Value} {pos : Pos} (hg : Gl X x) (hm : X.mg x = none) (hv : bootBuiltins x = some u) (r : RelV v u) (hn : x ≠ "__name__" := by decide) (hd : (x == ("__debug__" : Str)) = false := by decide) : PE X (.Name x pos) (tC v) :=
  fun _ _ _ H _ I h => ld_blt I hg hm hv ⟨v, H, I, r, h⟩ hn hd
variable {a b : Expr} {ta tb : TE} {pos : Pos}
def tB (t : TE) : TT := fun σ H Q => t σ H fun x H1 => ∃ c, x = .bl c ∧ Q c H1
theorem pt_val {e : Expr} {t : TE} (h : PE X e t) (he : ∀ whole, isTrue e X.env whole = (do let v ← whole; standAt e.pos; holding [v] (truthy v)) := by intro _; rfl) : PT X e (tB t) := by
  intro pins s σ H Q I hw
  refine isTrue_plain (thn (h pins s σ H _ I hw) fun v s1 ⟨x, H1, I1, r1, q1⟩ => ?_) (he _)
  obtain ⟨d, rfl, q⟩ := q1
  cases r1
  exact wpAny_truthy_bool ⟨H1, I1, q⟩
variable {tA tB' : TT} {rest : List Expr}
def tAnd (t u : TT) : TT := fun σ H Q => t σ H fun c H1 => if c = true then u σ H1 Q else Q false H1
def tOr (t u : TT) : TT := fun σ H Q => t σ H fun c H1 => if c = true then Q true H1 else u σ H1 Q
def tNot (t : TT) : TT := fun σ H Q => t σ H fun c H1 => Q (!c) H1
theorem pw_and1 (ha : PT X a tA) : PW X (.BoolOp .And [a] pos) tA := by
  intro wh pins s σ H Q I h
  refine isTrue_and (thn (ha pins s σ H Q I h) fun c s1 e => ?_)
  cases c with
  | true => exact isTrue_and_nil e
  | false => exact e
theorem pw_or1 (ha : PT X a tA) : PW X (.BoolOp .Or [a] pos) tA := by
  intro wh pins s σ H Q I h
  refine isTrue_or (thn (ha pins s σ H Q I h) fun c s1 e => ?_)
  cases c with
  | false => exact isTrue_or_nil e
  | true => exact e
theorem pw_and (ha : PT X a tA) (hb : PW X (.BoolOp .And (b :: rest) pos) tB') : PW X (.BoolOp .And (a :: b :: rest) pos) (tAnd tA tB') := by
  intro wh pins s σ H Q I h
  refine isTrue_and (thn (ha pins s σ H _ I h) fun c s1 ⟨H1, I1, q1⟩ => ?_)
  cases c with
  | true => exact hb wh pins s1 σ H1 Q I1 q1
  | false => exact ⟨H1, I1, q1⟩
theorem pw_or (ha : PT X a tA) (hb : PW X (.BoolOp .Or (b :: rest) pos) tB') : PW X (.BoolOp .Or (a :: b :: rest) pos) (tOr tA tB') := by
  intro wh pins s σ H Q I h
  refine isTrue_or (thn (ha pins s σ H _ I h) fun c s1 ⟨H1, I1, q1⟩ => ?_)
  cases c with
  | true => exact ⟨H1, I1, q1⟩
  | false => exact hb wh pins s1 σ H1 Q I1 q1
theorem pt_not (ha : PT X a tA) : PT X (.UnaryOp .Not a pos) (tNot tA) := by
  intro pins s σ H Q I h
  exact isTrue_not (ha pins s σ H (fun c H1 => Q (!c) H1) I h)
def tAndV (ta tb : TE) : TE := fun σ H Q => ta σ H fun x H1 => ∃ c, x = .bl c ∧ if c = true then tb σ H1 Q else Q (.bl false) H1
def tOrV (ta tb : TE) : TE := fun σ H Q => ta σ H fun x H1 => ∃ c, x = .bl c ∧ if c = true then Q (.bl true) H1 else tb σ H1 Q
def tNotV (ta : TE) : TE := fun σ H Q => ta σ H fun x H1 => ∃ c, x = .bl c ∧ Q (.bl (!c)) H1
theorem pe_one {op} {t : TE} (h : PE X a t) : PE X (.BoolOp op [a] pos) t := fun pins s σ H Q I hw => BoolOp_one (h pins s σ H Q I hw)
theorem pe_and (ha : PE X a ta) (hb : PE X (.BoolOp .And (b :: rest) pos) tb) : PE X (.BoolOp .And (a :: b :: rest) pos) (tAndV ta tb) := by
  intro pins s σ H Q I h
  refine BoolOp_and (thn (ha pins s σ H _ I h) fun v s1 ⟨x, H1, I1, r1, q1⟩ => ?_)
  obtain ⟨c, rfl, q1⟩ := q1
  cases r1
  refine wpAny_truthy_bool ?_
  cases c with
  | true => exact hb pins s1 σ H1 Q I1 q1
  | false => exact ⟨.bl false, H1, I1, rfl, q1⟩
theorem pe_or (ha : PE X a ta) (hb : PE X (.BoolOp .Or (b :: rest) pos) tb) : PE X (.BoolOp .Or (a :: b :: rest) pos) (tOrV ta tb) := by
  intro pins s σ H Q I h
  refine BoolOp_or (thn (ha pins s σ H _ I h) fun v s1 ⟨x, H1, I1, r1, q1⟩ => ?_)
  obtain ⟨c, rfl, q1⟩ := q1
  cases r1
  refine wpAny_truthy_bool ?_
  cases c with
  | false => exact hb pins s1 σ H1 Q I1 q1
  | true => exact ⟨.bl true, H1, I1, rfl, q1⟩
theorem pe_not (ha : PE X a ta) : PE X (.UnaryOp .Not a pos) (tNotV ta) := by
  intro pins s σ H Q I h
  refine UnaryOp_ (thn (ha pins s σ H _ I h) fun v s1 ⟨x, H1, I1, r1, q1⟩ => ?_)
  obtain ⟨c, rfl, q1⟩ := q1
  cases r1
  exact not_of (wpAny_truthy_bool ⟨.bl (!c), H1, I1, rfl, q1⟩)
def tIf (t : TT) (ta tb : TE) : TE := fun σ H Q => t σ H fun c H1 => if c = true then ta σ H1 Q else tb σ H1 Q
theorem pe_ifExp {c : Expr} (hc : PT X c tA) (ha : PE X a ta) (hb : PE X b tb) : PE X (.IfExp c a b pos) (tIf tA ta tb) := by
  intro pins s σ H Q I h
  refine wpAny_IfExp (thn (hc pins s σ H _ I h) fun d s1 ⟨H1, I1, q1⟩ => ?_)
  cases d with
  | true => exact ha pins s1 σ H1 Q I1 q1
  | false => exact hb pins s1 σ H1 Q I1 q1
end
end L2
namespace L2
open PySem PySem.Spec PyProof.Rows
def SqL (K : PySem.W.Frag) (H : Hp) (a : Addr) (xs : List V) : Prop :=
  Rd H a (.lst xs) ∨
    ∃ (o : Obj) (its : Array Value) (n : Nat), K.lookup a = some o ∧ o.cls = .type "list" ∧ o.dict = none ∧ o.data = .seq its n ∧ its.size ≤ sizeLine ∧ Vals xs its.toList
def SqT (K : PySem.W.Frag) (H : Hp) (a : Addr) (xs : List V) : Prop :=
  Rd H a (.tup xs) ∨
    ∃ (o : Obj) (its : Array Value) (n : Nat), K.lookup a = some o ∧ o.cls = .type "tuple" ∧ o.data = .seq its n ∧ its.size ≤ sizeLine ∧ Vals xs its.toList
def absV : Value → Option V
  | .none => some .non
  | .bool b => some (.bl b)
  | .int i _ => some (.int i)
  | .str x _ => some (.str x)
  | .bytes b _ => some (.byt b)
  | .float b _ => some (.flt b)
  | .ref a => some (.ref a)
  | .type n => some (.ty n)
  | _ => none
theorem RelV.abs {x : V} {u : Value} (r : RelV x u) : absV u = some x := by
  cases x with
  | non => cases r; rfl
  | bl _ => cases r; rfl
  | int _ => obtain ⟨t, rfl⟩ := r; rfl
  | str _ => obtain ⟨t, rfl⟩ := r; rfl
  | byt _ => obtain ⟨t, rfl⟩ := r; rfl
  | flt _ => obtain ⟨t, rfl⟩ := r; rfl
  | ref _ => cases r; rfl
  | ty _ => cases r; rfl
theorem RelV.inj {x y : V} {u : Value} (r : RelV x u) (q : RelV y u) : x = y := Option.some.inj (r.abs.symm.trans q.abs)
theorem Vals.inj : ∀ {xs ys : List V} {us : List Value}, Vals xs us → Vals ys us → xs = ys
  | _, _, _, .nil, .nil => rfl
  | _, _, _, .cons r t, .cons r' t' => by rw [r.inj r', Vals.inj t t']
section
variable {X : Cx} {pins : List (Addr × Obj)} {σ : St} {H : Hp} {s : Shared} {a : Addr} {xs ys : List V}
theorem SqL.of {K : PySem.W.Frag} (h : H a = some (.lst xs)) : SqL K H a xs := .inl (.inl h)
theorem SqT.of {K : PySem.W.Frag} (h : H a = some (.tup xs)) : SqT K H a xs := .inl (.inl h)
theorem Inv.list (I : Inv X pins σ H s) (h : SqL X.K H a xs) : ∃ its : List Value, Vals xs its ∧ PlainL s.heap a its.toArray ∧ xs.length ≤ sizeLine := by
  rcases h with h | ⟨o, its, n, hk, hc, hd, hs, hz, r⟩
  · obtain ⟨z, its, n, r, e⟩ := h.ok I.hok
    exact ⟨its, r, ⟨_, n, e, rfl, rfl, rfl⟩, z⟩
  · refine ⟨its.toList, r, ⟨o, n, I.kIn a o hk, hc, hd, by simpa using hs⟩, ?_⟩
    have e := r.length
    simp only [Array.length_toList] at e
    omega
theorem Inv.tuple (I : Inv X pins σ H s) (h : SqT X.K H a xs) : ∃ its : List Value, Vals xs its ∧ IsTup s.heap a its.toArray ∧ xs.length ≤ sizeLine := by
  rcases h with h | ⟨o, its, n, hk, hc, hs, hz, r⟩
  · obtain ⟨z, its, r, p⟩ := h.ok I.hok
    exact ⟨its, r, p, z⟩
  · refine ⟨its.toList, r, ⟨o, I.kIn a o hk, hc, n, by simpa using hs⟩, ?_⟩
    have e := r.length
    simp only [Array.length_toList] at e
    omega
theorem Inv.list_inj (I : Inv X pins σ H s) (h : SqL X.K H a xs) (h' : SqL X.K H a ys) : xs = ys := by
  obtain ⟨its, r, ⟨o, n, e, _, _, d⟩, _⟩ := I.list h
  obtain ⟨its', r', ⟨o', n', e', _, _, d'⟩, _⟩ := I.list h'
  rw [e] at e'; cases e'
  rw [d] at d'
  injection d' with d1 _
  have : its = its' := by simpa using congrArg Array.toList d1
  subst this
  exact r.inj r'
end
abbrev Cx.wish (X : Cx) (E : Value → Shared → Prop) : Cx := { X with xe := E }
abbrev Cx.nox (X : Cx) : Cx := X.wish fun _ _ => False
theorem Cx.Ok.wish {X : Cx} (ok : X.Ok) (E : Value → Shared → Prop) : (X.wish E).Ok :=
  ⟨ok.mod, ok.kind, ok.glob, ok.blt, ok.above, ok.inj, ok.has, ok.cab, ok.hd, ok.frames, ok.stk, ok.exf, ok.bs, ok.bsz, ok.noex, ok.exfs, ok.funs, ok.frf⟩
theorem Cx.Ok.unwish {X : Cx} {E : Value → Shared → Prop} (ok : (X.wish E).Ok) : X.Ok :=
  ⟨ok.mod, ok.kind, ok.glob, ok.blt, ok.above, ok.inj, ok.has, ok.cab, ok.hd, ok.frames, ok.stk, ok.exf, ok.bs, ok.bsz, ok.noex, ok.exfs, ok.funs, ok.frf⟩
section
variable {X : Cx} {pins : List (Addr × Obj)} {σ : St} {H : Hp} {s : Shared} {E : Value → Shared → Prop}
theorem Inv.wish (I : Inv X pins σ H s) (E : Value → Shared → Prop) : Inv (X.wish E) pins σ H s := ⟨I.ok.wish E, I.os, I.bare, I.base, I.loc, I.cell, I.free, I.freeC, I.pin, I.hok, I.len⟩
theorem Inv.unwish (I : Inv (X.wish E) pins σ H s) : Inv X pins σ H s := ⟨I.ok.unwish, I.os, I.bare, I.base, I.loc, I.cell, I.free, I.freeC, I.pin, I.hok, I.len⟩
theorem SP.unwish {D : Ends} {f : Flow} {s' : Shared} (h : SP (X.wish E) pins D f s') : SP X pins D f s' := by
  cases f with
  | next => obtain ⟨σ', H', I, q⟩ := h; exact ⟨σ', H', I.unwish, q⟩
  | brk => obtain ⟨σ', H', I, q⟩ := h; exact ⟨σ', H', I.unwish, q⟩
  | cont => obtain ⟨σ', H', I, q⟩ := h; exact ⟨σ', H', I.unwish, q⟩
  | ret u => obtain ⟨v, σ', H', I, r, q⟩ := h; exact ⟨v, σ', H', I.unwish, r, q⟩
theorem PE.nox {e : Expr} {t : TE} (h : PE X.nox e t) : PE X e t := fun pins s σ H Q I hw =>
  wpAny_mono (h pins s σ H Q (I.wish _) hw) (fun _ _ ⟨v, H', I', r, q⟩ => ⟨v, H', I'.unwish, r, q⟩) fun _ _ z => False.elim z
theorem PT.nox {e : Expr} {t : TT} (h : PT X.nox e t) : PT X e t := fun pins s σ H Q I hw =>
  wpAny_mono (h pins s σ H Q (I.wish _) hw) (fun _ _ ⟨H', I', q⟩ => ⟨H', I'.unwish, q⟩) fun _ _ z => False.elim z
theorem PSs.nox {st : List Stmt} {t : TS} (h : PSs X.nox st t) : PSs X st t := fun pins s σ H D I hw =>
  wpAny_mono (h pins s σ H D (I.wish _) hw) (fun _ _ q => q.unwish) fun _ _ z => False.elim z
end
section
variable {X : Cx} {st : Stmt} {rest : List Stmt} {t u : TS} {e : Expr} {te : TE} {pos : Pos}
def tNext : TS := fun D σ H => D.nx σ H
def tSeq (t u : TS) : TS := fun D σ H => t { D with nx := u D } σ H
theorem pss_nil : PSs X [] tNext := fun _ _ σ H _ I h => wpAny_execs_nil ⟨σ, H, I, h⟩
theorem pss_cons (h1 : PS X st t) (h2 : PSs X rest u) : PSs X (st :: rest) (tSeq t u) := by
  intro pins s σ H D I h
  refine wpAny_execs_cons (thn (h1 pins s σ H { D with nx := u D } I h) fun f s1 q => ?_)
  cases f with
  | next =>
    obtain ⟨σ', H', I', q⟩ := q
    exact h2 pins s1 σ' H' D I' q
  | ret v => exact q
  | brk => exact q
  | cont => exact q
theorem pss_one (h1 : PS X st t) : PSs X [st] t := by
  intro pins s σ H D I h
  refine wpAny_execs_cons (thn (h1 pins s σ H D I h) fun f s1 q => ?_)
  cases f with
  | next => exact wpAny_execs_nil q
  | ret v => exact q
  | brk => exact q
  | cont => exact q
theorem Inv.quiet {pins : List (Addr × Obj)} {σ : St} {H : Hp} {s : Shared} (I : Inv X pins σ H s) : interactive X.env = false := by simp [interactive, I.ok.kind]
def tDrop (te : TE) : TS := fun D σ H => te σ H fun _ H1 => D.nx σ H1
theorem ps_expr (he : PE X e te) (hs : swapsWith e none pos.line X.env = pure false := by rfl) : PS X (.Expr e pos) (tDrop te) := by
  intro pins s σ H D I h
  exact wpAny_Expr_any (thn (he pins s σ H _ I h) fun v s1 ⟨x, H1, I1, r1, q1⟩ => ⟨σ, H1, I1, q1⟩) I.quiet hs
def tRet (te : TE) : TS := fun D σ H => te σ H D.rt
theorem ps_ret (he : PE X e te) : PS X (.Return (some e) pos) (tRet te) := by
  intro pins s σ H D I h
  exact wpAny_Return_some (thn (he pins s σ H _ I h) fun v s1 ⟨x, H1, I1, r1, q1⟩ => ⟨x, σ, H1, I1, r1, q1⟩)
def tIfS (c : TT) (t u : TS) : TS := fun D σ H => c σ H fun b H1 => if b = true then t D σ H1 else u D σ H1
theorem ps_if {c : Expr} {a b : List Stmt} {tc : TT} (hc : PT X c tc) (ha : PSs X a t) (hb : PSs X b u) : PS X (.If c a b pos) (tIfS tc t u) := by
  intro pins s σ H D I h
  refine wpAny_If (thn (hc pins s σ H _ I h) fun d s1 ⟨H1, I1, q1⟩ => ?_)
  cases d with
  | true => exact ha pins s1 σ H1 D I1 q1
  | false => exact hb pins s1 σ H1 D I1 q1
end
abbrev TG := V → St → Hp → (St → Hp → Prop) → Prop
abbrev TGs := List V → St → Hp → (St → Hp → Prop) → Prop
def PG (X : Cx) (target : Expr) (t : TG) : Prop :=
  ∀ (pins : List (Addr × Obj)) (s : Shared) (σ : St) (H : Hp) (v : V) (u : Value) (Q : St → Hp → Prop), Inv X pins σ H s → RelV v u → t v σ H Q →
    wpAny (model X.prog X.w) X.A (assign target X.env u) (fun _ s' => ∃ σ' H', Inv X pins σ' H' s' ∧ Q σ' H') X.xe s
def PGs (X : Cx) (ts : List Expr) (t : TGs) : Prop :=
  ∀ (pins : List (Addr × Obj)) (s : Shared) (σ : St) (H : Hp) (vs : List V) (us : List Value) (Q : St → Hp → Prop), Inv X pins σ H s → Vals vs us → t vs σ H Q →
    wpAny (model X.prog X.w) X.A (assignInOrder ((assignEach ts X.env).map (·.2)) us) (fun _ s' => ∃ σ' H', Inv X pins σ' H' s' ∧ Q σ' H') X.xe s
abbrev TSet := V → V → V → Hp → (Hp → Prop) → Prop
def PSet (X : Cx) (t : TSet) : Prop :=
  ∀ (pins : List (Addr × Obj)) (s : Shared) (σ : St) (H : Hp) (o i v : V) (ov iv u : Value) (Q : Hp → Prop), Inv X pins σ H s → RelV o ov → RelV i iv → RelV v u → t o i v H Q →
    wpAny (model X.prog X.w) X.A (setItem ov iv u) (fun _ s' => ∃ H', Inv X pins σ H' s' ∧ Q H') X.xe s
abbrev TIp := V → V → Hp → VK → Prop
def PIp (X : Cx) (op : Operator) (t : TIp) : Prop :=
  ∀ (pins : List (Addr × Obj)) (s : Shared) (σ : St) (H : Hp) (x y : V) (v u : Value) (Q : VK), Inv X pins σ H s → RelV x v → RelV y u → t x y H Q →
    wpAny (model X.prog X.w) X.A (inplaceOp op v u) (EP X pins σ Q) X.xe s
section
variable {X : Cx} {pos : Pos}
def gName (i : Nat) : TG := fun v σ H Q => Q (σ.set i (some v)) H
theorem pg_name {i : Nat} {x : Str} (hN : X.N.Nodup) (hi : X.N[i]? = some x) (hx : Loc X.env.scope x) (hf : X.fn x = true ∨ X.env.scope.names.lookup x = some .local := by first | exact .inl rfl | exact .inr rfl | assumption) : PG X (.Name x pos) (gName i) := by
  intro pins s σ H v u Q I r h
  exact wpAny_assign_Name (store_ok I hN hi hx r (fun s' I' => ⟨_, H, I', h⟩) hf)
def gNil : TGs := fun vs σ H Q => vs = [] ∧ Q σ H
def gCons (t : TG) (u : TGs) : TGs := fun vs σ H Q => ∃ v r, vs = v :: r ∧ t v σ H fun σ' H' => u r σ' H' Q
theorem pgs_nil : PGs X [] gNil := by
  intro pins s σ H vs us Q I r h
  obtain ⟨e, h⟩ := h
  subst e
  cases r
  exact assignInOrder_nil ⟨σ, H, I, h⟩
theorem pgs_cons {e : Expr} {es : List Expr} {t : TG} {u : TGs} (h1 : PG X e t) (h2 : PGs X es u)
    (hs : (assignEach (e :: es) X.env).map (·.2) = assign e X.env :: (assignEach es X.env).map (·.2) := by rfl) : PGs X (e :: es) (gCons t u) := by
  intro pins s σ H vs us Q I r h
  obtain ⟨v, vr, e1, h⟩ := h
  subst e1
  cases r with
  | cons r rr =>
    rw [hs]
    refine assignInOrder_cons (thn (h1 pins s σ H _ _ _ I r h) fun _ s1 ⟨σ1, H1, I1, q1⟩ => ?_)
    exact h2 pins s1 σ1 H1 _ _ Q I1 rr q1
def gTup (K : PySem.W.Frag) (n : Nat) (t : TGs) : TG := fun v σ H Q => ∃ a xs, v = .ref a ∧ SqT K H a xs ∧ xs.length = n ∧ t xs σ H Q
theorem pg_tup {es : List Expr} {k : Nat} {t : TGs} {n : Nat} (hc : X.calm = true) (h : PGs X es t)
    (hn : (assignEach es X.env).length = n := by rfl) (hst : (assignEach es X.env).findIdx? (·.1) = none := by rfl) : PG X (.Tuple es k pos) (gTup X.K n t) := by
  intro pins s σ H v u Q I r hw
  obtain ⟨a, xs, e1, hq, hl, hw⟩ := hw
  subst e1
  cases r
  obtain ⟨its, rv, ht, hz⟩ := I.tuple hq
  refine assign_Tuple_tuple (I.ok.hd hc) ht (by simp [hn, ← hl, rv.length]) hst fun h' hx => ?_
  have I1 : Inv X pins σ H { s with heap := h' } := I.kept (t' := s.toks) fun b o e => hx b o (Nat.ne_of_lt (Heap.lt_size e)) e
  exact h pins _ σ H xs _ Q I1 (by simpa using rv) hw
def gSub (to ti : TE) (t : TSet) : TG := fun v σ H Q => to σ H fun o H1 => ti σ H1 fun i H2 => t o i v H2 fun H3 => Q σ H3
theorem pg_sub {o i : Expr} {to ti : TE} {t : TSet} (ho : PE X o to) (hi : PE X i ti) (hs : PSet X t)
    (ha : ∀ v, assign (.Subscript o i pos) X.env v = (do
      let ov ← holding [v] (eval o X.env)
      let iv ← holding [v, ov] (eval i X.env)
      standAt pos
      holding [v, ov, iv] (setItem ov iv v)
      release [v, ov, iv] []) := by intro _; rfl) : PG X (.Subscript o i pos) (gSub to ti t) := by
  intro pins s σ H v u Q I r h
  rw [ha]
  refine wpAny_bind (wpAny_holding (thn (ho pins s σ H _ I h) fun ov s1 ⟨x, H1, I1, r1, q1⟩ => ?_))
  refine wpAny_bind (wpAny_holding (thn (hi pins s1 σ H1 _ I1 q1) fun iv s2 ⟨y, H2, I2, r2, q2⟩ => ?_))
  refine wpAny_bind (wpAny_standAt (wpAny_bind (wpAny_holding (thn (hs pins s2 σ H2 x y v ov iv u _ I2 r1 r2 r q2) fun _ s3 ⟨H3, I3, q3⟩ => ?_))))
  exact wpAny_release ⟨σ, H3, I3, q3⟩
def tAsg (te : TE) (g : TG) : TS := fun D σ H => te σ H fun x H1 => g x σ H1 D.nx
theorem ps_asg {tg e : Expr} {te : TE} {g : TG} (he : PE X e te) (hg : PG X tg g) (hs : swapsWithSole [tg] e pos.line X.env = pure false := by rfl) (hw : swappedStores [tg] e X.env = pure none := by rfl)
    (h1 : (assignEach [tg] X.env).map (·.2) = [assign tg X.env] := by rfl) : PS X (.Assign [tg] e pos) (tAsg te g) := by
  intro pins s σ H D I h
  refine wpAny_Assign_stores (thn (he pins s σ H _ I h) fun v s1 ⟨x, H1, I1, r1, q1⟩ => ?_) hs hw
  rw [h1]
  exact thn (hg pins s1 σ H1 x v _ I1 r1 q1) fun _ s2 q => q
theorem ps_set {i : Nat} {x : Str} {e : Expr} {te : TE} {pos' : Pos} (hN : X.N.Nodup) (hi : X.N[i]? = some x) (hx : Loc X.env.scope x) (he : PE X e te) (hs : swapsWith e (some (.Name x pos')) pos.line X.env = pure false := by rfl) (hf : X.fn x = true ∨ X.env.scope.names.lookup x = some .local := by first | exact .inl rfl | exact .inr rfl | assumption) :
    PS X (.Assign [.Name x pos'] e pos) (tAsg te (gName i)) := by
  intro pins s σ H D I h
  refine wpAny_Assign_Name (thn (he pins s σ H _ I h) fun v s1 ⟨y, H1, I1, r1, q1⟩ => ?_) hs
  exact store_ok I1 hN hi hx r1 (fun s2 I2 => ⟨_, H1, I2, q1⟩) hf
def tAug (i : Nat) (te : TE) (ti : TIp) : TS := fun D σ H => ∃ x, σ[i]? = some (some x) ∧ te σ H fun y H1 => ti x y H1 fun z H2 => D.nx (σ.set i (some z)) H2
theorem ps_aug {i : Nat} {x : Str} {e : Expr} {te : TE} {op : Operator} {ti : TIp} {pos' : Pos} (hN : X.N.Nodup) (hi : X.N[i]? = some x) (hx : Loc X.env.scope x) (he : PE X e te) (ho : PIp X op ti) (hf : X.fn x = true ∨ X.env.scope.names.lookup x = some .local := by first | exact .inl rfl | exact .inr rfl | assumption) :
    PS X (.AugAssign (.Name x pos') op e pos) (tAug i te ti) := by
  intro pins s σ H D I h
  obtain ⟨v, e1, h⟩ := h
  obtain ⟨m, hn, hl⟩ := I.loc
  have vis : Vis X.env.scope x := by rcases hx with k | k; exact .inl k; exact .inr (.inl k)
  obtain ⟨u, r, l⟩ := hl i x v hi e1 vis
  refine wpAny_AugAssign_Name ?_
  have go : wpAny (model X.prog X.w) X.A (eval e X.env) (fun w s₂ => wpAny (model X.prog X.w) X.A (inplaceOp op u w) (fun r s₃ => wpAny (model X.prog X.w) X.A (storeName X.env x r) (fun _ => SP X pins D .next) X.xe s₃) X.xe s₂) X.xe s := by
    refine thn (he pins s σ H _ I h) fun w s1 ⟨y, H1, I1, r1, q1⟩ => ?_
    refine thn (ho pins s1 σ H1 v y u w _ I1 r r1 q1) fun z s2 ⟨zv, H2, I2, r2, q2⟩ => ?_
    exact store_ok I2 hN hi hx r2 (fun s3 I3 => ⟨_, H2, I3, q2⟩) hf
  rcases l with ⟨hk, hm⟩ | ⟨hk, c, hc, hcell⟩
  · exact wpAny_loadName_local I.ok.kind hk hn hm go
  · rcases hk with hk | hk
    · exact wpAny_loadName_cell I.ok.kind hk hc hcell go
    · rcases hx with k | k
      · have : X.env.scope.names.lookup x = some .free := hk
        rw [k] at this; cases this
      · have : X.env.scope.names.lookup x = some .free := hk
        rw [k] at this; cases this
def ipI (f : Int → Int → Int) : TIp := fun x y H Q => ∃ i j, x = .int i ∧ y = .int j ∧ Q (.int (f i j)) H
theorem ip_add : PIp X .Add (ipI fun i j => i + j) := by
  intro pins s σ H x y v u Q I r1 r2 h
  obtain ⟨i, j, e1, e2, q⟩ := h
  subst e1; subst e2
  obtain ⟨t, rfl⟩ := r1
  obtain ⟨t', rfl⟩ := r2
  exact iadd_int ⟨.int _, H, I.tok _, ⟨_, rfl⟩, q⟩
end
section
variable {X : Cx} {pos : Pos}
def tWhile (c : TT) (tb : TS) : TS := fun D σ H => ∃ W : Nat → St → Hp → Prop, (∃ m, W m σ H) ∧ ∀ m σ H, W m σ H →
  c σ H fun b H1 => if b = true then ∃ N : St → Hp → Prop, (∀ σ' H', N σ' H' → ∃ m', m' < m ∧ W m' σ' H') ∧ tb { D with nx := N, ct := N, bk := D.nx } σ H1 else D.nx σ H1
theorem ps_while {c : Expr} {body : List Stmt} {tc : TT} {tb : TS} (hp : PassesOwn (model X.prog X.w) X.A X.env X.xe) (hc : PT X c tc) (hb : PSs X body tb) : PS X (.While c body [] pos) (tWhile tc tb) := by
  intro pins s σ H D I h
  obtain ⟨W, ⟨m0, w0⟩, turn⟩ := h
  refine wpAny_While (codeAny_whileLoop (fun n s' => ∃ σ' H', Inv X pins σ' H' s' ∧ W n σ' H') ?_ m0 ⟨σ, H, I, w0⟩)
  rintro n s1 ⟨σ1, H1, I1, w1⟩
  refine wpAny_passesOwn hp (thn (hc pins s1 σ1 H1 _ I1 (turn n σ1 H1 w1)) fun b s2 ⟨H2, I2, q2⟩ => ?_)
  cases b with
  | true =>
    obtain ⟨N, hN, q2⟩ := q2
    rw [if_pos rfl]
    refine wpAny_passesOwn hp (thn (hb pins s2 σ1 H2 _ I2 q2) fun f s3 q3 => ?_)
    cases f with
    | next =>
      obtain ⟨σ3, H3, I3, n3⟩ := q3
      obtain ⟨m', hm, w3⟩ := hN σ3 H3 n3
      exact ⟨m', hm, σ3, H3, I3, w3⟩
    | cont =>
      obtain ⟨σ3, H3, I3, n3⟩ := q3
      obtain ⟨m', hm, w3⟩ := hN σ3 H3 n3
      exact ⟨m', hm, σ3, H3, I3, w3⟩
    | brk => exact q3
    | ret v => exact q3
  | false =>
    rw [if_neg Bool.false_ne_true]
    exact wpAny_execs_nil ⟨σ1, H2, I2, q2⟩
end
structure It where
  go : Nat → Hp → Prop
  yld : Nat → Hp → V → Hp → Prop
  stop : Nat → Hp → Prop
def FpOk (X : Cx) (pins : List (Addr × Obj)) (H : Hp) (b : Addr) : Prop :=
  H b = none ∧ b ≠ X.env.locals ∧ b ∉ X.fs ∧ (b ∈ X.ex ∨ X.s₀.heap.objs.size ≤ b) ∧ (∀ x c, X.env.cells.lookup x = some c → c ≠ b) ∧ ∀ p ∈ X.pn ++ pins, p.1 ≠ b
theorem Inv.fpOk {X : Cx} {pins : List (Addr × Obj)} {σ : St} {H H' : Hp} {s : Shared} {b : Addr} (I : Inv X pins σ H s) (hb : s.heap.objs.size ≤ b) (hn : H' b = none) : FpOk X pins H' b := by
  refine ⟨hn, Nat.ne_of_gt (Nat.lt_of_lt_of_le I.lt hb), I.nofs hb, .inr (Nat.le_trans I.sz hb), fun x c e z => ?_, fun p hp z => ?_⟩
  · obtain ⟨v, q⟩ := I.cell x c e
    exact absurd (Nat.lt_of_lt_of_le q.lt (by rw [z]; exact hb)) (Nat.lt_irrefl _)
  · exact absurd (Nat.lt_of_lt_of_le (Heap.lt_size (I.pin p hp).1) (by rw [z]; exact hb)) (Nat.lt_irrefl _)
structure Turn (P : Program) (w : World) (K : PySem.W.Frag) (tg : Expr) (J : It) (fp : List Addr) (it : Addr) (tn : Nat → Heap → Prop) : Prop where
  mem : it ∈ fp
  obj : ∀ i h, tn i h → ∀ b ∈ fp, ∃ o, h.get? b = some o ∧ ∀ v, o.data ≠ .cell v
  keep : ∀ i h h', tn i h → (∀ b ∈ fp, ∀ o, h.get? b = some o → h'.get? b = some o) → tn i h'
  item : ∀ (X : Cx), X.prog = P → X.w = w → X.K = K → X.calm = true → ∀ (i : Nat) (pins : List (Addr × Obj)) (s : Shared) (σ : St) (H : Hp) (E : Value → Shared → Prop), Inv X pins σ H s → (∀ b ∈ fp, FpOk X pins H b) → tn i s.heap → J.go i H →
    wpAny (model P w) X.A (pyNext (.ref it)) (fun r s1 => ∃ u, r = some u ∧
      wpAny (model P w) X.A (letOwnedTupleGo tg (.ref it) u) (fun _ s2 => ∃ x H', Inv X pins σ H' s2 ∧ RelV x u ∧ J.yld i H x H' ∧ tn (i + 1) s2.heap ∧ ∀ b ∈ fp, H' b = none) E s1) E s
  done : ∀ (X : Cx), X.prog = P → X.w = w → X.K = K → X.calm = true → ∀ (i : Nat) (pins : List (Addr × Obj)) (s : Shared) (σ : St) (H : Hp) (E : Value → Shared → Prop), Inv X pins σ H s → (∀ b ∈ fp, FpOk X pins H b) → tn i s.heap → J.stop i H →
    wpAny (model P w) X.A (pyNext (.ref it)) (fun r s1 => r = none ∧ Inv X pins σ H s1) E s
  self : ∀ (A : Around) (i : Nat) (s : Shared) (Q : Value → Shared → Prop) (E : Value → Shared → Prop), tn i s.heap → Q (.ref it) s → wpAny (model P w) A (pyIter (.ref it)) Q E s
abbrev TI := St → Hp → (It → Hp → Prop) → Prop
def PIE (X : Cx) (pins : List (Addr × Obj)) (σ : St) (tg : Expr) (R : It → Hp → Prop) (itv : Value) (s2 : Shared) : Prop :=
  ∃ (it : Addr) (fp : List Addr) (tn : Nat → Heap → Prop) (J : It) (H' : Hp), itv = .ref it ∧ Inv X pins σ H' s2 ∧ Turn X.prog X.w X.K tg J fp it tn ∧ tn 0 s2.heap ∧ (∀ b ∈ fp, FpOk X pins H' b) ∧ R J H'
def PI (X : Cx) (tg iter : Expr) (wi : TI) : Prop :=
  ∀ (pins : List (Addr × Obj)) (s : Shared) (σ : St) (H : Hp) (R : It → Hp → Prop), Inv X pins σ H s → wi σ H R →
    wpAny (model X.prog X.w) X.A (eval iter X.env) (fun v s1 => wpAny (model X.prog X.w) X.A (pyIter v) (PIE X pins σ tg R) X.xe s1) X.xe s
theorem go_of {M : Model} {A : Around} {E : Value → Shared → Prop} {s : Shared} {tg : Expr} {it : Addr} {u : Value} {o : Obj} {n : String} {vs : Array Value} {Q : Unit → Shared → Prop} (ho : s.heap.get? it = some o) (hc : o.cls = .type n) (hd : o.data = .fields vs)
    (hn : ["enumerate", "zip", "dict_itemiterator", "dict_reverseitemiterator", "odict_iterator", "itertools.zip_longest", "itertools.pairwise"].contains n = false) (hQ : Q () s) : wpAny M A (letOwnedTupleGo tg (.ref it) u) Q E s := by
  unfold letOwnedTupleGo
  cases tg <;> first
    | exact wpAny_pure hQ
    | (cases u <;> first
        | exact wpAny_pure hQ
        | (refine wpAny_bind (wpAny_load ho ?_)
           rw [hc, hd]
           show wpAny M A (if (["enumerate", "zip", "dict_itemiterator", "dict_reverseitemiterator", "odict_iterator", "itertools.zip_longest", "itertools.pairwise"].contains n && vs[0]? == some (rawInt _)) = true then _ else _) Q E s
           rw [if_neg (by intro h; rw [hn, Bool.false_and] at h; cases h)]
           exact wpAny_pure hQ))
def Itl (K : PySem.W.Frag) (a : Addr) : It :=
  ⟨fun i H => ∃ xs x, SqL K H a xs ∧ xs[i]? = some x, fun i H x H' => H' = H ∧ ∀ xs, SqL K H a xs → xs[i]? = some x, fun i H => ∃ xs, SqL K H a xs ∧ xs.length ≤ i⟩
def Itr (lo : Int) (n : Nat) : It := ⟨fun i _ => i < n, fun i H x H' => H' = H ∧ x = .int (lo + i), fun i _ => n ≤ i⟩
theorem turn_list {P : Program} {w : World} {K : PySem.W.Frag} {tg : Expr} (a it : Addr) : Turn P w K tg (Itl K a) [it] it (fun i h => h.IsListIter it a i) where
  mem := by simp
  obj := fun i h st b hb => by
    have e : b = it := by simpa using hb
    subst e
    obtain ⟨o, e, c, d⟩ := st
    exact ⟨o, e, fun v z => by rw [d] at z; cases z⟩
  keep := fun i h h' st k => st.at fun o e => k it (by simp) o e
  item := by
    intro X hP hw hK hc i pins s σ H E I hf st hg
    subst hP hw hK
    obtain ⟨xs, x, hq, hx⟩ := hg
    obtain ⟨its, rv, p, hz⟩ := I.list hq
    obtain ⟨u, hu, ru⟩ := rv.get hx
    obtain ⟨f0, f1, f2, f3, f4, f5⟩ := hf it (by simp)
    refine wpAny_pyNext_list_item st p.isList (x := u) (by simpa using hu) fun h' st' sb => ?_
    have I1 : Inv X pins σ H { s with heap := h' } := I.turned (t' := s.toks) (fun b o hb e => (sb.2 b hb).trans e) f0 f1 f3 f4 f5
    obtain ⟨o, e, c, d⟩ := id st'
    exact ⟨u, rfl, go_of (s := { s with heap := h' }) e c d (by decide) ⟨x, H, I1, ru, ⟨rfl, fun ys hy => by rw [I.list_inj hy hq]; exact hx⟩, st', fun b hb => (hf b hb).1⟩⟩
  done := by
    intro X hP hw hK hc i pins s σ H E I hf st hg
    subst hP hw hK
    obtain ⟨xs, hq, hx⟩ := hg
    obtain ⟨its, rv, p, hz⟩ := I.list hq
    obtain ⟨f0, f1, f2, f3, f4, f5⟩ := hf it (by simp)
    have hl := rv.length
    exact wpAny_pyNext_list_end (I.ok.hd hc) st p.isList (by simp; omega) fun h' eb => ⟨rfl, I.turned (t' := s.toks) (fun b o hb e => eb b o hb e) f0 f1 f3 f4 f5⟩
  self := fun _ _ _ _ _ st h => wpAny_pyIter_listiter st h
theorem turn_range {P : Program} {w : World} {K : PySem.W.Frag} {tg : Expr} (it : Addr) (lo : Int) (n : Nat) : Turn P w K tg (Itr lo n) [it] it (fun i h => IsRangeIter h it (lo + (i : Nat) * 1) ((n : Int) - (i : Nat)) 1) where
  mem := by simp
  obj := fun i h st b hb => by
    have e : b = it := by simpa using hb
    subst e
    exact ⟨_, st, fun v z => by
      have z' : Data.fields _ = Data.cell v := z
      cases z'⟩
  keep := fun i h h' st k => k it (by simp) _ st
  item := by
    intro X hP hw hK hc i pins s σ H E I hf st hg
    subst hP hw hK
    obtain ⟨f0, f1, f2, f3, f4, f5⟩ := hf it (by simp)
    have W := Walks.range (prog := X.prog) (w := X.w) (I.ok.hd hc) it lo 1 n
    refine W.item i s _ _ hg st fun v h' tk hv st' kk => ?_
    obtain ⟨t, rfl⟩ := hv
    have I1 : Inv X pins σ H { s with heap := h', toks := tk } := I.turned (fun b o hb e => kk b o (by simpa using hb) e) f0 f1 f3 f4 f5
    refine ⟨_, rfl, go_of (s := { s with heap := h', toks := tk }) (n := "range_iterator") st' rfl rfl (by decide) ⟨.int (lo + i), H, I1, ⟨t, ?_⟩, ⟨rfl, rfl⟩, st', fun b hb => (hf b hb).1⟩⟩
    rw [Int.mul_one]
  done := by
    intro X hP hw hK hc i pins s σ H E I hf st hg
    subst hP hw hK
    obtain ⟨f0, f1, f2, f3, f4, f5⟩ := hf it (by simp)
    exact wpAny_pyNext_range_end (I.ok.hd hc) st (by have : n ≤ i := hg; omega) fun h' eb => ⟨rfl, I.turned (t' := s.toks) (fun b o hb e => eb b o hb e) f0 f1 f3 f4 f5⟩
  self := fun _ _ _ _ _ st h => wpAny_pyIter_rangeiter st h
end L2
namespace L2
open PySem PySem.Spec PyProof.Rows
section
variable {X : Cx} {tg : Expr}
def iList (K : PySem.W.Frag) (tl : TE) : TI := fun σ H R => tl σ H fun x H1 => ∃ a, x = .ref a ∧ (∃ xs, SqL K H1 a xs) ∧ R (Itl K a) H1
theorem pi_list {l : Expr} {tl : TE} (hl : PE X l tl) : PI X tg l (iList X.K tl) := by
  intro pins s σ H R I h
  refine thn (hl pins s σ H _ I h) fun v s1 ⟨x, H1, I1, r1, q1⟩ => ?_
  obtain ⟨a, e, ⟨xs, hq⟩, q⟩ := q1
  subst e
  cases r1
  obtain ⟨its, rv, p, hz⟩ := I1.list hq
  refine wpAny_pyIter_list p.isList ?_
  refine ⟨s1.heap.objs.size, [s1.heap.objs.size], _, _, H1, rfl, I1.kept (t' := s1.toks) fun b o e => Heap.get?_push_of_some _ e, turn_list a _, ⟨_, Heap.get?_push_size _ rfl, rfl, rfl⟩, fun b hb => ?_, q⟩
  have e : b = s1.heap.objs.size := by simpa using hb
  subst e
  exact I1.fpOk (Nat.le_refl _) (I1.hok.fresh (Nat.le_refl _))
theorem range_it {pins : List (Addr × Obj)} {σ : St} {H : Hp} {s : Shared} {R : It → Hp → Prop} {E : Value → Shared → Prop} {lo hi : Int} {t u v : Tok} {tk : Nat} (I : Inv X pins σ H s) (h1 : -(2 ^ 62) ≤ lo) (h2 : lo < 2 ^ 62) (h3 : -(2 ^ 62) ≤ hi) (h4 : hi < 2 ^ 62)
    (q : R (Itr lo (hi - lo).toNat) H) : wpAny (model X.prog X.w) X.A (pyIter (.ref s.heap.objs.size)) (PIE X pins σ tg R) E { s with heap := s.heap.push { cls := .type "range", data := .fields #[.int lo t, .int hi u, .int 1 v] }, toks := tk } := by
  refine wpAny_pyIter_range (IsRange.new ..) (small_one h1 h2 h3 h4) ?_
  have I1 : Inv X pins σ H { s with heap := s.heap.push { cls := .type "range", data := .fields #[.int lo t, .int hi u, .int 1 v] }, toks := tk } := I.kept fun b o e => Heap.get?_push_of_some _ e
  refine ⟨(s.heap.push { cls := .type "range", data := .fields #[.int lo t, .int hi u, .int 1 v] }).objs.size, [(s.heap.push { cls := .type "range", data := .fields #[.int lo t, .int hi u, .int 1 v] }).objs.size], _, _, H, rfl,
    I1.kept (t' := tk) fun b o e => Heap.get?_push_of_some _ e, turn_range _ lo (hi - lo).toNat, ?_, fun b hb => ?_, q⟩
  · have e1 : lo + ((0 : Nat) : Int) * 1 = lo := by simp
    have e2 : (((hi - lo).toNat : Nat) : Int) - ((0 : Nat) : Int) = Builtin.Range.rangeSize lo hi 1 := by rw [rangeSize_one]; split <;> omega
    show IsRangeIter _ _ (lo + ((0 : Nat) : Int) * 1) ((((hi - lo).toNat : Nat) : Int) - ((0 : Nat) : Int)) 1
    rw [e1, e2]
    exact Heap.get?_push_size _ rfl
  · have e : b = (s.heap.push { cls := .type "range", data := .fields #[.int lo t, .int hi u, .int 1 v] }).objs.size := by simpa using hb
    subst e
    exact I1.fpOk (Nat.le_refl _) (I1.hok.fresh (Nat.le_refl _))
def iRng1 (ta : TA) : TI := fun σ H R => ta σ H fun vs H1 => ∃ j : Int, vs = [.int j] ∧ -(2 ^ 62) ≤ j ∧ j < 2 ^ 62 ∧ R (Itr 0 j.toNat) H1
theorem pi_range1 {a : Expr} {ta : TA} {p pos : Pos} (hg : Gl X "range") (hm : X.mg "range" = none) (ha : PA X [a] ta) (hs : starEach [a] X.env = [(false, eval a X.env)] := by rfl) : PI X tg (.Call (.Name "range" p) [a] [] pos) (iRng1 ta) := by
  intro pins s σ H R I h
  refine Call_ (ld_blt I hg hm boot_range (PyProof.Rows.callWith_type1 (thn (ha pos pins s σ H _ I h) fun us s1 ⟨vs, H1, I1, r1, q1⟩ => ?_) hs rfl))
  obtain ⟨j, e, q1, q2, q⟩ := q1
  subst e
  cases r1 with
  | cons r rr =>
    cases rr
    obtain ⟨t, rfl⟩ := r
    exact call_range_1 (range_it I1 (by omega) (by omega) q1 q2 (by simpa using q))
def tFor (wi : TI) (g : TG) (tb : TS) : TS := fun D σ H => wi σ H fun J H1 => ∃ W : Nat → Nat → St → Hp → Prop, (∃ m, W 0 m σ H1) ∧ ∀ i m σ H, W i m σ H →
  (J.stop i H ∧ D.nx σ H) ∨ (J.go i H ∧ ∃ N : St → Hp → Prop, (∀ σ' H', N σ' H' → ∃ m', m' < m ∧ W (i + 1) m' σ' H') ∧ ∀ x H', J.yld i H x H' → g x σ H' fun σ2 H2 => tb { D with nx := N, ct := N, bk := D.nx } σ2 H2)
def pinsAt (fp : List Addr) (h : Heap) : List (Addr × Obj) := fp.filterMap fun b => (h.get? b).map fun o => (b, o)
theorem mem_pinsAt {fp : List Addr} {h : Heap} {b : Addr} {o : Obj} (hb : b ∈ fp) (e : h.get? b = some o) : (b, o) ∈ pinsAt fp h := List.mem_filterMap.mpr ⟨b, hb, by rw [e]; rfl⟩
theorem of_pinsAt {fp : List Addr} {h : Heap} {p : Addr × Obj} (hp : p ∈ pinsAt fp h) : p.1 ∈ fp ∧ h.get? p.1 = some p.2 := by
  obtain ⟨b, hb, e⟩ := List.mem_filterMap.mp hp
  cases q : h.get? b with
  | none => rw [q] at e; cases e
  | some o =>
    rw [q] at e
    have e' : (b, o) = p := Option.some.inj e
    subst e'
    exact ⟨hb, q⟩
theorem Inv.pinned {pins : List (Addr × Obj)} {σ : St} {H : Hp} {s : Shared} {fp : List Addr} (I : Inv X pins σ H s) (hf : ∀ b ∈ fp, FpOk X pins H b) (ho : ∀ b ∈ fp, ∃ o, s.heap.get? b = some o ∧ ∀ v, o.data ≠ .cell v) : Inv X (pins ++ pinsAt fp s.heap) σ H s :=
  I.pins_of fun p hp => (List.mem_append.mp hp).elim (fun z => I.pin p (List.mem_append_right _ z)) fun z => by
    obtain ⟨hb, e⟩ := of_pinsAt z
    obtain ⟨f0, f1, f2, _⟩ := hf p.1 hb
    obtain ⟨o, e', d⟩ := ho p.1 hb
    rw [e] at e'; cases e'
    exact ⟨e, f0, f1, f2, d⟩
theorem Inv.unpinned {pins pl : List (Addr × Obj)} {σ : St} {H : Hp} {s : Shared} (I : Inv X (pins ++ pl) σ H s) : Inv X pins σ H s := I.pins_of fun p hp => I.pin p (List.mem_append_right _ (List.mem_append_left _ hp))
theorem ps_for {iter : Expr} {body : List Stmt} {wi : TI} {g : TG} {tb : TS} {pos : Pos} (hp : PassesOwn (model X.prog X.w) X.A X.env X.xe) (hc : X.calm = true) (hi : PI X tg iter wi) (hg : PG X tg g) (hb : PSs X body tb)
    (hs : ∀ x, foldedSetIterable iter X.env x = pure x := by intro _; rfl) : PS X (.For tg iter body [] pos) (tFor wi g tb) := by
  intro pins s σ H D I h
  refine wpAny_For (thn (hi pins s σ H _ I h) fun v s1 h1 => thn h1 fun itv s2 h2 => ?_) hs
  obtain ⟨it, fp, tn, J, H2, e, I2, T, st2, f2, W, ⟨m0, w0⟩, turn⟩ := h2
  subst e
  have stat : ∀ {H' : Hp}, (∀ b ∈ fp, H' b = none) → ∀ b ∈ fp, FpOk X pins H' b := fun hn b hb => ⟨hn b hb, (f2 b hb).2⟩
  refine codeAny_forLoop_any (fun n s' => ∃ i σ' H', Inv X pins σ' H' s' ∧ tn i s'.heap ∧ (∀ b ∈ fp, H' b = none) ∧ W i n σ' H') ?_ m0 ⟨0, σ, H2, I2, st2, fun b hb => (f2 b hb).1, w0⟩
  rintro n s3 ⟨i, σ3, H3, I3, st3, fr3, w3⟩
  rcases turn i n σ3 H3 w3 with ⟨stop, qn⟩ | ⟨go, N, hN, step⟩
  · refine wpAny_passesOwn hp (thn (T.done X rfl rfl rfl hc i pins s3 σ3 H3 X.xe I3 (stat fr3) st3 stop) fun r s4 ⟨hr, I4⟩ => ?_)
    subst hr
    exact wpAny_execs_nil ⟨σ3, H3, I4, qn⟩
  · refine wpAny_passesOwn hp (thn (T.item X rfl rfl rfl hc i pins s3 σ3 H3 X.xe I3 (stat fr3) st3 go) fun r s4 ⟨u, hr, h4⟩ => ?_)
    subst hr
    refine wpAny_passesOwn hp (thn h4 fun _ s5 ⟨x, H5, I5, r5, y5, st5, fr5⟩ => ?_)
    have I5' := I5.pinned (stat fr5) (T.obj _ _ st5)
    refine wpAny_passesOwn hp (thn (hg _ s5 σ3 H5 x u _ I5' r5 (step x H5 y5)) fun _ s6 ⟨σ6, H6, I6, q6⟩ => ?_)
    refine wpAny_passesOwn hp (thn (hb _ s6 σ6 H6 _ I6 q6) fun f s7 q7 => ?_)
    have again : ∀ {σ7 : St} {H7 : Hp}, Inv X (pins ++ pinsAt fp s5.heap) σ7 H7 s7 → N σ7 H7 → ∃ m, m < n ∧ ∃ i σ' H', Inv X pins σ' H' s7 ∧ tn i s7.heap ∧ (∀ b ∈ fp, H' b = none) ∧ W i m σ' H' := fun {σ7 H7} I7 n7 => by
      obtain ⟨m', hm, w7⟩ := hN σ7 H7 n7
      refine ⟨m', hm, i + 1, σ7, H7, I7.unpinned, T.keep _ _ _ st5 fun b hb o e => (I7.pin (b, o) (List.mem_append_right _ (List.mem_append_right _ (mem_pinsAt hb e)))).1, fun b hb => ?_, w7⟩
      obtain ⟨o, e, d⟩ := T.obj _ _ st5 b hb
      exact (I7.pin (b, o) (List.mem_append_right _ (List.mem_append_right _ (mem_pinsAt hb e)))).2.1
    cases f with
    | next => obtain ⟨σ7, H7, I7, n7⟩ := q7; exact again I7 n7
    | cont => obtain ⟨σ7, H7, I7, n7⟩ := q7; exact again I7 n7
    | brk => obtain ⟨σ7, H7, I7, q7⟩ := q7; exact ⟨σ7, H7, I7.unpinned, q7⟩
    | ret v => obtain ⟨x7, σ7, H7, I7, r7, q7⟩ := q7; exact ⟨x7, σ7, H7, I7.unpinned, r7, q7⟩
end
theorem for_list {K : PySem.W.Frag} {a : Addr} {xs : List V} {g : TG} {tb : TS} {D : Ends} {σ : St} {H : Hp} (Pv : Nat → St → Hp → Prop) (h0 : Pv 0 σ H) (hl : ∀ i σ H, i ≤ xs.length → Pv i σ H → SqL K H a xs)
    (hs : ∀ i x σ H, xs[i]? = some x → Pv i σ H → g x σ H fun σ2 H2 => tb { D with nx := Pv (i + 1), ct := Pv (i + 1), bk := D.nx } σ2 H2) (hd : ∀ σ H, Pv xs.length σ H → D.nx σ H) :
    ∃ W : Nat → Nat → St → Hp → Prop, (∃ m, W 0 m σ H) ∧ ∀ i m σ H, W i m σ H →
      ((Itl K a).stop i H ∧ D.nx σ H) ∨ ((Itl K a).go i H ∧ ∃ N : St → Hp → Prop, (∀ σ' H', N σ' H' → ∃ m', m' < m ∧ W (i + 1) m' σ' H') ∧ ∀ x H', (Itl K a).yld i H x H' → g x σ H' fun σ2 H2 => tb { D with nx := N, ct := N, bk := D.nx } σ2 H2) := by
  refine ⟨fun i m σ H => m = xs.length - i ∧ i ≤ xs.length ∧ Pv i σ H, ⟨xs.length, by simp, Nat.zero_le _, h0⟩, ?_⟩
  rintro i m σ H ⟨rfl, hi, p⟩
  have q := hl i σ H hi p
  by_cases hlt : i < xs.length
  · refine .inr ⟨⟨xs, xs[i], q, by simp [hlt]⟩, Pv (i + 1), fun σ' H' p' => ⟨xs.length - (i + 1), by omega, rfl, hlt, p'⟩, fun x H' y => ?_⟩
    obtain ⟨e, y⟩ := y
    subst e
    exact hs i x σ _ (y xs q) p
  · have e : i = xs.length := by omega
    subst e
    exact .inl ⟨⟨xs, q, Nat.le_refl _⟩, hd σ H p⟩
theorem for_range {lo : Int} {n : Nat} {g : TG} {tb : TS} {D : Ends} {σ : St} {H : Hp} (Pv : Nat → St → Hp → Prop) (h0 : Pv 0 σ H)
    (hs : ∀ i σ H, i < n → Pv i σ H → g (.int (lo + i)) σ H fun σ2 H2 => tb { D with nx := Pv (i + 1), ct := Pv (i + 1), bk := D.nx } σ2 H2) (hd : ∀ σ H, Pv n σ H → D.nx σ H) :
    ∃ W : Nat → Nat → St → Hp → Prop, (∃ m, W 0 m σ H) ∧ ∀ i m σ H, W i m σ H →
      ((Itr lo n).stop i H ∧ D.nx σ H) ∨ ((Itr lo n).go i H ∧ ∃ N : St → Hp → Prop, (∀ σ' H', N σ' H' → ∃ m', m' < m ∧ W (i + 1) m' σ' H') ∧ ∀ x H', (Itr lo n).yld i H x H' → g x σ H' fun σ2 H2 => tb { D with nx := N, ct := N, bk := D.nx } σ2 H2) := by
  refine ⟨fun i m σ H => m = n - i ∧ i ≤ n ∧ Pv i σ H, ⟨n, by simp, Nat.zero_le _, h0⟩, ?_⟩
  rintro i m σ H ⟨rfl, hi, p⟩
  by_cases hlt : i < n
  · refine .inr ⟨hlt, Pv (i + 1), fun σ' H' p' => ⟨n - (i + 1), by omega, rfl, hlt, p'⟩, fun x H' y => ?_⟩
    obtain ⟨e, y⟩ := y
    subst e y
    exact hs i σ _ hlt p
  · have e : i = n := by omega
    subst e
    exact .inl ⟨Nat.le_refl _, hd σ H p⟩
theorem while_by {c : TT} {tb : TS} {D : Ends} {σ : St} {H : Hp} (Pv : St → Hp → Prop) (μ : St → Hp → Nat) (h0 : Pv σ H)
    (hs : ∀ σ H, Pv σ H → c σ H fun b H1 => if b = true then tb { D with nx := fun σ' H' => Pv σ' H' ∧ μ σ' H' < μ σ H, ct := fun σ' H' => Pv σ' H' ∧ μ σ' H' < μ σ H, bk := D.nx } σ H1 else D.nx σ H1)
    (mono : ∀ σ H Q Q', (∀ b H1, Q b H1 → Q' b H1) → c σ H Q → c σ H Q') : tWhile c tb D σ H := by
  refine ⟨fun m σ H => m = μ σ H ∧ Pv σ H, ⟨_, rfl, h0⟩, ?_⟩
  rintro m σ H ⟨rfl, p⟩
  refine mono σ H _ _ (fun b H1 q => ?_) (hs σ H p)
  cases b with
  | true => exact ⟨_, fun σ' H' ⟨p', l⟩ => ⟨_, l, rfl, p'⟩, q⟩
  | false => exact q
end L2
namespace L2
open PySem PySem.Spec PyProof.Rows
abbrev R2 := V → V → Hp → VK → Prop
def OpR (X : Cx) (f : Value → Value → Sem Value) (r : R2) : Prop :=
  ∀ (pins : List (Addr × Obj)) (s : Shared) (σ : St) (H : Hp) (x y : V) (v u : Value) (Q : VK), Inv X pins σ H s → RelV x v → RelV y u → r x y H Q →
    wpAny (model X.prog X.w) X.A (f v u) (EP X pins σ Q) X.xe s
def UnR (X : Cx) (f : Value → Sem Value) (r : V → Hp → VK → Prop) : Prop :=
  ∀ (pins : List (Addr × Obj)) (s : Shared) (σ : St) (H : Hp) (x : V) (v : Value) (Q : VK), Inv X pins σ H s → RelV x v → r x H Q →
    wpAny (model X.prog X.w) X.A (f v) (EP X pins σ Q) X.xe s
def CallR (X : Cx) (f : Value) (r : List V → Hp → VK → Prop) : Prop :=
  ∀ (pins : List (Addr × Obj)) (s : Shared) (σ : St) (H : Hp) (xs : List V) (us : List Value) (Q : VK), Inv X pins σ H s → Vals xs us → r xs H Q →
    wpAny (model X.prog X.w) X.A (call f us) (EP X pins σ Q) X.xe s
def tOp (r : R2) (ta tb : TE) : TE := fun σ H Q => ta σ H fun x H1 => tb σ H1 fun y H2 => r x y H2 Q
def tUn (r : V → Hp → VK → Prop) (ta : TE) : TE := fun σ H Q => ta σ H fun x H1 => r x H1 Q
def rI (C : Int → Int → Prop) (g : Int → Int → V) : R2 := fun x y H Q => ∃ i j, x = .int i ∧ y = .int j ∧ C i j ∧ Q (g i j) H
def rI0 (g : Int → Int → V) : R2 := fun x y H Q => ∃ i j, x = .int i ∧ y = .int j ∧ Q (g i j) H
def rU (g : Int → V) : V → Hp → VK → Prop := fun x H Q => ∃ i, x = .int i ∧ Q (g i) H
section
variable {X : Cx} {a b c : Expr} {ta tb tc : TE} {pos : Pos}
theorem binT (ha : PE X a ta) (hb : PE X b tb) {pins : List (Addr × Obj)} {s : Shared} {σ : St} {H : Hp} {R : V → V → Hp → Prop} (I : Inv X pins σ H s)
    (h : ta σ H fun x H1 => tb σ H1 fun y H2 => R x y H2) {Q : Value → Shared → Prop} {f : Value → Value → Sem Value}
    (hf : ∀ v u s2 x y H2, Inv X pins σ H2 s2 → RelV x v → RelV y u → R x y H2 → wpAny (model X.prog X.w) X.A (f v u) Q X.xe s2) :
    wpAny (model X.prog X.w) X.A (eval a X.env) (fun v s₁ => wpAny (model X.prog X.w) X.A (eval b X.env) (fun u s₂ => wpAny (model X.prog X.w) X.A (f v u) Q X.xe s₂) X.xe s₁) X.xe s := by
  refine thn (ha pins s σ H _ I h) fun v s1 ⟨x, H1, I1, r1, q1⟩ => ?_
  refine thn (hb pins s1 σ H1 _ I1 q1) fun u s2 ⟨y, H2, I2, r2, q2⟩ => ?_
  exact hf v u s2 x y H2 I2 r1 r2 q2
theorem pe_op {op : Operator} {r : R2} (ho : OpR X (binaryOp op) r) (ha : PE X a ta) (hb : PE X b tb) : PE X (.BinOp a op b pos) (tOp r ta tb) := by
  intro pins s σ H Q I h
  exact wpAny_BinOp (binT ha hb I h fun v u s2 x y H2 I2 rx ry q => ho pins s2 σ H2 x y v u Q I2 rx ry q)
theorem pe_un {op : UnaryOp} {r : V → Hp → VK → Prop} (ho : UnR X (unaryOp op) r) (ha : PE X a ta) : PE X (.UnaryOp op a pos) (tUn r ta) := by
  intro pins s σ H Q I h
  exact UnaryOp_ (thn (ha pins s σ H _ I h) fun v s1 ⟨x, H1, I1, r1, q1⟩ => ho pins s1 σ H1 x v Q I1 r1 q1)
theorem opI {f : Value → Value → Sem Value} {C : Int → Int → Prop} {g : Int → Int → Int}
    (rule : ∀ (i j : Int) (t u : Tok) (s : Shared) (Q : Value → Shared → Prop) (E : Value → Shared → Prop), C i j → Q (.int (g i j) s.toks) { s with toks := s.toks + 1 } → wpAny (model X.prog X.w) X.A (f (.int i t) (.int j u)) Q E s) :
    OpR X f (rI C fun i j => .int (g i j)) := by
  intro pins s σ H x y v u Q I rx ry h
  obtain ⟨i, j, rfl, rfl, hc, q⟩ := h
  obtain ⟨t, rfl⟩ := rx
  obtain ⟨t', rfl⟩ := ry
  exact rule i j t t' s _ _ hc ⟨.int (g i j), H, I.tok _, ⟨_, rfl⟩, q⟩
theorem opI0 {f : Value → Value → Sem Value} {g : Int → Int → Int}
    (rule : ∀ (i j : Int) (t u : Tok) (s : Shared) (Q : Value → Shared → Prop) (E : Value → Shared → Prop), Q (.int (g i j) s.toks) { s with toks := s.toks + 1 } → wpAny (model X.prog X.w) X.A (f (.int i t) (.int j u)) Q E s) :
    OpR X f (rI0 fun i j => .int (g i j)) := by
  intro pins s σ H x y v u Q I rx ry h
  obtain ⟨i, j, rfl, rfl, q⟩ := h
  obtain ⟨t, rfl⟩ := rx
  obtain ⟨t', rfl⟩ := ry
  exact rule i j t t' s _ _ ⟨.int (g i j), H, I.tok _, ⟨_, rfl⟩, q⟩
theorem opB0 {f : Value → Value → Sem Value} {g : Int → Int → Bool}
    (rule : ∀ (i j : Int) (t u : Tok) (s : Shared) (Q : Value → Shared → Prop) (E : Value → Shared → Prop), Q (.bool (g i j)) s → wpAny (model X.prog X.w) X.A (f (.int i t) (.int j u)) Q E s) :
    OpR X f (rI0 fun i j => .bl (g i j)) := by
  intro pins s σ H x y v u Q I rx ry h
  obtain ⟨i, j, rfl, rfl, q⟩ := h
  obtain ⟨t, rfl⟩ := rx
  obtain ⟨t', rfl⟩ := ry
  exact rule i j t t' s _ _ ⟨.bl (g i j), H, I, rfl, q⟩
def CDiv (i j : Int) : Prop := 0 < j ∧ j < 1073741824
def CMul (i j : Int) : Prop := (-(2 ^ 64) < i ∧ i < 2 ^ 64) ∨ (-(2 ^ 64) < j ∧ j < 2 ^ 64)
theorem CMul.ok {i j : Int} (h : CMul i j) : IntMulOk i j := by
  rcases h with ⟨h1, h2⟩ | ⟨h1, h2⟩
  · exact .of_left (intBits_le_64 h1 h2)
  · exact .of_right (intBits_le_64 h1 h2)
theorem op_add : OpR X (binaryOp .Add) (rI0 fun i j => .int (i + j)) := opI0 fun _ _ _ _ _ _ _ q => add_int q
theorem op_sub : OpR X (binaryOp .Sub) (rI0 fun i j => .int (i - j)) := opI0 fun _ _ _ _ _ _ _ q => sub_int q
theorem op_mul : OpR X (binaryOp .Mult) (rI CMul fun i j => .int (i * j)) := opI fun _ _ _ _ _ _ _ hc q => mul_int q hc.ok
theorem op_fdiv : OpR X (binaryOp .FloorDiv) (rI CDiv fun i j => .int (i / j)) := opI fun i j _ _ _ _ _ hc q => by
  have h1 : (0 : Int) < j := hc.1
  have h2 : j < 1073741824 := hc.2
  exact floordiv_int (by omega) (by rw [Int.fdiv_eq_ediv_of_nonneg i (by omega)]; exact q) (.inl (PyProof.noPylong_small (by omega)))
theorem op_mod : OpR X (binaryOp .Mod) (rI (fun _ j => 0 < j) fun i j => .int (i % j)) := opI fun i j _ _ _ _ _ hc q => by
  have h1 : (0 : Int) < j := hc
  exact mod_int' (by omega) (by rw [Int.fmod_eq_emod_of_nonneg i (by omega)]; exact q)
theorem unI {f : Value → Sem Value} {g : Int → Int}
    (rule : ∀ (i : Int) (t : Tok) (s : Shared) (Q : Value → Shared → Prop) (E : Value → Shared → Prop), Q (.int (g i) s.toks) { s with toks := s.toks + 1 } → wpAny (model X.prog X.w) X.A (f (.int i t)) Q E s) :
    UnR X f (rU fun i => .int (g i)) := by
  intro pins s σ H x v Q I rx h
  obtain ⟨i, rfl, q⟩ := h
  obtain ⟨t, rfl⟩ := rx
  exact rule i t s _ _ ⟨.int (g i), H, I.tok _, ⟨_, rfl⟩, q⟩
theorem un_neg : UnR X (unaryOp .USub) (rU fun i => .int (-i)) := unI fun _ _ _ _ _ q => neg_int q
end
def scal : V → V → Bool
  | .non, .non => true | .non, .int _ => true | .int _, .non => true | .non, .bl _ => true | .bl _, .non => true | .non, .str _ => true | .str _, .non => true
  | .int _, .int _ => true | .bl _, .bl _ => true | .str _, .str _ => true | .byt _, .byt _ => true
  | .int _, .str _ => true | .str _, .int _ => true | .bl _, .str _ => true | .str _, .bl _ => true
  | _, _ => false
def rEq : R2 := fun x y H Q => scal x y = true ∧ Q (.bl (decide (x = y))) H
def rNe : R2 := fun x y H Q => scal x y = true ∧ Q (.bl (!decide (x = y))) H
theorem dec_int {i j : Int} : decide (V.int i = V.int j) = (i == j) := by
  rw [Bool.eq_iff_iff]
  simp
theorem dec_bl {i j : Bool} : decide (V.bl i = V.bl j) = (i == j) := by
  rw [Bool.eq_iff_iff]
  simp
theorem dec_str {i j : Str} : decide (V.str i = V.str j) = (i == j) := by
  rw [Bool.eq_iff_iff]
  simp
theorem dec_byt {i j : Array UInt8} : decide (V.byt i = V.byt j) = (i.toList == j.toList) := by
  rw [Bool.eq_iff_iff]
  cases i
  cases j
  simp
section
variable {X : Cx} {a b c : Expr} {ta tb tc : TE} {pos : Pos}
theorem fin_bl {pins : List (Addr × Obj)} {σ : St} {H : Hp} {s : Shared} {Q : VK} {k k' : Bool} (I : Inv X pins σ H s) (q : Q (.bl k) H) (e : k = k') : EP X pins σ Q (.bool k') s := by
  subst e
  exact ⟨.bl k, H, I, rfl, q⟩
theorem op_eq : OpR X (compareOp .Eq) rEq := by
  intro pins s σ H x y v u Q I rx ry h
  obtain ⟨hs, q⟩ := h
  cases x with
  | non =>
    cases rx
    cases y with
    | non => cases ry; exact PySem.EqNone.eq_none_none (fin_bl I q (by simp))
    | bl j => cases ry; exact PySem.EqNone.eq_none_bool (fin_bl I q (by simp))
    | int j => obtain ⟨t', rfl⟩ := ry; exact PySem.EqNone.eq_none_int (fin_bl I q (by simp))
    | str j => obtain ⟨t', rfl⟩ := ry; exact PySem.EqNone.eq_none_str (fin_bl I q (by simp))
    | _ => exact absurd (show false = true from hs) Bool.false_ne_true
  | bl i =>
    cases rx
    cases y with
    | non => cases ry; exact PySem.EqNone.eq_bool_none (fin_bl I q (by simp))
    | bl j => cases ry; exact eq_bool (fin_bl I q dec_bl)
    | str j => obtain ⟨t', rfl⟩ := ry; exact PySem.EqMixed.eq_bool_str (fin_bl I q (by simp))
    | _ => exact absurd (show false = true from hs) Bool.false_ne_true
  | int i =>
    obtain ⟨t, rfl⟩ := rx
    cases y with
    | non => cases ry; exact PySem.EqNone.eq_int_none (fin_bl I q (by simp))
    | int j => obtain ⟨t', rfl⟩ := ry; exact eq_int (fin_bl I q dec_int)
    | str j => obtain ⟨t', rfl⟩ := ry; exact PySem.EqMixed.eq_int_str (fin_bl I q (by simp))
    | _ => exact absurd (show false = true from hs) Bool.false_ne_true
  | str i =>
    obtain ⟨t, rfl⟩ := rx
    cases y with
    | non => cases ry; exact PySem.EqNone.eq_str_none (fin_bl I q (by simp))
    | bl j => cases ry; exact PySem.EqMixed.eq_str_bool (fin_bl I q (by simp))
    | int j => obtain ⟨t', rfl⟩ := ry; exact PySem.EqMixed.eq_str_int (fin_bl I q (by simp))
    | str j => obtain ⟨t', rfl⟩ := ry; exact eq_str (fin_bl I q dec_str)
    | _ => exact absurd (show false = true from hs) Bool.false_ne_true
  | byt i =>
    obtain ⟨t, rfl⟩ := rx
    cases y with
    | byt j => obtain ⟨t', rfl⟩ := ry; exact PySem.W.eq_bytes (fin_bl I q dec_byt)
    | _ => exact absurd (show false = true from hs) Bool.false_ne_true
  | _ => cases y <;> exact absurd (show false = true from hs) Bool.false_ne_true
theorem op_ne : OpR X (compareOp .NotEq) rNe := by
  intro pins s σ H x y v u Q I rx ry h
  obtain ⟨hs, q⟩ := h
  cases x with
  | non =>
    cases rx
    cases y with
    | non => cases ry; exact PySem.EqNone.ne_none_none (fin_bl I q (by simp))
    | bl j => cases ry; exact PySem.EqNone.ne_none_bool (fin_bl I q (by simp))
    | int j => obtain ⟨t', rfl⟩ := ry; exact PySem.EqNone.ne_none_int (fin_bl I q (by simp))
    | str j => obtain ⟨t', rfl⟩ := ry; exact PySem.EqNone.ne_none_str (fin_bl I q (by simp))
    | _ => exact absurd (show false = true from hs) Bool.false_ne_true
  | bl i =>
    cases rx
    cases y with
    | non => cases ry; exact PySem.EqNone.ne_bool_none (fin_bl I q (by simp))
    | bl j => cases ry; exact ne_bool (fin_bl I q (congrArg not dec_bl))
    | str j => obtain ⟨t', rfl⟩ := ry; exact PySem.EqMixed.ne_bool_str (fin_bl I q (by simp))
    | _ => exact absurd (show false = true from hs) Bool.false_ne_true
  | int i =>
    obtain ⟨t, rfl⟩ := rx
    cases y with
    | non => cases ry; exact PySem.EqNone.ne_int_none (fin_bl I q (by simp))
    | int j => obtain ⟨t', rfl⟩ := ry; exact ne_int (fin_bl I q (congrArg not dec_int))
    | str j => obtain ⟨t', rfl⟩ := ry; exact PySem.EqMixed.ne_int_str (fin_bl I q (by simp))
    | _ => exact absurd (show false = true from hs) Bool.false_ne_true
  | str i =>
    obtain ⟨t, rfl⟩ := rx
    cases y with
    | non => cases ry; exact PySem.EqNone.ne_str_none (fin_bl I q (by simp))
    | bl j => cases ry; exact PySem.EqMixed.ne_str_bool (fin_bl I q (by simp))
    | int j => obtain ⟨t', rfl⟩ := ry; exact PySem.EqMixed.ne_str_int (fin_bl I q (by simp))
    | str j => obtain ⟨t', rfl⟩ := ry; exact ne_str (fin_bl I q (congrArg not dec_str))
    | _ => exact absurd (show false = true from hs) Bool.false_ne_true
  | byt i =>
    obtain ⟨t, rfl⟩ := rx
    cases y with
    | byt j => obtain ⟨t', rfl⟩ := ry; exact PySem.W.ne_bytes (fin_bl I q (congrArg not dec_byt))
    | _ => exact absurd (show false = true from hs) Bool.false_ne_true
  | _ => cases y <;> exact absurd (show false = true from hs) Bool.false_ne_true
theorem op_gt : OpR X (compareOp .Gt) (rI0 fun i j => .bl (decide (j < i))) := opB0 fun _ _ _ _ _ _ _ q => gt_int q
theorem op_isN : OpR X (compareOp .Is) (fun x y H Q => y = .non ∧ Q (.bl (decide (x = .non))) H) := by
  intro pins s σ H x y v u Q I rx ry h
  obtain ⟨rfl, q⟩ := h
  cases ry
  refine is_none_gen (fin_bl I q ?_)
  cases x <;> first
    | (cases rx; rfl)
    | (obtain ⟨t, rfl⟩ := rx; rfl)
theorem op_notN : OpR X (compareOp .IsNot) (fun x y H Q => y = .non ∧ Q (.bl (!decide (x = .non))) H) := by
  intro pins s σ H x y v u Q I rx ry h
  obtain ⟨rfl, q⟩ := h
  cases ry
  refine isnot_none_gen (fin_bl I q ?_)
  cases x <;> first
    | (cases rx; rfl)
    | (obtain ⟨t, rfl⟩ := rx; rfl)
theorem OpR.or {f : Value → Value → Sem Value} {r r' : R2} (h : OpR X f r) (h' : OpR X f r') : OpR X f (fun x y H Q => r x y H Q ∨ r' x y H Q) := by
  intro pins s σ H x y v u Q I rx ry q
  rcases q with q | q
  · exact h pins s σ H x y v u Q I rx ry q
  · exact h' pins s σ H x y v u Q I rx ry q
theorem nomark (b : Expr) {op : CmpOp} (h : op ≠ .In := by decide) (h2 : op ≠ .NotIn := by decide) : behindInMarks op b = false := by
  have e1 : (op == CmpOp.In) = false := by cases op <;> first | rfl | exact absurd rfl h
  have e2 : (op == CmpOp.NotIn) = false := by cases op <;> first | rfl | exact absurd rfl h2
  cases b <;> simp [behindInMarks, e1, e2]
theorem pe_cmpR {op : CmpOp} {r : R2} (ho : OpR X (compareOp op) r) (ha : PE X a ta) (hb : PE X b tb) (hm : behindInMarks op b = false) : PE X (.Compare a [op] [b] pos) (tOp r ta tb) := by
  intro pins s σ H Q I h
  exact wpAny_Compare1 (binT ha hb I h fun v u s2 x y H2 I2 rx ry q => ho pins s2 σ H2 x y v u Q I2 rx ry q) hm
def tTest (t : TE) : TT := fun σ H Q => t σ H fun x H' => ∃ k, x = .bl k ∧ Q k H'
theorem pt_cmpR {op : CmpOp} {r : R2} (ho : OpR X (compareOp op) r) (ha : PE X a ta) (hb : PE X b tb) (hm : behindInMarks op b = false) : PT X (.Compare a [op] [b] pos) (tTest (tOp r ta tb)) := by
  intro pins s σ H Q I h
  refine wpAny_isTrue_Compare1 (thn (ha pins s σ H _ I h) fun v s1 ⟨x, H1, I1, r1, q1⟩ => thn (hb pins s1 σ H1 _ I1 q1) fun u s2 ⟨y, H2, I2, r2, q2⟩ =>
    thn (ho pins s2 σ H2 x y v u _ I2 r1 r2 q2) fun c s3 ⟨z, H3, I3, r3, k, e, q3⟩ => ?_) hm
  subst e
  cases r3
  exact wpAny_truthy_bool ⟨H3, I3, q3⟩
theorem line63 : (sizeLine : Nat) < 2 ^ 63 := by rw [sizeLine_eq]; decide
theorem vals1 {x : V} {us : List Value} (r : Vals [x] us) : ∃ u, us = [u] ∧ RelV x u := by
  cases r with
  | cons r1 r2 => cases r2; exact ⟨_, rfl, r1⟩
theorem vals2 {x y : V} {us : List Value} (r : Vals [x, y] us) : ∃ u w', us = [u, w'] ∧ RelV x u ∧ RelV y w' := by
  cases r with
  | cons r1 r2 =>
    cases r2 with
    | cons r3 r4 => cases r4; exact ⟨_, _, rfl, r1, r3⟩
theorem call_max2 (hc : X.calm = true) : CallR X (.builtin "max") (fun xs H Q => ∃ i j, xs = [.int i, .int j] ∧ Q (.int (if j > i then j else i)) H) := by
  intro pins s σ H xs us Q I r h
  obtain ⟨i, j, rfl, q⟩ := h
  obtain ⟨u, w', rfl, ⟨t, rfl⟩, ⟨t', rfl⟩⟩ := vals2 r
  refine max_two_ints (I.ok.hd hc) fun h' tk k => ⟨_, H, I.kept k, ?_, q⟩
  by_cases hj : j > i
  · rw [if_pos hj, if_pos hj]; exact ⟨_, rfl⟩
  · rw [if_neg hj, if_neg hj]; exact ⟨_, rfl⟩
theorem call_min2 (hc : X.calm = true) : CallR X (.builtin "min") (fun xs H Q => ∃ i j, xs = [.int i, .int j] ∧ Q (.int (if j < i then j else i)) H) := by
  intro pins s σ H xs us Q I r h
  obtain ⟨i, j, rfl, q⟩ := h
  obtain ⟨u, w', rfl, ⟨t, rfl⟩, ⟨t', rfl⟩⟩ := vals2 r
  refine min_two_ints (I.ok.hd hc) fun h' tk k => ⟨_, H, I.kept k, ?_, q⟩
  by_cases hj : j < i
  · rw [if_pos hj, if_pos hj]; exact ⟨_, rfl⟩
  · rw [if_neg hj, if_neg hj]; exact ⟨_, rfl⟩
end
end L2
namespace L2
open PySem PySem.Spec PyProof.Rows
structure ObjM (h : Heap) (x dx C : Addr) (mA : Str → Option Value) : Prop where
  obj : h.get? x = some (PySem.W.instObj C dx)
  ns : h.Ns1 dx mA
  ne : dx ≠ x
theorem lookIn_ns {h : Heap} {dx : Addr} {mA : Str → Option Value} (n : h.Ns1 dx mA) : ∃ od, h.get? dx = some od ∧ ∀ name, PySem.W.lookIn name od = some (mA name) := by
  obtain ⟨o, es, ep, ho, hd, hk, _, hm⟩ := n
  refine ⟨o, ho, fun name => ?_⟩
  have e := hm name
  unfold nsFind findBy at e
  rw [← Array.find?_toList] at e
  unfold PySem.W.lookIn
  rw [hd]
  dsimp only
  split
  · rename_i y q
    rw [q] at e
    exact congrArg some e
  · rename_i q
    rw [q] at e
    have a : es.toList.any (·.refKey) = false := by
      rw [List.any_eq_false]
      intro y hy
      obtain ⟨z, t, hkey⟩ := hk y (Array.mem_toList_iff.mp hy)
      simp [DictEntry.refKey, hkey]
    have a' : ¬ es.toList.any (·.refKey) = true := by rw [a]; exact Bool.false_ne_true
    rw [if_neg a']
    exact congrArg some e
theorem ObjM.look {h : Heap} {x dx C : Addr} {mA : Str → Option Value} (I : ObjM h x dx C mA) : ∃ od, PySem.W.InstAt h x (PySem.W.instObj C dx) C (some od) ∧ ∀ name, PySem.W.lookIn name od = some (mA name) :=
  let ⟨od, ho, hl⟩ := lookIn_ns I.ns
  ⟨od, ⟨I.obj, rfl, rfl, ho⟩, hl⟩
section
variable {prog : Program} {w : World} {A : Around} {E : Value → Shared → Prop} {s : Shared} {K : PySem.W.Frag} {x dx C f : Addr} {mA : Str → Option Value} {name : Str} {v : Value}
theorem get_map {expr : Bool} {Q : Value → Shared → Prop} (X : K.In s.heap) (I : ObjM s.heap x dx C mA) (hg : PySem.W.plainGet K C name = true) (hh : PySem.W.hasDictIn K C = true)
    (ha : PySem.W.findIn K (.ref C) name = some none) (hv : mA name = some v) (hv' : PySem.W.handedIn v = true) (h : Q v { s with toks := s.toks + 1 }) :
    wpAny (model prog w) A (getAttr (.ref x) name expr) Q E s := by
  obtain ⟨od, J, hl⟩ := I.look
  exact PySem.W.get_value X J (PySem.W.plainGet_of hg).1 (PySem.W.findObj_own hh ha rfl (by rw [hl, hv])) hv' h
theorem set_map {ns : List Str} {Q : Unit → Shared → Prop} (X : K.In s.heap) (I : ObjM s.heap x dx C mA)
    (hs : PySem.W.findIn K (.ref C) "__setattr__" = some (some (.builtin "object.__setattr__"))) (hp : PySem.W.plainOver K C = true) (ht : PySem.W.takerIn K C name = some none) (hh : PySem.W.hasDictIn K C = true)
    (hw : PySem.Within mA ns) (hsz : ns.length ≤ sizeLine)
    (h : ∀ h', ObjM h' x dx C (fun y => if y = name then some v else mA y) → Heap.SameBut dx s.heap h' → Q () { s with heap := h', toks := s.toks + 2 }) :
    wpAny (model prog w) A (setAttr (.ref x) name v) Q E s := by
  obtain ⟨od, J, hl⟩ := I.look
  refine PySem.W.set_plain X J hs (PySem.W.osa_open (s := { s with toks := s.toks + 1 }) (r := none) X J hp ht fun b => ?_)
  obtain ⟨cd, hc, hd'⟩ := PySem.W.any_some hh
  have hx : s.heap.get? x = some ⟨.ref C, some dx, .plain, #[]⟩ := I.obj
  refine wpAny_bind (wpAny_pure (wpAny_bind (wpAny_bind (wpAny_loadPart hx (wpAny_bind (PySem.W.Looks.here (s := { s with toks := s.toks + 1 }) (PySem.W.looks_clsIn X hc) ?_))))))
  rw [hd']
  refine wpAny_pure (a := some dx) (wpAny_bind (wpAny_pure (wpAny_bind ?_)))
  refine wpAny_nsSet1 (s := { s with toks := s.toks + 1 }) I.ns fun h' hn2 hs2 => ?_
  obtain ⟨oD, esD, epD, hoD, hdD, hcD⟩ := hn2.count (PySem.Within.cons name v hw)
  refine wpAny_bind (wpAny_lookBehind hoD (by rw [hdD]; exact pastItsLine_dict (Nat.le_trans hcD (by rw [List.length_cons]; omega))) ?_)
  exact wpAny_pure (h _ ⟨(hs2.2 _ (Ne.symm I.ne)).trans I.obj, hn2, I.ne⟩ hs2)
theorem make_map {R : Result → Shared → Prop} {vs : List Value} {kw : List (Str × Value)} (X : K.In s.heap) (hm : PySem.W.makesIn K C = true)
    (hi : PySem.W.findIn K (.ref C) "__init__" = some (some (.ref f))) (hf : PySem.W.typeIn K (.ref f) = some (.type "function"))
    (h : codeAny (model prog w) (A.under (.builtin "type.__call__" ⟨.ref C :: vs, kw⟩)) (.call (.ref f) ⟨.ref (s.heap.objs.size + 1) :: vs, kw⟩) (PySem.W.InitBack (s.heap.objs.size + 1) R)
      { s with heap := (s.heap.push PySem.W.emptyDict).push (PySem.W.instObj C s.heap.objs.size) }) :
    codeAny (model prog w) A (.call (.ref C) ⟨vs, kw⟩) R s := by
  obtain ⟨hh, g, d, t, os⟩ := s
  exact PySem.W.make_core (PySem.W.makes_of X hm) (PySem.W.looks_findIn X hi) (fun self => PySem.W.bind_fn X self hf) (.inl rfl) h
end
def putF (f : Str) (v : V) : List (Str × V) → List (Str × V)
  | [] => [(f, v)]
  | (g, x) :: r => if g = f then (g, v) :: r else (g, x) :: putF f v r
theorem lookup_putF (f g : Str) (v : V) : ∀ fs : List (Str × V), (putF f v fs).lookup g = if g = f then some v else fs.lookup g
  | [] => by
    show List.lookup g [(f, v)] = _
    by_cases h : g = f
    · have hb : (g == f) = true := beq_iff_eq.mpr h
      simp only [List.lookup, hb, if_pos h]
    · have hb : (g == f) = false := beq_eq_false_iff_ne.mpr h
      simp only [List.lookup, hb, if_neg h]
  | (k, x) :: r => by
    have ih := lookup_putF f g v r
    rw [show putF f v ((k, x) :: r) = (if k = f then (k, v) :: r else (k, x) :: putF f v r) from rfl]
    by_cases hk : k = f
    · rw [if_pos hk]
      by_cases h : g = k
      · have hb : (g == k) = true := beq_iff_eq.mpr h
        simp only [List.lookup, hb, if_pos (h.trans hk)]
      · have hb : (g == k) = false := beq_eq_false_iff_ne.mpr h
        simp only [List.lookup, hb, if_neg (fun e : g = f => h (e.trans hk.symm))]
    · rw [if_neg hk]
      by_cases h : g = k
      · have hb : (g == k) = true := beq_iff_eq.mpr h
        simp only [List.lookup, hb, if_neg (fun e : g = f => hk (h.symm.trans e))]
      · have hb : (g == k) = false := beq_eq_false_iff_ne.mpr h
        simp only [List.lookup, hb]
        exact ih
theorem keys_putF (f : Str) (v : V) : ∀ fs : List (Str × V), f ∈ (putF f v fs).map (·.1) ∧ ∀ g, g ∈ fs.map (·.1) → g ∈ (putF f v fs).map (·.1)
  | [] => ⟨by simp [putF], fun g h => by simp at h⟩
  | (k, x) :: r => by
    obtain ⟨i1, i2⟩ := keys_putF f v r
    rw [show putF f v ((k, x) :: r) = (if k = f then (k, v) :: r else (k, x) :: putF f v r) from rfl]
    by_cases hk : k = f
    · rw [if_pos hk]
      subst hk
      exact ⟨by simp, fun g h => by simpa using h⟩
    · rw [if_neg hk]
      refine ⟨?_, fun g h => ?_⟩
      · rw [List.map_cons]
        exact List.mem_cons_of_mem _ i1
      · rw [List.map_cons] at h ⊢
        rcases List.mem_cons.mp h with e | e
        · exact List.mem_cons.mpr (.inl e)
        · exact List.mem_cons_of_mem _ (i2 g e)
theorem length_putF (f : Str) (v : V) : ∀ fs : List (Str × V), (putF f v fs).length ≤ fs.length + 1
  | [] => by simp [putF]
  | (k, x) :: r => by
    have ih := length_putF f v r
    rw [show putF f v ((k, x) :: r) = (if k = f then (k, v) :: r else (k, x) :: putF f v r) from rfl]
    by_cases hk : k = f
    · rw [if_pos hk, List.length_cons, List.length_cons]; omega
    · rw [if_neg hk, List.length_cons, List.length_cons]; omega
theorem RelO.some_of {v : V} {o : Option Value} (r : RelO (some v) o) : ∃ u, o = some u ∧ RelV v u := by
  cases o with
  | none => exact (show False from r).elim
  | some u => exact ⟨u, rfl, r⟩
theorem RelO.none_of {o : Option Value} (r : RelO none o) : o = none := by
  cases o with
  | none => rfl
  | some u => exact (show False from r).elim
theorem handed_of {v : V} {u : Value} (r : RelV v u) : PySem.W.handedIn u = true := by
  cases v with
  | non => cases (show u = Value.none from r); rfl
  | bl b => cases (show u = Value.bool b from r); rfl
  | int i => obtain ⟨t, e⟩ := (show ∃ t, u = Value.int i t from r); cases e; rfl
  | str x => obtain ⟨t, e⟩ := (show ∃ t, u = Value.str x t from r); cases e; rfl
  | byt b => obtain ⟨t, e⟩ := (show ∃ t, u = Value.bytes b t from r); cases e; rfl
  | flt b => obtain ⟨t, e⟩ := (show ∃ t, u = Value.float b t from r); cases e; rfl
  | ref a => cases (show u = Value.ref a from r); rfl
  | ty n => cases (show u = Value.type n from r); rfl
section
variable {P : Program} {w : World} {H H' : Hp} {h h' : Heap} {a C dx : Addr} {fs fs' : List (Str × V)}
theorem ins_get (hok : HOk P w H h) (e : H a = some (.ins C dx fs)) : ∃ mA, ObjM h a dx C mA ∧ (∀ f, RelO (fs.lookup f) (mA f)) ∧ PySem.Within mA (fs.map (·.1)) ∧ fs.length ≤ 1000 ∧ H dx = some (.own a) := by
  obtain ⟨d, z, ne, ob, mA, n, r, q⟩ := (show ObjOk P w H h a (.ins C dx fs) from hok a _ e)
  exact ⟨mA, ⟨ob, n, ne⟩, r, q, z, d⟩
end
structure Cls (K : PySem.W.Frag) (C : Addr) : Prop where
  pg : PySem.W.plainGet K C Str.empty = true
  hd : PySem.W.hasDictIn K C = true
  po : PySem.W.plainOver K C = true
  sa : PySem.W.findIn K (.ref C) "__setattr__" = some (some (.builtin "object.__setattr__"))
theorem Cls.get {K : PySem.W.Frag} {C : Addr} (c : Cls K C) (f : Str) : PySem.W.plainGet K C f = true := c.pg
def NoAttr (K : PySem.W.Frag) (C : Addr) (f : Str) : Prop := PySem.W.findIn K (.ref C) f = some none
theorem NoAttr.taker {K : PySem.W.Frag} {C : Addr} {f : Str} (n : NoAttr K C f) : PySem.W.takerIn K C f = some none := by
  unfold PySem.W.takerIn
  rw [show PySem.W.findIn K (.ref C) f = some none from n]
  rfl
section
variable {X : Cx} {pins : List (Addr × Obj)} {σ : St} {H : Hp} {s : Shared} {a C dx : Addr} {fs : List (Str × V)} {f : Str} {v : V} {A : Around} {E : Value → Shared → Prop}
theorem getattr_ok {b : Bool} {Q : Value → Shared → Prop} (I : Inv X pins σ H s) (e : H a = some (.ins C dx fs)) (c : Cls X.K C) (n : NoAttr X.K C f) (l : fs.lookup f = some v)
    (h : ∀ u s', Inv X pins σ H s' → RelV v u → Q u s') : wpAny (model X.prog X.w) A (getAttr (.ref a) f b) Q E s := by
  obtain ⟨mA, O, r, _, _, _⟩ := ins_get I.hok e
  obtain ⟨u, hu, ru⟩ := RelO.some_of (v := v) (o := mA f) (by rw [← l]; exact r f)
  exact get_map I.kIn O (c.get f) c.hd n hu (handed_of ru) (h u _ (I.tok _) ru)
theorem setattr_ok {y : V} {u : Value} {Q : Unit → Shared → Prop} (I : Inv X pins σ H s) (e : H a = some (.ins C dx fs)) (c : Cls X.K C) (n : NoAttr X.K C f) (hl : fs.length < 1000) (ry : RelV y u)
    (h : ∀ s', Inv X pins σ (upd H a (.ins C dx (putF f y fs))) s' → Q () s') : wpAny (model X.prog X.w) A (setAttr (.ref a) f u) Q E s := by
  obtain ⟨mA, O, r, wi, _, ho⟩ := ins_get I.hok e
  have hz : (fs.map (·.1)).length ≤ sizeLine := by rw [List.length_map, sizeLine_eq]; omega
  refine set_map I.kIn O c.sa c.po n.taker c.hd wi hz fun h' O' sb => h _ ?_
  have hd : ∃ o, h'.get? dx = some o := let ⟨o, _, _, e', _⟩ := O'.ns; ⟨o, e'⟩
  refine I.write (x := a) (e := dx) (by rw [e]; exact True.intro) (.inr ho) (fun b q hb z => (sb.2 b hb).trans z) hd ?_
  refine ⟨by rw [upd_ne O.ne]; exact ho, ?_, O.ne, O'.obj, _, O'.ns, fun g => ?_, fun g hg => ?_⟩
  · have := length_putF f y fs; omega
  · show RelO ((putF f y fs).lookup g) (if g = f then some u else mA g)
    rw [lookup_putF]
    by_cases q : g = f
    · rw [if_pos q, if_pos q]; exact ry
    · rw [if_neg q, if_neg q]; exact r g
  · by_cases q : g = f
    · rw [q]; exact (keys_putF f y fs).1
    · refine (keys_putF f y fs).2 g (wi g fun z => hg ?_)
      show (if g = f then some u else mA g) = none
      rw [if_neg q]; exact z
theorem Inv.made (I : Inv X pins σ H s) : Inv X pins σ (upd (upd H s.heap.objs.size (.own (s.heap.objs.size + 1))) (s.heap.objs.size + 1) (.ins C s.heap.objs.size []))
    { s with heap := (s.heap.push PySem.W.emptyDict).push (PySem.W.instObj C s.heap.objs.size) } := by
  have e1 : (s.heap.push PySem.W.emptyDict).get? s.heap.objs.size = some PySem.W.emptyDict := Heap.get?_push_size s.heap rfl
  have e2 : ((s.heap.push PySem.W.emptyDict).push (PySem.W.instObj C s.heap.objs.size)).get? (s.heap.objs.size + 1) = some (PySem.W.instObj C s.heap.objs.size) := by
    have := Heap.get?_push_size (s.heap.push PySem.W.emptyDict) (o := PySem.W.instObj C s.heap.objs.size) rfl
    rwa [Heap.size_push] at this
  have e3 : (s.heap.push PySem.W.emptyDict).Ns s.heap.objs.size (fun _ => none) := ⟨PySem.W.emptyDict, #[], _, e1, rfl, (fun e he => absurd he (by simp)), fun _ => rfl⟩
  have I1 := I.laid (a := s.heap.objs.size) (o := .own (s.heap.objs.size + 1)) (h' := s.heap.push PySem.W.emptyDict) (t' := s.toks) (fun b u q => Heap.get?_push_of_some _ q) (Nat.le_refl _) ⟨_, e1⟩
  refine I1.laid (a := s.heap.objs.size + 1) (o := .ins C s.heap.objs.size []) (t' := s.toks) (fun b u q => Heap.get?_push_of_some _ q) (Nat.le_of_eq (Heap.size_push _ _)) ?_
  have ne : s.heap.objs.size ≠ s.heap.objs.size + 1 := Nat.ne_of_lt (Nat.lt_succ_self _)
  refine ⟨by rw [upd_ne ne, upd_same], Nat.zero_le _, ne, e2, fun _ => none, (Heap.Ns1.of_empty e3).at fun o q => Heap.get?_push_of_some _ q, fun _ => True.intro, fun y hy => absurd rfl hy⟩
theorem attr_of {prog : Program} {w : World} {env : Env} {e : Expr} {f : Str} {pos : Pos} {s : Shared} {Q : Value → Shared → Prop} (hb : attributeBase e f env (eval e env) = eval e env)
    (h : wpAny (model prog w) A (eval e env) (fun o s₁ => wpAny (model prog w) A (getAttr o f true) Q E s₁) E s) : wpAny (model prog w) A (eval (.Attribute e f pos) env) Q E s :=
  Attribute_any_ h (by rw [arm_eval_Attribute, hb])
end
def tFld (K : PySem.W.Frag) (ta : TE) (f : Str) : TE := fun σ H Q => ta σ H fun x H1 => ∃ a C dx fs v, x = .ref a ∧ H1 a = some (.ins C dx fs) ∧ Cls K C ∧ NoAttr K C f ∧ fs.lookup f = some v ∧ Q v H1
def sFld (K : PySem.W.Frag) (ta tv : TE) (f : Str) : TS := fun D σ H => tv σ H fun y H1 => ta σ H1 fun x H2 => ∃ a C dx fs, x = .ref a ∧ H2 a = some (.ins C dx fs) ∧ Cls K C ∧ NoAttr K C f ∧ fs.length < 1000 ∧
  D.nx σ (upd H2 a (.ins C dx (putF f y fs)))
section
variable {X : Cx} {o e value : Expr} {f : Str} {pos pos' tpos : Pos} {ta tv : TE}
theorem pe_fld (he : PE X e ta) (hb : attributeBase e f X.env (eval e X.env) = eval e X.env) : PE X (.Attribute e f pos) (tFld X.K ta f) := by
  intro pins s σ H Q I h
  refine attr_of hb (thn (he pins s σ H _ I h) fun u s1 ⟨x, H1, I1, rx, a, C, dx, fs, v, ex, ea, c, n, l, q⟩ => ?_)
  subst ex
  obtain rfl : u = Value.ref a := rx
  exact getattr_ok I1 ea c n l fun u' s2 I2 ru => ⟨v, H1, I2, ru, q⟩
theorem ps_fld (ha : PE X o ta) (hv : PE X value tv) (hs : swapsWith value (some (.Attribute o f pos')) pos.line X.env = pure false) : PS X (.Assign [.Attribute o f pos'] value pos) (sFld X.K ta tv f) := by
  intro pins s σ H D I h
  refine plainObj_wpAny_Assign_Attribute (thn (hv pins s σ H _ I h) fun u s1 ⟨y, H1, I1, ry, q⟩ => thn (ha pins s1 σ H1 _ I1 q) fun ov s2 ⟨x, H2, I2, rx, a, C, dx, fs, ex, ea, c, n, l, q2⟩ => ?_) hs
  subst ex
  obtain rfl : ov = Value.ref a := rx
  exact setattr_ok I2 ea c n l ry fun s3 I3 => ⟨σ, _, I3, q2⟩
end
section
variable {X : Cx} {pins : List (Addr × Obj)} {σ : St} {H : Hp} {s : Shared} {A : Around} {E : Value → Shared → Prop} {Q : Value → Shared → Prop} {c : Value} {b : Bool}
inductive TyOf (K : PySem.W.Frag) (H : Hp) : V → Value → Prop where
  | non : TyOf K H .non (.type "NoneType")
  | bl (x : Bool) : TyOf K H (.bl x) (.type "bool")
  | int (i : Int) : TyOf K H (.int i) (.type "int")
  | str (x : Str) : TyOf K H (.str x) (.type "str")
  | flt (x : UInt64) : TyOf K H (.flt x) (.type "float")
  | lst {a : Addr} {xs : List V} (e : H a = some (.lst xs)) : TyOf K H (.ref a) (.type "list")
  | frz {a : Addr} {o : Obj} {xs : List V} (e : H a = some (.frz o (.lst xs))) : TyOf K H (.ref a) (.type "list")
  | tup {a : Addr} {xs : List V} (e : H a = some (.tup xs)) : TyOf K H (.ref a) (.type "tuple")
  | dK {a : Addr} {kvs : List (Key × V)} (e : H a = some (.dK kvs)) : TyOf K H (.ref a) (.type "dict")
  | dT {a : Addr} {kvs : List (List Key × V)} (e : H a = some (.dT kvs)) : TyOf K H (.ref a) (.type "dict")
  | ins {a C dx : Addr} {fs : List (Str × V)} (e : H a = some (.ins C dx fs)) (cl : Cls K C) (ha : PySem.W.findIn K (.ref C) "__class__" = some (some (.builtin "object.__class__")))
      (hn : PySem.W.specialIn K (.builtin "object.__class__") "__get__" = some (some (.builtin "getset_descriptor.__get__"))) (htk : PySem.W.takesIn K (.builtin "object.__class__") = some true)
      (hm : PySem.W.mroIn K C (.type "object") = some true) : TyOf K H (.ref a) (.ref C)
theorem isinst_ok {x : V} {u t : Value} (I : Inv X pins σ H s) (rx : RelV x u) (ty : TyOf X.K H x t) (e : PySem.W.kitOne X.K t c = some b) (h : ∀ tk, Q (.bool b) { s with toks := tk }) :
    wpAny (model X.prog X.w) A (call (.builtin "isinstance") [u, c]) Q E s := by
  cases ty with
  | non => cases (show u = Value.none from rx); exact PySem.W.kia_one PySem.W.kitx_none I.kIn True.intro e (fun z => nomatch z) h
  | bl y => cases (show u = Value.bool y from rx); exact PySem.W.kia_one PySem.W.kitx_bool I.kIn True.intro e (fun z => nomatch z) h
  | int i => obtain ⟨t, q⟩ := (show ∃ t, u = Value.int i t from rx); cases q; exact PySem.W.kia_one PySem.W.kitx_int I.kIn True.intro e (fun z => nomatch z) h
  | str y => obtain ⟨t, q⟩ := (show ∃ t, u = Value.str y t from rx); cases q; exact PySem.W.kia_one PySem.W.kitx_str I.kIn True.intro e (fun z => nomatch z) h
  | flt y => obtain ⟨t, q⟩ := (show ∃ t, u = Value.float y t from rx); cases q; exact PySem.W.kia_one PySem.W.kitx_float I.kIn True.intro e (fun z => nomatch z) h
  | @lst a xs ea =>
    cases (show u = Value.ref a from rx)
    obtain ⟨_, _, n, _, h1⟩ := (show ObjOk X.prog X.w H s.heap a (.lst xs) from I.hok a _ ea)
    exact PySem.W.kia_one PySem.W.kitx_list I.kIn ⟨_, h1, rfl⟩ e (fun z => nomatch z) h
  | @frz a ob xs ea =>
    cases (show u = Value.ref a from rx)
    obtain ⟨_, _, _, n, _, h1⟩ := (show ObjOk X.prog X.w H s.heap a (.frz ob (.lst xs)) from I.hok a _ ea)
    exact PySem.W.kia_one PySem.W.kitx_list I.kIn ⟨_, h1, rfl⟩ e (fun z => nomatch z) h
  | @tup a xs ea =>
    cases (show u = Value.ref a from rx)
    obtain ⟨_, _, _, p⟩ := (show ObjOk X.prog X.w H s.heap a (.tup xs) from I.hok a _ ea)
    obtain ⟨o, h1, h2, _⟩ := p
    exact PySem.W.kia_one PySem.W.kitx_tuple I.kIn ⟨o, h1, h2⟩ e (fun z => nomatch z) h
  | @dK a kvs ea =>
    cases (show u = Value.ref a from rx)
    obtain ⟨_, _, vs, _, p⟩ := (show ObjOk X.prog X.w H s.heap a (.dK kvs) from I.hok a _ ea)
    obtain ⟨o, es, ep, h1, h2, _⟩ := p
    exact PySem.W.kia_one PySem.W.kitx_dict I.kIn ⟨o, h1, h2.1⟩ e (fun z => nomatch z) h
  | @dT a kvs ea =>
    cases (show u = Value.ref a from rx)
    obtain ⟨_, _, xs, _, o, es, ep, h1, h2, _⟩ := (show ObjOk X.prog X.w H s.heap a (.dT kvs) from I.hok a _ ea)
    exact PySem.W.kia_one PySem.W.kitx_dict I.kIn ⟨o, h1, h2.1⟩ e (fun z => nomatch z) h
  | @ins a C dx fs ea cl ha hn htk hm =>
    cases (show u = Value.ref a from rx)
    obtain ⟨mA, O, _⟩ := ins_get I.hok ea
    obtain ⟨od, J, _⟩ := O.look
    exact PySem.W.kia_one (PySem.W.kitx_own (cl.get _) cl.hd ha hn htk hm) I.kIn J e (fun z => nomatch z) h
end
end L2
namespace L2
open PySem PySem.Spec PyProof.Rows
structure Room (k : Nat) (A : Around) : Prop where
  hd : A.handled = none
  dp : A.depth + 3 * k + 5 < recursionLimit
  un : A.units + 16 * k + 200 < cLine
theorem Room.mono {j k : Nat} {A : Around} (r : Room k A) (h : j ≤ k) : Room j A := ⟨r.hd, by have := r.dp; omega, by have := r.un; omega⟩
theorem Room.deeper {k : Nat} {A : Around} (r : Room (k + 1) A) (env : Env) : Room k (A.deeper env) :=
  ⟨r.hd, by have := r.dp; show A.depth + 1 + 3 * k + 5 < _; omega, by have := r.un; show A.units + 3 + 16 * k + 200 < _; omega⟩
theorem Room.in1 {k : Nat} {A : Around} (r : Room (k + 1) A) : Room k A.in1 :=
  ⟨r.hd, by have := r.dp; show A.depth + 3 * k + 5 < _; omega, by have := r.un; show A.units + 1 + 16 * k + 200 < _; omega⟩
theorem make_depth {A : Around} {C : Addr} {us : List Value} {kw : List (Str × Value)} : (A.under (.builtin "type.__call__" ⟨.ref C :: us, kw⟩)).depth = A.depth + 1 := by
  first | rfl | simp [Around.under, Code.weight, Code.isCreation, Code.isGuard, Code.isCaller, Code.frames, Code.isFrame, guardIds]
theorem make_units {A : Around} {C : Addr} {us : List Value} {kw : List (Str × Value)} : (A.under (.builtin "type.__call__" ⟨.ref C :: us, kw⟩)).units = A.units + 1 := by
  first | rfl | simp [Around.under, Code.cUnits, Code.frames, Code.isFrame]
theorem Room.make {k : Nat} {A : Around} (r : Room (k + 1) A) (C : Addr) (us : List Value) (kw : List (Str × Value)) : Room k (A.under (.builtin "type.__call__" ⟨.ref C :: us, kw⟩)) :=
  ⟨r.hd, by have := r.dp; rw [make_depth]; omega, by have := r.un; rw [make_units]; omega⟩
theorem Room.depth {k : Nat} {A : Around} (r : Room k A) : A.depth < recursionLimit := by have := r.dp; omega
theorem Room.units {k : Nat} {A : Around} (r : Room k A) : A.units + 64 < cLine := by have := r.un; omega
theorem Room.units0 {k : Nat} {A : Around} (r : Room k A) : A.units < cLine := by have := r.un; omega
def tNil : TA := fun _ H Q => Q [] H
def tCons (ta : TE) (tr : TA) : TA := fun σ H Q => ta σ H fun x H1 => tr σ H1 fun xs H2 => Q (x :: xs) H2
section
variable {X : Cx} {e : Expr} {es : List Expr} {te : TE} {t : TA} {pos : Pos}
theorem pa_nil : PA X [] tNil := fun _ _ _ _ H Q I h => Calls.spliced_nil ⟨[], H, I, .nil, h⟩
theorem pa_cons (ha : PE X e te) (hr : PA X es t) (hs : starEach (e :: es) X.env = (false, eval e X.env) :: starEach es X.env := by rfl) : PA X (e :: es) (tCons te t) := by
  intro pos pins s σ H Q I h
  rw [hs]
  show wpAny _ _ (spliced ((false, eval e X.env) :: backTo pos (starEach es X.env))) _ _ s
  refine Calls.spliced_cons (thn (ha pins s σ H _ I h) fun u s1 ⟨x, H1, I1, r1, q1⟩ => ?_)
  exact thn (hr pos pins s1 σ H1 _ I1 q1) fun us s2 ⟨xs, H2, I2, r2, q2⟩ => ⟨x :: xs, H2, I2, .cons r1 r2, q2⟩
def tTup (t : TA) : TE := fun σ H Q => t σ H fun xs H1 => xs.length ≤ sizeLine ∧ ∀ p, H1 p = none → Q (.ref p) (upd H1 p (.tup xs))
def tLst (t : TA) : TE := fun σ H Q => t σ H fun xs H1 => xs.length ≤ sizeLine ∧ ∀ p, H1 p = none → Q (.ref p) (upd H1 p (.lst xs))
theorem pe_tup {x1} (h : PA X es t) : PE X (.Tuple es x1 pos) (tTup t) := by
  intro pins s σ H Q I hq
  refine wpAny_Tuple_spliced (thn (h pos pins s σ H _ I hq) fun us s1 ⟨xs, H1, I1, r, z, q⟩ => ⟨by rw [← r.length]; exact z, ?_⟩)
  have hf : H1 s1.heap.objs.size = none := I1.hok.fresh (Nat.le_refl _)
  refine ⟨.ref s1.heap.objs.size, upd H1 s1.heap.objs.size (.tup xs), I1.laid (t' := s1.toks) (fun b u e => Heap.get?_push_of_some _ e) (Nat.le_refl _) ?_, rfl, q _ hf⟩
  exact ⟨z, us, r, ⟨_, Heap.get?_push_size _ rfl, rfl, _, rfl⟩⟩
theorem pe_lst (h : PA X es t) : PE X (.List es pos) (tLst t) := by
  intro pins s σ H Q I hq
  refine wpAny_List_spliced (thn (h pos pins s σ H _ I hq) fun us s1 ⟨xs, H1, I1, r, z, q⟩ => ⟨by rw [← r.length]; exact z, ?_⟩)
  have hf : H1 s1.heap.objs.size = none := I1.hok.fresh (Nat.le_refl _)
  refine ⟨.ref s1.heap.objs.size, upd H1 s1.heap.objs.size (.lst xs), I1.laid (t' := s1.toks) (fun b u e => Heap.get?_push_of_some _ e) (Nat.le_refl _) ?_, rfl, q _ hf⟩
  exact ⟨z, us, 0, r, Heap.get?_push_size _ rfl⟩
end
abbrev Sp := List V → Hp → VK → XK → Prop
abbrev CXT := List Env → Hp → Shared → XK → Value → Shared → Prop
structure Env0 (P : Program) (w : World) (K : PySem.W.Frag) (mg : Str → Option Value) (base : Heap) (A : Around) (outer : List Env) (s : Shared) (H : Hp) : Prop where
  frames : A.frames = some outer
  mod : Mod K mg base
  bs : ∀ b o, base.get? b = some o → s.heap.get? b = some o ∧ H b = none
  bsz : base.objs.size ≤ s.heap.objs.size
  funs : s.heap.FunFrames base outer
  frf : ∀ b ∈ frs outer, H b = none
  hok : HOk P w H s.heap
  bare : AllBare s.gens
def CE (outer : List Env) (P : Program) (w : World) (H : Hp) (s : Shared) (Q : VK) (u : Value) (s' : Shared) : Prop :=
  ∃ v H', s'.os = s.os ∧ AllBare s'.gens ∧ Un (frs outer) [] H H' s.heap s'.heap ∧ HOk P w H' s'.heap ∧ RelV v u ∧ Q v H'
def CR (CX : CXT) (outer : List Env) (P : Program) (w : World) (H : Hp) (s : Shared) (Q : VK) (E : XK) (r : Result) (s' : Shared) : Prop :=
  match r with
  | .ok (.ret u) => CE outer P w H s Q u s'
  | .ok _ => False
  | .error e => CX outer H s E e s'
structure FnOk (P : Program) (w : World) (K : PySem.W.Frag) (mg : Str → Option Value) (base : Heap) (CX : CXT) (k : Nat) (f : Addr) (fd : FuncData) (ps : List Str) (sp : Sp) : Prop where
  len : ∀ vs H Q E, sp vs H Q E → vs.length = ps.length
  run : ∀ (A : Around) (outer : List Env) (s : Shared) (H : Hp) (args : Args) (us : List Value) (vs : List V) (Q : VK) (E : XK), Room k A → Env0 P w K mg base A outer s H → BindsTo s fd args (ps.zip us) → Vals vs us → sp vs H Q E →
    codeAny (model P w) A (.call (.ref f) args) (CR CX outer P w H s Q E) s
theorem FnOk.mono {P : Program} {w : World} {K : PySem.W.Frag} {mg : Str → Option Value} {base : Heap} {CX : CXT} {j k : Nat} {f : Addr} {fd : FuncData} {ps : List Str} {sp : Sp} (F : FnOk P w K mg base CX j f fd ps sp) (h : j ≤ k) :
    FnOk P w K mg base CX k f fd ps sp := ⟨F.len, fun A outer s H args us vs Q E hr => F.run A outer s H args us vs Q E (hr.mono h)⟩
theorem FnOk.imp {P : Program} {w : World} {K : PySem.W.Frag} {mg : Str → Option Value} {base : Heap} {CX : CXT} {k : Nat} {f : Addr} {fd : FuncData} {ps : List Str} {sp sp' : Sp} (F : FnOk P w K mg base CX k f fd ps sp)
    (h : ∀ vs H Q E, sp' vs H Q E → sp vs H Q E) : FnOk P w K mg base CX k f fd ps sp' :=
  ⟨fun vs H Q E q => F.len vs H Q E (h _ _ _ _ q), fun A outer s H args us vs Q E hr he hb hv hs => F.run A outer s H args us vs Q E hr he hb hv (h _ _ _ _ hs)⟩
theorem Env0.make {P : Program} {w : World} {K : PySem.W.Frag} {mg : Str → Option Value} {base : Heap} {A : Around} {outer : List Env} {s : Shared} {H : Hp} (e : Env0 P w K mg base A outer s H) (C : Addr) (us : List Value) (kw : List (Str × Value)) :
    Env0 P w K mg base (A.under (.builtin "type.__call__" ⟨.ref C :: us, kw⟩)) outer s H := ⟨by first | exact e.frames | (simpa [Around.under, Code.envs, Code.isFrame, pushEnvs] using e.frames), e.mod, e.bs, e.bsz, e.funs, e.frf, e.hok, e.bare⟩
theorem Env0.in1 {P : Program} {w : World} {K : PySem.W.Frag} {mg : Str → Option Value} {base : Heap} {A : Around} {outer : List Env} {s : Shared} {H : Hp} (e : Env0 P w K mg base A outer s H) :
    Env0 P w K mg base A.in1 outer s H := ⟨e.frames, e.mod, e.bs, e.bsz, e.funs, e.frf, e.hok, e.bare⟩
section
variable {X : Cx} {pins : List (Addr × Obj)} {σ : St} {H : Hp} {s s' : Shared}
theorem Inv.env0 (I : Inv X pins σ H s) : Env0 X.prog X.w X.K X.mg X.base X.A X.stack s H :=
  ⟨I.ok.frames, I.ok.mod, I.bs, Nat.le_trans I.ok.bsz I.sz, I.stack, I.stkFree, I.hok, I.bare⟩
theorem Inv.after {Q : VK} {u : Value} (I : Inv X pins σ H s) (h : CE X.stack X.prog X.w H s Q u s') : EP X pins σ Q u s' := by
  obtain ⟨v, H', os, bare, un, hok, r, q⟩ := h
  obtain ⟨hh, g, d, t, os'⟩ := s'
  obtain rfl : os' = s.os := os
  exact ⟨v, H', I.call (h' := hh) (g' := g) (d' := d) (t' := t) (ch := []) un hok bare (fun b z => absurd z (by simp)), r, q⟩
end
def tCall (sp : Sp) (dvs : List V) (E : XK) (t : TA) : TE := fun σ H Q => t σ H fun vs H1 => sp (vs ++ dvs) H1 Q E
def tMake (C : Addr) (sp : Sp) (dvs : List V) (E : XK) (t : TA) : TE := fun σ H Q => t σ H fun vs H1 => ∀ x dx, H1 x = none → H1 dx = none → dx ≠ x →
  sp (.ref x :: (vs ++ dvs)) (upd (upd H1 dx (.own x)) x (.ins C dx [])) (fun v H2 => v = .non ∧ Q (.ref x) H2) E
def Binds (K : PySem.W.Frag) (fd : FuncData) (ps : List Str) (ds : List Value) : Prop :=
  ∀ (s : Shared) (us : List Value), K.In s.heap → (us ++ ds).length = ps.length → BindsTo s fd ⟨us, []⟩ (ps.zip (us ++ ds))
theorem Binds.all {K : PySem.W.Frag} {fd : FuncData} {ps : List Str} (h : ∀ us : List Value, us.length = ps.length → bindArgs fd ⟨us, []⟩ = pure (ps.zip us)) : Binds K fd ps [] := fun s us _ hl => by
  rw [List.append_nil] at hl ⊢
  exact .of_eq (h us hl)
def Passes (CX : CXT) (X : Cx) (E : XK) : Prop := ∀ (pins : List (Addr × Obj)) (σ : St) (H : Hp) (s : Shared) (e : Value) (s' : Shared), Inv X pins σ H s → CX X.stack H s E e s' → X.xe e s'
section
variable {X : Cx} {CX : CXT} {k : Nat} {f C : Addr} {fd : FuncData} {ps : List Str} {sp : Sp} {dvs : List V} {ds : List Value} {E : XK} {x m : Str} {p pos apos : Pos} {e o : Expr} {es : List Expr} {ta : TE} {t : TA}
theorem run_fn {pins : List (Addr × Obj)} {σ : St} {H : Hp} {s : Shared} {Q : VK} {us : List Value} {vs : List V} (F : FnOk X.prog X.w X.K X.mg X.base CX k f fd ps sp) (hr : Room k X.A) (hb : Binds X.K fd ps ds) (hd : Vals dvs ds) (hx : Passes CX X E)
    (I : Inv X pins σ H s) (r : Vals vs us) (h : sp (vs ++ dvs) H Q E) : wpAny (model X.prog X.w) X.A (call (.ref f) us) (EP X pins σ Q) X.xe s := by
  have r2 : Vals (vs ++ dvs) (us ++ ds) := r.append hd
  have hl : (us ++ ds).length = ps.length := by rw [← r2.length]; exact F.len _ _ _ _ h
  refine wpAny_call (codeAny_mono (F.run X.A X.stack s H ⟨us, []⟩ (us ++ ds) (vs ++ dvs) Q E hr I.env0 (hb s us I.kIn hl) r2 h) fun r s' hq => ?_)
  cases r with
  | error e => exact hx pins σ H s e s' I hq
  | ok fl =>
    cases fl with
    | ret u => exact I.after hq
    | next => exact False.elim hq
    | brk => exact False.elim hq
    | cont => exact False.elim hq
theorem pe_call (F : FnOk X.prog X.w X.K X.mg X.base CX k f fd ps sp) (hr : Room k X.A) (hg : Gl X x) (hm : X.mg x = some (.ref f)) (hk : PySem.W.keepIn X.K (.ref f) = true) (hb : Binds X.K fd ps ds) (hd : Vals dvs ds) (hx : Passes CX X E)
    (ha : PA X (e :: es) t) (hdb : (x == ("__debug__" : Str)) = false := by decide) (he : starEach (e :: es) X.env = (false, eval e X.env) :: starEach es X.env := by rfl) (hpl : (backTo pos (starEach es X.env)).any (·.1) = false := by rfl) :
    PE X (.Call (.Name x p) (e :: es) [] pos) (tCall sp dvs E t) := by
  intro pins s σ H Q I h
  refine wpAny_Call_Name_kw (ld_glob I hg hm ?_ hdb)
  refine PySem.W.callWith_K (h₀ := X.base) I.ok.mod.kin hk (thn (ha pos pins s σ H _ I h) fun us s1 ⟨vs, H1, I1, r, q⟩ => ⟨I1.kIn, ?_⟩) he hpl
  exact run_fn F hr hb hd hx I1 r q
structure Mk (K : PySem.W.Frag) (C f : Addr) : Prop where
  makes : PySem.W.makesIn K C = true
  init : PySem.W.findIn K (.ref C) "__init__" = some (some (.ref f))
  fn : PySem.W.isFn K (.ref f) = true
  kp : PySem.W.keepIn K (.ref C) = true
theorem run_make {pins : List (Addr × Obj)} {σ : St} {H : Hp} {s : Shared} {Q : VK} {us : List Value} {vs : List V} (M : Mk X.K C f) (F : FnOk X.prog X.w X.K X.mg X.base CX k f fd ps sp) (hr : Room (k + 1) X.A) (hb : Binds X.K fd ps ds) (hd : Vals dvs ds)
    (hx : Passes CX X E) (I : Inv X pins σ H s) (r : Vals vs us)
    (h : ∀ x dx, H x = none → H dx = none → dx ≠ x → sp (.ref x :: (vs ++ dvs)) (upd (upd H dx (.own x)) x (.ins C dx [])) (fun v H2 => v = .non ∧ Q (.ref x) H2) E) :
    wpAny (model X.prog X.w) X.A (call (.ref C) us) (EP X pins σ Q) X.xe s := by
  have hq := h (s.heap.objs.size + 1) s.heap.objs.size (I.hok.fresh (Nat.le_succ _)) (I.hok.fresh (Nat.le_refl _)) (Nat.ne_of_lt (Nat.lt_succ_self _))
  have I2 := Inv.made (C := C) I
  have r2 : Vals (V.ref (s.heap.objs.size + 1) :: (vs ++ dvs)) (Value.ref (s.heap.objs.size + 1) :: (us ++ ds)) := .cons rfl (r.append hd)
  have hl : (Value.ref (s.heap.objs.size + 1) :: us ++ ds).length = ps.length := by
    have e := r2.length
    rw [F.len _ _ _ _ hq] at e
    exact e.symm
  refine wpAny_call (make_map (f := f) I.kIn M.makes M.init (beq_iff_eq.mp M.fn) (codeAny_mono (F.run _ X.stack _ _ ⟨Value.ref (s.heap.objs.size + 1) :: us, []⟩ (Value.ref (s.heap.objs.size + 1) :: (us ++ ds)) _ _ E (hr.make C us [])
    (I2.env0.make C us []) (hb _ (Value.ref (s.heap.objs.size + 1) :: us) I2.kIn hl) r2 hq) fun r s' hq' => ?_))
  cases r with
  | error e => exact hx pins σ _ _ e s' I2 hq'
  | ok fl =>
    cases fl with
    | ret u =>
      obtain ⟨v, H', I3, rv, ev, q3⟩ := I2.after hq'
      subst ev
      exact ⟨rv, ⟨V.ref (s.heap.objs.size + 1), H', I3, rfl, q3⟩⟩
    | next => exact False.elim hq'
    | brk => exact False.elim hq'
    | cont => exact False.elim hq'
theorem pe_make (M : Mk X.K C f) (F : FnOk X.prog X.w X.K X.mg X.base CX k f fd ps sp) (hr : Room (k + 1) X.A) (hg : Gl X x) (hm : X.mg x = some (.ref C)) (hb : Binds X.K fd ps ds) (hd : Vals dvs ds) (hx : Passes CX X E)
    (ha : PA X (e :: es) t) (hdb : (x == ("__debug__" : Str)) = false := by decide) (he : starEach (e :: es) X.env = (false, eval e X.env) :: starEach es X.env := by rfl) (hpl : (backTo pos (starEach es X.env)).any (·.1) = false := by rfl) :
    PE X (.Call (.Name x p) (e :: es) [] pos) (tMake C sp dvs E t) := by
  intro pins s σ H Q I h
  refine wpAny_Call_Name_kw (ld_glob I hg hm ?_ hdb)
  refine PySem.W.callWith_K (h₀ := X.base) I.ok.mod.kin M.kp (thn (ha pos pins s σ H _ I h) fun us s1 ⟨vs, H1, I1, r, q⟩ => ⟨I1.kIn, ?_⟩) he hpl
  exact run_make M F hr hb hd hx I1 r q
theorem pe_make0 (M : Mk X.K C f) (F : FnOk X.prog X.w X.K X.mg X.base CX k f fd ps sp) (hr : Room (k + 1) X.A) (hg : Gl X x) (hm : X.mg x = some (.ref C)) (hb : Binds X.K fd ps ds) (hd : Vals dvs ds) (hx : Passes CX X E)
    (hdb : (x == ("__debug__" : Str)) = false := by decide) : PE X (.Call (.Name x p) [] [] pos) (tMake C sp dvs E tNil) := by
  intro pins s σ H Q I h
  refine wpAny_Call_Name_kw (ld_glob I hg hm ?_ hdb)
  exact PySem.W.callWith_K0 I.kIn M.kp (run_make (us := []) M F hr hb hd hx I .nil h)
end
section
variable {X : Cx} {CX : CXT} {k : Nat} {f C : Addr} {fd : FuncData} {ps ks : List Str} {sp : Sp} {E : XK} {x m : Str} {p pos apos kpos : Pos} {e o : Expr} {es : List Expr} {kws : List Keyword} {te ta : TE} {t tk : TA} {nm : Option Str}
variable {g : List Value → List Value → List Value} {gV : List V → List V → List V}
end
structure FnScope (N P : List Str) (sc : Scope) : Prop where
  kind : sc.kind = .function
  co : sc.isCoroutine = false
  gen : sc.isGenerator = false
  nd : N.Nodup
  pre : N.take P.length = P
  par : ∀ x ∈ P, sc.names.lookup x = some .local ∨ sc.names.lookup x = some .cell
  nofree : ∀ y ∈ sc.names, y.2 ≠ .free
theorem bindL_out {kindOf : Str → Option NameKind} {x : Str} : ∀ {binds : List (Str × Value)} {m : Str → Option Value}, (∀ v, (x, v) ∉ binds) → bindL kindOf binds m x = m x
  | [], _, _ => rfl
  | (n, v) :: r, m, h => by
    unfold bindL
    rw [bindL_out fun w hw => h w (List.mem_cons_of_mem _ hw)]
    split
    · have : x ≠ n := by rintro rfl; exact h v List.mem_cons_self
      simp [this]
    · rfl
theorem bindC_out {kindOf : Str → Option NameKind} {x : Str} : ∀ {binds : List (Str × Value)} {m : Str → Option Value}, (∀ v, (x, v) ∉ binds) → bindC kindOf binds m x = m x
  | [], _, _ => rfl
  | (n, v) :: r, m, h => by
    unfold bindC
    rw [bindC_out fun w hw => h w (List.mem_cons_of_mem _ hw)]
    split
    · rfl
    · have : x ≠ n := by rintro rfl; exact h v List.mem_cons_self
      simp [this]
theorem bindL_get {kindOf : Str → Option NameKind} {x : Str} {v : Value} : ∀ {P : List Str} {vs : List Value} {i : Nat} {m : Str → Option Value}, P.Nodup → P[i]? = some x → vs[i]? = some v → kindOf x = some .local →
    bindL kindOf (P.zip vs) m x = some v
  | [], _, _, _, _, h, _, _ => by simp at h
  | _ :: _, [], _, _, _, _, h, _ => by simp at h
  | p :: P, w :: vs, 0, m, nd, h1, h2, hk => by
    simp at h1 h2; subst h1; subst h2
    show bindL kindOf ((p, w) :: P.zip vs) m p = _
    unfold bindL
    rw [bindL_out fun v hv => (List.nodup_cons.mp nd).1 (List.of_mem_zip hv).1, if_pos hk]
    simp
  | p :: P, w :: vs, i + 1, m, nd, h1, h2, hk => by
    show bindL kindOf ((p, w) :: P.zip vs) m x = _
    unfold bindL
    exact bindL_get (i := i) (List.nodup_cons.mp nd).2 (by simpa using h1) (by simpa using h2) hk
theorem bindC_get {kindOf : Str → Option NameKind} {x : Str} {v : Value} : ∀ {P : List Str} {vs : List Value} {i : Nat} {m : Str → Option Value}, P.Nodup → P[i]? = some x → vs[i]? = some v → kindOf x ≠ some .local →
    bindC kindOf (P.zip vs) m x = some v
  | [], _, _, _, _, h, _, _ => by simp at h
  | _ :: _, [], _, _, _, _, h, _ => by simp at h
  | p :: P, w :: vs, 0, m, nd, h1, h2, hk => by
    simp at h1 h2; subst h1; subst h2
    show bindC kindOf ((p, w) :: P.zip vs) m p = _
    unfold bindC
    rw [bindC_out fun v hv => (List.nodup_cons.mp nd).1 (List.of_mem_zip hv).1, if_neg hk]
    simp
  | p :: P, w :: vs, i + 1, m, nd, h1, h2, hk => by
    show bindC kindOf ((p, w) :: P.zip vs) m x = _
    unfold bindC
    exact bindC_get (i := i) (List.nodup_cons.mp nd).2 (by simpa using h1) (by simpa using h2) hk
def start (N : List Str) (vs : List V) : St := vs.map some ++ List.replicate (N.length - vs.length) none
def cxOf (CX : CXT) (P : Program) (w : World) (K : PySem.W.Frag) (mg : Str → Option Value) (base : Heap) (N : List Str) (qual : Str) (scope : Scope) (f : Addr) (cd : Value) (A : Around) (outer : List Env) (s : Shared) (H : Hp) (E : XK) : Cx where
  prog := P
  w := w
  K := K
  mg := mg
  base := base
  A := A.deeper (envOfC qual scope s.heap.objs.size f cd)
  N := N
  s₀ := s
  H₀ := H
  env := envOfC qual scope s.heap.objs.size f cd
  outer := outer
  stack := envOfC qual scope s.heap.objs.size f cd :: outer
  ex := []
  calm := true
  fn := fun _ => true
  pn := []
  xe := fun e s' => wpAny (model P w) (A.deeper (envOfC qual scope s.heap.objs.size f cd)) (leaving (envOfC qual scope s.heap.objs.size f cd) e) (fun _ s'' => CX outer H s E e s'') (fun e' s'' => CX outer H s E e' s'') s'
theorem cell_has {sc : Scope} {n : Nat} {x : Str} (h : sc.names.lookup x = some .cell) : ∃ c, (cellsFrom n sc.names []).lookup x = some c := by
  have q := PySem.W.cellsFrom_some sc.names n [] (.inl h)
  exact Option.isSome_iff_exists.mp q
theorem inv_start {CX : CXT} {P : Program} {w : World} {K : PySem.W.Frag} {mg : Str → Option Value} {base : Heap} {N ps : List Str} {qual : Str} {scope : Scope} {f : Addr} {cd : Value} {A : Around} {outer : List Env} {s s1 : Shared} {H : Hp} {E : XK} {us : List Value} {vs : List V}
    (S : FnScope N ps scope) (hd : A.handled = none) (e0 : Env0 P w K mg base A outer s H) (hl : vs.length = ps.length) (r : Vals vs us)
    (x : InCallC s s.heap.objs.size (bindL (envOfC qual scope s.heap.objs.size f cd).kindOf (ps.zip us) fun _ => none) (cellsFrom (s.heap.objs.size + 1) scope.names []) (bindC (envOfC qual scope s.heap.objs.size f cd).kindOf (ps.zip us) fun _ => none) s1) :
    Inv (cxOf CX P w K mg base N qual scope f cd A outer s H E) [] (start N vs) H s1 := by
  have hpl : ps.length ≤ N.length := by have := congrArg List.length S.pre; rw [List.length_take] at this; omega
  obtain ⟨h1, tk, rfl, hk⟩ := x.done
  have noA : ∀ b : Addr, b ∉ (cxOf CX P w K mg base N qual scope f cd A outer s H E).ex := fun b z => absurd (show b ∈ ([] : List Addr) from z) (by simp)
  refine ⟨⟨e0.mod, S.kind, rfl, rfl, Nat.le_refl _, fun y z c h1 h2 => ?_, fun y hy => ?_, fun y c _ h => ?_, fun _ => hd, Around.frames_deeper e0.frames, .inr ⟨rfl, rfl⟩, fun b z => absurd z (noA b), e0.bs, e0.bsz, fun b _ _ => noA b, fun b z => absurd z (noA b), e0.funs, e0.frf⟩,
    rfl, e0.bare, Un.kept hk, ⟨_, x.toInCall.ns, fun i y v h1 h2 h3 => ?_⟩, fun y c h => ⟨_, x.cell y c h⟩, e0.hok.fresh (Nat.le_refl _), fun y c h => ?_, fun p hp => absurd (show p ∈ ([] : List (Addr × Obj)) from hp) (by simp), e0.hok.kept hk, ?_⟩
  · exact name_of_addr x.apart (PySem.mem_of_lookup h1) (PySem.mem_of_lookup h2)
  · have hy : scope.names.lookup y = some .cell ∨ scope.names.lookup y = some .free := hy
    rcases hy with hy | hy
    · exact cell_has hy
    · exact absurd rfl (S.nofree _ (PySem.mem_of_lookup hy))
  · exact Nat.le_of_lt (x.above y c (PySem.mem_of_lookup h))
  · have hi : i < vs.length := by
      unfold start at h2
      by_cases hi : i < vs.length
      · exact hi
      · rw [List.getElem?_append_right (by simpa using hi)] at h2
        rw [List.getElem?_replicate] at h2
        split at h2 <;> cases h2
    have ha : vs[i]? = some v := by
      unfold start at h2
      rw [List.getElem?_append_left (by simpa using hi), List.getElem?_map] at h2
      cases e : vs[i]? with
      | none => rw [e] at h2; cases h2
      | some a => rw [e] at h2; cases h2; rfl
    obtain ⟨u, hu, rv⟩ := r.get ha
    have hp : ps[i]? = some y := by
      rw [← S.pre, List.getElem?_take_of_lt (by omega)]; exact h1
    have ndP : ps.Nodup := by rw [← S.pre]; exact S.nd.sublist (List.take_sublist _ _)
    refine ⟨u, rv, ?_⟩
    rcases S.par y (List.mem_of_getElem? hp) with k | k
    · exact .inl ⟨k, bindL_get ndP hp hu k⟩
    · obtain ⟨c, e⟩ := cell_has (n := s.heap.objs.size + 1) k
      refine .inr ⟨.inl k, c, e, ?_⟩
      have q := x.cell y c e
      rw [bindC_get ndP hp hu (by show scope.names.lookup y ≠ _; rw [k]; decide)] at q
      exact q
  · exact e0.hok.fresh (Nat.le_of_lt (x.above y c (PySem.mem_of_lookup h)))
  · unfold start
    show _ = N.length
    rw [List.length_append, List.length_map, List.length_replicate]
    omega
theorem fn_of {CX : CXT} {P : Program} {w : World} {K : PySem.W.Frag} {mg : Str → Option Value} {base : Heap} {k : Nat} {f : Addr} {name qual : Str} {params : Arguments} {body : List Stmt} {scope : Scope} {dV kV doc pm cdv ct oc : Value} {an od : Option Addr}
    {osl : Array (Option Value)} {N ps : List Str} {sp : Sp} (lk : K.lookup f = some ⟨oc, od, .func (PySem.W.fnOf name qual params body scope dV kV doc pm an cdv ct), osl⟩) (hcd : PySem.W.codeIn K cdv qual = true) (S : FnScope N ps scope)
    (len : ∀ vs H Q E, sp vs H Q E → vs.length = ps.length)
    (hbody : ∀ (A : Around) (outer : List Env) (s : Shared) (H : Hp) (vs : List V) (Q : VK) (E : XK), Room k (A.deeper (envOfC qual scope s.heap.objs.size f cdv)) → sp vs H Q E →
      ∃ t, PSs (cxOf CX P w K mg base N qual scope f cdv A outer s H E) body t ∧ t { nx := fun _ H' => Q .non H', rt := Q } (start N vs) H) :
    FnOk P w K mg base CX (k + 1) f (PySem.W.fnOf name qual params body scope dV kV doc pm an cdv ct) ps sp := by
  refine ⟨len, fun A outer s H args us vs Q E hr e0 hb r hsp => ?_⟩
  have hl := len _ _ _ _ hsp
  have KX : K.In s.heap := e0.mod.kin.keeps fun b o e => (e0.bs b o e).1
  have lim : s.heap.NoLimit := e0.mod.nolimit.keeps fun b o e => (e0.bs b o e).1
  have hkind : ∀ y ∈ ps.zip us, scope.names.lookup y.1 = some .local ∨ (scope.names.lookup y.1 = some .cell ∧ ((cellsFrom (s.heap.objs.size + 1) scope.names []).lookup y.1).isSome = true) := fun ⟨n, v⟩ hy => by
    rcases S.par n (List.of_mem_zip hy).1 with q | q
    · exact .inl q
    · exact .inr ⟨q, PySem.W.cellsFrom_some _ _ _ (.inl q)⟩
  refine codeAny_call_function hr.depth (KX _ _ lk) rfl S.co S.gen rfl (PySem.W.codeRec_of KX hcd) (hb _ _ _ _ ?_)
  refine wpAny_newFunctionEnv_cells S.kind hkind fun env he s1 x => ?_
  subst he
  refine ⟨lim.keeps x.toInCall.keep, codeAny_func ?_⟩
  obtain ⟨t, ht, hq⟩ := hbody A outer s H vs Q E (hr.deeper _) hsp
  have I : Inv (cxOf CX P w K mg base N qual scope f cdv A outer s H E) [] (start N vs) H s1 := inv_start S hr.hd e0 hl r x
  refine wpAny_mono (ht [] s1 (start N vs) H _ I hq) (fun fl s' hs => ?_) fun e s' hs => hs
  have fin : ∀ {σ' : St} {H' : Hp} {v : V} {u : Value}, Inv (cxOf CX P w K mg base N qual scope f cdv A outer s H E) [] σ' H' s' → RelV v u → Q v H' → CE outer P w H s Q u s' :=
    fun {σ' H' v u} J rv q => ⟨v, H', J.os, J.bare, J.base, J.hok, rv, q⟩
  cases fl with
  | ret u =>
    obtain ⟨v, σ', H', J, rv, q⟩ := hs
    exact fin J rv q
  | next =>
    obtain ⟨σ', H', J, q⟩ := hs
    exact fin (v := V.non) (u := Value.none) J rfl q
  | brk =>
    obtain ⟨_, _, _, q⟩ := hs
    exact False.elim q
  | cont =>
    obtain ⟨_, _, _, q⟩ := hs
    exact False.elim q
end L2
namespace L2
open PySem PySem.Spec PyProof.Rows
section
variable {X : Cx} {x : Str} {p pos : Pos} {e : Expr} {es : List Expr} {t : TA} {id T : String} {r : List V → Hp → VK → Prop}
def tCB (r : List V → Hp → VK → Prop) (t : TA) : TE := fun σ H Q => t σ H fun vs H1 => r vs H1 Q
theorem pe_callB (hc : CallR X (.builtin id) r) (hg : Gl X x) (hm : X.mg x = none) (hv : bootBuiltins x = some (.builtin id)) (ha : PA X (e :: es) t) (hn : x ≠ "__name__" := by decide) (hdb : (x == ("__debug__" : Str)) = false := by decide)
    (he : starEach (e :: es) X.env = (false, eval e X.env) :: starEach es X.env := by rfl) (hpl : (backTo pos (starEach es X.env)).any (·.1) = false := by rfl) : PE X (.Call (.Name x p) (e :: es) [] pos) (tCB r t) := by
  intro pins s σ H Q I h
  refine wpAny_Call_Name_kw (ld_blt I hg hm hv ?_ hn hdb)
  exact PyProof.Rows.callWith_builtin1 (thn (ha pos pins s σ H _ I h) fun us s1 ⟨vs, H1, I1, r1, q1⟩ => hc pins s1 σ H1 vs us Q I1 r1 q1) he hpl
theorem pe_callTy (hc : CallR X (.type T) r) (hg : Gl X x) (hm : X.mg x = none) (hv : bootBuiltins x = some (.type T)) (ha : PA X (e :: es) t) (hn : x ≠ "__name__" := by decide) (hdb : (x == ("__debug__" : Str)) = false := by decide)
    (he : starEach (e :: es) X.env = (false, eval e X.env) :: starEach es X.env := by rfl) (hpl : (backTo pos (starEach es X.env)).any (·.1) = false := by rfl) : PE X (.Call (.Name x p) (e :: es) [] pos) (tCB r t) := by
  intro pins s σ H Q I h
  refine wpAny_Call_Name_kw (ld_blt I hg hm hv ?_ hn hdb)
  exact PyProof.Rows.callWith_type1 (thn (ha pos pins s σ H _ I h) fun us s1 ⟨vs, H1, I1, r1, q1⟩ => hc pins s1 σ H1 vs us Q I1 r1 q1) he hpl
end
end L2
namespace HT
open PySem PyProof.Rows
section
open PySem.SeqAt
open PySem.AutoSeq1 (wpAny_loadPart')
open PySem.MeetsSeq PySem.MeetsSeq2 PySem.MeetsSeq3
end
section
variable {prog : Program} {w : World} {A : Around} {E : Value → Shared → Prop} {s : Shared}
def sIx (n d : Nat) : Option Int → Nat
  | none => d
  | some v => if v < 0 then (v + (n : Int)).toNat else min v.toNat n
theorem sIx_none (n d : Nat) : sIx n d none = d := rfl
theorem sIx_nat (n d k : Nat) : sIx n d (some (k : Int)) = min k n := by
  show (if (k : Int) < 0 then ((k : Int) + (n : Int)).toNat else min (k : Int).toNat n) = min k n
  rw [if_neg (by omega), Int.toNat_natCast]
end
end HT
namespace L2
open PySem PySem.Spec PyProof.Rows
abbrev TO := St → Hp → (Option Int → Hp → Prop) → Prop
def PO (X : Cx) (e : Option Expr) (t : TO) : Prop :=
  ∀ (pins : List (Addr × Obj)) (s : Shared) (σ : St) (H : Hp) (Q : Option Int → Hp → Prop), Inv X pins σ H s → t σ H Q →
    wpAny (model X.prog X.w) X.A (evalPart e X.env) (fun u s' => ∃ o H', Inv X pins σ H' s' ∧ IsPart u o ∧ Q o H') X.xe s
def tNoPart : TO := fun _ H Q => Q none H
def tPart (t : TE) : TO := fun σ H Q => t σ H fun x H1 => ∃ i, x = .int i ∧ Q (some i) H1
theorem intsAre_of {ns : List Int} : ∀ {us : List Value}, Vals (ns.map V.int) us → IntsAre us ns := by
  induction ns with
  | nil => intro us r; rw [List.map_nil] at r; cases r; exact .nil
  | cons n ns ih =>
    intro us r
    rw [List.map_cons] at r
    cases r with
    | cons r1 r2 =>
      obtain ⟨t, e⟩ := r1
      subst e
      exact .cons n t (ih r2)
section
variable {X : Cx} {e : Expr} {te : TE} {lo hi : Option Expr} {tl th : TO} {pos p2 : Pos}
theorem po_none : PO X none tNoPart := by
  intro pins s σ H Q I h
  rw [evalPart_none]
  exact wpAny_pure ⟨none, H, I, .none, h⟩
theorem po_some (h : PE X e te) : PO X (some e) (tPart te) := by
  intro pins s σ H Q I hw
  rw [evalPart_some]
  refine thn (h pins s σ H _ I hw) fun u s1 ⟨x, H1, I1, r1, q1⟩ => ?_
  obtain ⟨i, rfl, q⟩ := q1
  obtain ⟨t, rfl⟩ := r1
  exact ⟨some i, H1, I1, .int i t, q⟩
def SlR (X : Cx) (r : V → Option Int → Option Int → Hp → VK → Prop) : Prop :=
  ∀ (pins : List (Addr × Obj)) (s : Shared) (σ : St) (H : Hp) (x : V) (v vl vu : Value) (lo hi : Option Int) (sl : Addr) (Q : VK), Inv X pins σ H s → RelV x v → s.heap.IsSliceOf sl vl vu .none → IsPart vl lo → IsPart vu hi → r x lo hi H Q →
    ∃ T id, typeLookup (.type T) "__getitem__" = pure (some (.builtin id)) ∧ s.TypeIs v T ∧ wpAny (model X.prog X.w) X.A (getItem v (.ref sl)) (EP X pins σ Q) X.xe s
theorem SlR.or {r r' : V → Option Int → Option Int → Hp → VK → Prop} (h : SlR X r) (h' : SlR X r') : SlR X (fun x lo hi H Q => r x lo hi H Q ∨ r' x lo hi H Q) := by
  intro pins s σ H x v vl vu lo hi sl Q I rx hs pl pu q
  rcases q with q | q
  · exact h pins s σ H x v vl vu lo hi sl Q I rx hs pl pu q
  · exact h' pins s σ H x v vl vu lo hi sl Q I rx hs pl pu q
def tSl (r : V → Option Int → Option Int → Hp → VK → Prop) (te : TE) (tl th : TO) : TE := fun σ H Q => te σ H fun x H1 => tl σ H1 fun l H2 => th σ H2 fun u H3 => r x l u H3 Q
theorem pe_slice {r : V → Option Int → Option Int → Hp → VK → Prop} (hr : SlR X r) (he : PE X e te) (hl : PO X lo tl) (hu : PO X hi th) : PE X (.Subscript e (.Slice lo hi none p2) pos) (tSl r te tl th) := by
  intro pins s σ H Q I h
  refine Subscript_ (thn (he pins s σ H _ I h) fun v s1 ⟨x, H1, I1, r1, q1⟩ => ?_)
  refine wpAny_Slice (thn (hl pins s1 σ H1 _ I1 q1) fun vl s2 ⟨l, H2, I2, pl, q2⟩ => thn (hu pins s2 σ H2 _ I2 q2) fun vu s3 ⟨u, H3, I3, pu, q3⟩ => ?_)
  rw [evalPart_none]
  refine wpAny_pure ?_
  have I4 : Inv X pins σ H3 { s3 with heap := s3.heap.push { cls := .type "slice", data := .fields #[vl, vu, .none] } } := I3.kept (t' := s3.toks) fun b ob q => Heap.get?_push_of_some _ q
  obtain ⟨T, id, hT, ht, hg⟩ := hr pins { s3 with heap := s3.heap.push { cls := .type "slice", data := .fields #[vl, vu, .none] } } σ H3 x v vl vu l u s3.heap.objs.size Q I4 r1 (Heap.IsSliceOf.new ..) pl pu q3
  show wpAny (model X.prog X.w) X.A (subscriptTail e (.Slice lo hi none p2) v (.ref s3.heap.objs.size)) (EP X pins σ Q) X.xe { s3 with heap := s3.heap.push { cls := .type "slice", data := .fields #[vl, vu, .none] } }
  exact tail_any (ops := [.ref s3.heap.objs.size, v]) ht hT hg (by with_unfolding_all rfl)
def cutV (xs : List V) (lo hi : Option Int) : List V := (xs.drop (HT.sIx xs.length 0 lo)).take (HT.sIx xs.length xs.length hi - HT.sIx xs.length 0 lo)
theorem cutV_length (xs : List V) (lo hi : Option Int) : (cutV xs lo hi).length ≤ xs.length := by
  unfold cutV
  rw [List.length_take, List.length_drop]
  omega
end
end L2
namespace L2
open PySem PySem.Spec PyProof.Rows
def ixN (n : Nat) (i : Int) : Option Nat := if 0 ≤ i then (if i < n then some i.toNat else none) else if -(n : Int) ≤ i then some (i + n).toNat else none
def atI {α : Type} (xs : List α) (i : Int) : Option α := (ixN xs.length i).bind fun j => xs[j]?
theorem ixN_seq {n : Nat} {i : Int} {j : Nat} (h : ixN n i = some j) : seqIndex? i n = some j ∧ j < n ∧ -(n : Int) ≤ i ∧ i < n := by
  unfold ixN at h
  by_cases h0 : 0 ≤ i
  · rw [if_pos h0] at h
    by_cases h1 : i < n
    · rw [if_pos h1] at h
      have e : i.toNat = j := Option.some.inj h
      exact ⟨by rw [seqIndex_of h0 h1, e], by omega, by omega, h1⟩
    · rw [if_neg h1] at h; cases h
  · rw [if_neg h0] at h
    by_cases h1 : -(n : Int) ≤ i
    · rw [if_pos h1] at h
      have e : (i + n).toNat = j := Option.some.inj h
      exact ⟨by rw [seqIndex_neg (by omega) h1, e], by omega, h1, by omega⟩
    · rw [if_neg h1] at h; cases h
theorem atI_get {α : Type} {xs : List α} {i : Int} {v : α} (h : atI xs i = some v) : ∃ j, seqIndex? i xs.length = some j ∧ xs[j]? = some v ∧ j < xs.length ∧ -(xs.length : Int) ≤ i ∧ i < xs.length := by
  unfold atI at h
  cases e : ixN xs.length i with
  | none => rw [e] at h; cases h
  | some j =>
    rw [e] at h
    obtain ⟨h1, h2, h3, h4⟩ := ixN_seq e
    exact ⟨j, h1, h, h2, h3, h4⟩
theorem atI_nat {α : Type} {xs : List α} {j : Nat} {v : α} (h : xs[j]? = some v) : atI xs (j : Int) = some v := by
  have hj : j < xs.length := (List.getElem?_eq_some_iff.mp h).1
  have e : ixN xs.length (j : Int) = some j := by
    unfold ixN
    rw [if_pos (by omega), if_pos (by omega)]; simp
  unfold atI; rw [e]; exact h
def PlainIx (b : Expr) : Prop := ∀ o i, subscripted b false o i = operate [o, i] (getItem o i)
def IxR (X : Cx) (r : R2) : Prop :=
  ∀ (value slice : Expr) (pins : List (Addr × Obj)) (s : Shared) (σ : St) (H : Hp) (x y : V) (v u : Value) (Q : VK), Inv X pins σ H s → RelV x v → RelV y u → r x y H Q →
    subscripted slice false v u = operate [v, u] (getItem v u) → wpAny (model X.prog X.w) X.A (subscriptTail value slice v u) (EP X pins σ Q) X.xe s
def MtR (X : Cx) (id : String) (r : V → List V → Hp → VK → Prop) : Prop :=
  ∀ (pins : List (Addr × Obj)) (s : Shared) (σ : St) (H : Hp) (x : V) (xs : List V) (v : Value) (us : List Value) (Q : VK), Inv X pins σ H s → RelV x v → Vals xs us → r x xs H Q →
    wpAny (model X.prog X.w) X.A (call (.builtin id) (v :: us)) (EP X pins σ Q) X.xe s
section
variable {X : Cx} {a b : Expr} {ta tb : TE} {pos : Pos}
theorem IxR.or {r r' : R2} (h : IxR X r) (h' : IxR X r') : IxR X (fun x y H Q => r x y H Q ∨ r' x y H Q) := by
  intro value slice pins s σ H x y v u Q I rx ry q hs
  rcases q with q | q
  · exact h value slice pins s σ H x y v u Q I rx ry q hs
  · exact h' value slice pins s σ H x y v u Q I rx ry q hs
theorem MtR.or {id : String} {r r' : V → List V → Hp → VK → Prop} (h : MtR X id r) (h' : MtR X id r') : MtR X id (fun x xs H Q => r x xs H Q ∨ r' x xs H Q) := by
  intro pins s σ H x xs v us Q I rx rs q
  rcases q with q | q
  · exact h pins s σ H x xs v us Q I rx rs q
  · exact h' pins s σ H x xs v us Q I rx rs q
theorem pe_ix {r : R2} (hr : IxR X r) (ha : PE X a ta) (hb : PE X b tb) (hs : PlainIx b) : PE X (.Subscript a b pos) (tOp r ta tb) := by
  intro pins s σ H Q I h
  exact Subscript_ (binT ha hb I h fun v u s2 x y H2 I2 rx ry q => hr a b pins s2 σ H2 x y v u Q I2 rx ry q (hs _ _))
def rIxL (K : PySem.W.Frag) : R2 := fun x y H Q => ∃ p xs i v, x = .ref p ∧ y = .int i ∧ SqL K H p xs ∧ atI xs i = some v ∧ Q v H
def rIxT (K : PySem.W.Frag) : R2 := fun x y H Q => ∃ p xs i v, x = .ref p ∧ y = .int i ∧ SqT K H p xs ∧ atI xs i = some v ∧ Q v H
theorem ix_list : IxR X (rIxL X.K) := by
  intro value slice pins s σ H x y v u Q I rx ry h hs
  obtain ⟨p, xs, i, z, rfl, rfl, hq, he, q⟩ := h
  cases rx
  obtain ⟨t, rfl⟩ := ry
  obtain ⟨its, r, pl, hz⟩ := I.list hq
  obtain ⟨j, h1, h2, h3, h4, h5⟩ := atI_get he
  obtain ⟨w, ew, rw'⟩ := r.get h2
  have hl := r.length
  have hn := line63
  have fin : EP X pins σ Q w s := ⟨z, H, I, rw', q⟩
  by_cases h0 : 0 ≤ i
  · have hj : i.toNat = j := by
      rw [seqIndex_of h0 h5] at h1
      exact Option.some.inj h1
    exact item_listR pl.isList h0 (by omega) (by rw [hj]; simpa using ew) fin hs
  · have hj : (i + (its.toArray.size : Int)).toNat = j := by
      rw [seqIndex_neg (by omega) h4] at h1
      rw [List.size_toArray, ← hl]
      exact Option.some.inj h1
    exact subscriptTail_builtinR (x := w) pl.isList.typeIs slot_list_getitem.lookup
      (wpAny_getItem_list_neg (Q := fun r s' => r = w ∧ EP X pins σ Q r s') pl.isList (by omega) (by rw [List.size_toArray] <;> omega) (by omega) (by rw [hj]; simpa using ew) ⟨rfl, fin⟩) hs
theorem ix_tup : IxR X (rIxT X.K) := by
  intro value slice pins s σ H x y v u Q I rx ry h hs
  obtain ⟨p, xs, i, z, rfl, rfl, hq, he, q⟩ := h
  cases rx
  obtain ⟨t, rfl⟩ := ry
  obtain ⟨its, r, pl, hz⟩ := I.tuple hq
  obtain ⟨j, h1, h2, h3, h4, h5⟩ := atI_get he
  obtain ⟨w, ew, rw'⟩ := r.get h2
  have hl := r.length
  have hn := line63
  have fin : EP X pins σ Q w s := ⟨z, H, I, rw', q⟩
  exact subscriptTail_builtinR (x := w) pl.typeIs slot_tuple_getitem.lookup
    (getItem_tuple (j := j) (Q := fun r s' => r = w ∧ EP X pins σ Q r s') pl (by omega) (by omega) (by rw [List.size_toArray, ← hl]; exact h1) (by simpa using ew) ⟨rfl, fin⟩) hs
theorem mapSeq_set (its : List Value) (n j : Nat) (u : Value) : Obj.mapSeq (·.setIfInBounds j u) { cls := .type "list", data := .seq its.toArray n } = { cls := .type "list", data := .seq (its.set j u).toArray n } := by
  simp [Obj.mapSeq]
theorem Inv.lst {pins : List (Addr × Obj)} {σ : St} {H : Hp} {s : Shared} {p : Addr} {xs : List V} (I : Inv X pins σ H s) (h : H p = some (.lst xs)) :
    ∃ (its : List Value) (n : Nat), Vals xs its ∧ s.heap.get? p = some { cls := .type "list", data := .seq its.toArray n } ∧ xs.length ≤ sizeLine := by
  obtain ⟨z, its, n, r, e⟩ := I.hok p _ h
  exact ⟨its, n, r, e, z⟩
theorem Inv.lstUpd {pins : List (Addr × Obj)} {σ : St} {H : Hp} {s : Shared} {p : Addr} {xs ys : List V} {its its' : List Value} {n n' : Nat} {f : Obj → Obj} (I : Inv X pins σ H s) (h : H p = some (.lst xs))
    (ho : s.heap.get? p = some { cls := .type "list", data := .seq its.toArray n }) (hf : f { cls := .type "list", data := .seq its.toArray n } = { cls := .type "list", data := .seq its'.toArray n' }) (r : Vals ys its') (hz : ys.length ≤ sizeLine) (t : Nat) :
    Inv X pins σ (upd H p (.lst ys)) { s with heap := s.heap.update p f, toks := t } := by
  have e : (s.heap.update p f).get? p = some { cls := .type "list", data := .seq its'.toArray n' } := by
    rw [Heap.get?_update_self f ho (by rw [hf] <;> rfl), hf]
  refine I.write (x := p) (e := p) (by rw [h]; trivial) (.inl rfl) (fun b u hb q => (Heap.get?_update_other _ _ (Ne.symm hb)).trans q) ⟨_, e⟩ ?_
  exact ⟨hz, its', n', r, e⟩
def rSetL : V → V → V → Hp → (Hp → Prop) → Prop := fun o i v H Q => ∃ p xs k j, o = .ref p ∧ i = .int k ∧ H p = some (.lst xs) ∧ ixN xs.length k = some j ∧ Q (upd H p (.lst (xs.set j v)))
theorem set_list : PSet X rSetL := by
  intro pins s σ H o i v ov iv u Q I ro ri rv h
  obtain ⟨p, xs, k, j, rfl, rfl, hp, hj, q⟩ := h
  cases ro
  obtain ⟨t, rfl⟩ := ri
  obtain ⟨its, n, r, ho, hz⟩ := I.lst hp
  obtain ⟨h1, h2, h3, h4⟩ := ixN_seq hj
  have hl := r.length
  have hn := line63
  have I' : Inv X pins σ (upd H p (.lst (xs.set j v))) { s with heap := s.heap.update p (Obj.mapSeq (·.setIfInBounds j u)) } :=
    I.lstUpd hp ho (mapSeq_set its n j u) (r.set rv j) (by rw [List.length_set]; exact hz) s.toks
  by_cases h0 : 0 ≤ k
  · have hk : k.toNat = j := by
      rw [seqIndex_of h0 h4] at h1
      exact Option.some.inj h1
    exact PySem.W.ki_setAt ho h0 (by omega) (by rw [List.size_toArray, ← hl]; exact h4) (by rw [hk]; exact ⟨_, I', q⟩)
  · have hk : (k + (its.toArray.size : Int)).toNat = j := by
      rw [seqIndex_neg (by omega) h3] at h1
      rw [List.size_toArray, ← hl]
      exact Option.some.inj h1
    exact PySem.W.ki_setBack ho (by omega) (by rw [List.size_toArray, ← hl]; exact h3) (by omega) (by rw [hk]; exact ⟨_, I', q⟩)
theorem slice_bounds (lo hi : Option Int) (n : Nat) : (sliceBounds lo hi none n).1 = ((HT.sIx n 0 lo : Nat) : Int) ∧ (sliceBounds lo hi none n).2.1 = ((HT.sIx n n hi : Nat) : Int) ∧ (sliceBounds lo hi none n).2.2 = 1 := by
  refine ⟨?_, ?_, rfl⟩
  · cases lo with
    | none => simp [sliceBounds, HT.sIx]
    | some i =>
      simp only [sliceBounds, HT.sIx, Option.getD_none, show (1 : Int) > 0 by decide, if_true]
      by_cases h : i < 0
      · simp only [h, if_true] <;> omega
      · simp only [h, if_false] <;> omega
  · cases hi with
    | none => simp [sliceBounds, HT.sIx]
    | some i =>
      simp only [sliceBounds, HT.sIx, Option.getD_none, show (1 : Int) > 0 by decide, if_true]
      by_cases h : i < 0
      · simp only [h, if_true] <;> omega
      · simp only [h, if_false] <;> omega
theorem slicePick_cut (its : List Value) (lo hi : Option Int) : slicePick its.toArray lo hi none = ((its.drop (HT.sIx its.length 0 lo)).take (HT.sIx its.length its.length hi - HT.sIx its.length 0 lo)).toArray := by
  obtain ⟨h1, h2, h3⟩ := slice_bounds lo hi its.toArray.size
  unfold slicePick
  rw [h1, h2, h3]
  simp only [sliceRange_one, pick_run, List.size_toArray] <;> rfl
def rSlL (K : PySem.W.Frag) : V → Option Int → Option Int → Hp → VK → Prop := fun x lo hi H Q => ∃ a xs, x = .ref a ∧ SqL K H a xs ∧ ∀ p, H p = none → Q (.ref p) (upd H p (.lst (cutV xs lo hi)))
theorem sl_list : SlR X (rSlL X.K) := by
  intro pins s σ H x v vl vu lo hi sl Q I rx hs pl pu h
  obtain ⟨a, xs, rfl, hx, q⟩ := h
  cases rx
  obtain ⟨its, r, ht, hz⟩ := I.list hx
  have hlen := r.length
  refine ⟨"list", _, slot_list_getitem.lookup, ht.isList.typeIs, ?_⟩
  refine wpAny_getItem_list_slice ht.isList hs pl pu .none (by simp) ?_ (by rw [List.size_toArray] <;> omega)
  rw [slicePick_cut, ← hlen]
  refine ⟨.ref s.heap.objs.size, _, I.laid (t' := s.toks) (o := .lst (cutV xs lo hi)) (fun b ob q => Heap.get?_push_of_some _ q) (Nat.le_refl _) ?_, rfl, q _ (I.hok.fresh (Nat.le_refl _))⟩
  exact ⟨Nat.le_trans (cutV_length xs lo hi) hz, _, 0, (r.drop (HT.sIx xs.length 0 lo)).take (HT.sIx xs.length xs.length hi - HT.sIx xs.length 0 lo), Heap.get?_push_size _ rfl⟩
def flatV : V → Bool
  | .non => true
  | .bl _ => true
  | .int _ => true
  | .str _ => true
  | _ => false
def eqV : V → V → Bool
  | .non, .non => true
  | .bl a, .bl b => a == b
  | .bl a, .int b => (if a then 1 else 0) == b
  | .int a, .bl b => a == (if b then 1 else 0)
  | .int a, .int b => a == b
  | .str a, .str b => a == b
  | _, _ => false
theorem eqAt_V {A : Around} {s : Shared} {y x : V} {u v : Value} (ry : RelV y u) (rx : RelV x v) (fy : flatV y = true) (fx : flatV x = true) : SeqAt.EqAt A s u v (eqV y x) := by
  cases y with
  | non =>
    cases ry
    cases x with
    | non => cases rx; exact SeqAt.EqAt.same _
    | bl b => cases rx; exact SeqAt.EqAt.none_bool b
    | int b => obtain ⟨t, rfl⟩ := rx; exact SeqAt.EqAt.none_int b t
    | str b => obtain ⟨t, rfl⟩ := rx; exact SeqAt.EqAt.none_str b t
    | _ => exact absurd (show false = true from fx) Bool.false_ne_true
  | bl a =>
    cases ry
    cases x with
    | non => cases rx; exact SeqAt.EqAt.bool_none a
    | bl b => cases rx; exact SeqAt.EqAt.bool_bool a b
    | int b => obtain ⟨t, rfl⟩ := rx; exact SeqAt.EqAt.bool_int a b t
    | str b => obtain ⟨t, rfl⟩ := rx; exact SeqAt.EqAt.bool_str a b t
    | _ => exact absurd (show false = true from fx) Bool.false_ne_true
  | int a =>
    obtain ⟨t', rfl⟩ := ry
    cases x with
    | non => cases rx; exact SeqAt.EqAt.int_none a t'
    | bl b => cases rx; exact SeqAt.EqAt.int_bool a t' b
    | int b => obtain ⟨t, rfl⟩ := rx; exact SeqAt.EqAt.int_int a t' b t
    | str b => obtain ⟨t, rfl⟩ := rx; exact SeqAt.EqAt.int_str a t' b t
    | _ => exact absurd (show false = true from fx) Bool.false_ne_true
  | str a =>
    obtain ⟨t', rfl⟩ := ry
    cases x with
    | non => cases rx; exact SeqAt.EqAt.str_none a t'
    | bl b => cases rx; exact SeqAt.EqAt.str_bool a t' b
    | int b => obtain ⟨t, rfl⟩ := rx; exact SeqAt.EqAt.str_int a t' b t
    | str b => obtain ⟨t, rfl⟩ := rx; exact SeqAt.EqAt.str_str a t' b t
    | _ => exact absurd (show false = true from fx) Bool.false_ne_true
  | _ => exact absurd (show false = true from fy) Bool.false_ne_true
theorem call_len_seq : CallR X (.builtin "len") (fun xs H Q => ∃ p ys, xs = [.ref p] ∧ (SqL X.K H p ys ∨ SqT X.K H p ys) ∧ Q (.int ys.length) H) := by
  intro pins s σ H xs us Q I r h
  obtain ⟨p, ys, rfl, hq, q⟩ := h
  obtain ⟨u, rfl, rx⟩ := vals1 r
  cases rx
  have hn := line63
  rcases hq with hq | hq
  · obtain ⟨its, r', pl, hz⟩ := I.list hq
    have hlen := r'.length
    exact Calls.call_len_list pl.isList (by simp only [List.size_toArray] <;> omega) ⟨.int ys.length, H, I.tok _, ⟨s.toks + 1, by rw [List.size_toArray, hlen]⟩, q⟩
  · obtain ⟨its, r', pl, hz⟩ := I.tuple hq
    have hlen := r'.length
    exact len_tuple pl (by simp only [List.size_toArray] <;> omega) ⟨.int ys.length, H, I.tok _, ⟨s.toks + 1, by rw [List.size_toArray, hlen]⟩, q⟩
theorem CallR.or {f : Value} {r r' : List V → Hp → VK → Prop} (h : CallR X f r) (h' : CallR X f r') : CallR X f (fun xs H Q => r xs H Q ∨ r' xs H Q) := by
  intro pins s σ H xs us Q I rs q
  rcases q with q | q
  · exact h pins s σ H xs us Q I rs q
  · exact h' pins s σ H xs us Q I rs q
theorem call_list_of : CallR X (.type "list") (fun xs H Q => ∃ p ys, xs = [.ref p] ∧ (SqL X.K H p ys ∨ SqT X.K H p ys) ∧ ∀ l, H l = none → Q (.ref l) (upd H l (.lst ys))) := by
  intro pins s σ H xs us Q I r h
  obtain ⟨p, ys, rfl, hq, q⟩ := h
  obtain ⟨u, rfl, rx⟩ := vals1 r
  cases rx
  have fin : ∀ (its : List Value), Vals ys its → ys.length ≤ sizeLine → ∀ (h' : Heap) (c' : Nat), (∀ b o', s.heap.get? b = some o' → h'.get? b = some o') →
      h'.get? s.heap.objs.size = some { cls := .type "list", dict := none, data := .seq its.toArray c', slots := #[] } → EP X pins σ Q (.ref s.heap.objs.size) { s with heap := h' } := fun its r' hz h' c' kp e =>
    ⟨.ref s.heap.objs.size, _, I.laid (t' := s.toks) kp (Nat.le_refl _) (show ObjOk X.prog X.w _ h' _ (.lst ys) from ⟨hz, its, c', r', e⟩), rfl, q _ (I.hok.fresh (Nat.le_refl _))⟩
  rcases hq with hq | hq
  · obtain ⟨its, r', pl, hz⟩ := I.list hq
    have hlen := r'.length
    obtain ⟨o, ho, hc, n, hd⟩ := pl.isList
    exact call_list_seq p (.inl rfl) ho hc hd (fun h' c' kp e => fin its r' hz h' c' kp e) (by simp only [List.size_toArray] <;> omega)
  · obtain ⟨its, r', pl, hz⟩ := I.tuple hq
    have hlen := r'.length
    obtain ⟨o, ho, hc, n, hd⟩ := pl
    exact call_list_seq p (.inr rfl) ho hc hd (fun h' c' kp e => fin its r' hz h' c' kp e) (by simp only [List.size_toArray] <;> omega)
def tyV (K : PySem.W.Frag) (T : String) (x : V) (H : Hp) : Prop := match x with
  | .str _ => T = "str"
  | .int _ => T = "int"
  | .ref p => (T = "list" ∧ ∃ xs, SqL K H p xs) ∨ (T = "tuple" ∧ ∃ o, K.lookup p = some o ∧ o.cls = .type "tuple" ∧ o.dict = none) ∨
      (T = "dict" ∧ ((∃ kvs, H p = some (.dK kvs)) ∨ ∃ kvs, H p = some (.dT kvs))) ∨ (T = "set" ∧ ∃ S n, H p = some (.set S n))
  | _ => False
theorem tyV_is {pins : List (Addr × Obj)} {σ : St} {H : Hp} {s : Shared} {T : String} {x : V} {v : Value} (I : Inv X pins σ H s) (r : RelV x v) (ty : tyV X.K T x H) :
    s.TypeIs v T ∧ ∀ a, v = .ref a → ∃ ob, s.heap.get? a = some ob ∧ ob.dict = none := by
  cases x with
  | str z =>
    obtain ⟨t, rfl⟩ := r
    cases (show T = "str" from ty)
    exact ⟨typeIs_str s z t, fun _ e => nomatch e⟩
  | int i =>
    obtain ⟨t, rfl⟩ := r
    cases (show T = "int" from ty)
    exact ⟨typeIs_int s i t, fun _ e => nomatch e⟩
  | ref p =>
    cases r
    rcases ty with ⟨rfl, xs, hq⟩ | ⟨rfl, o, hk, hc, hd⟩ | ⟨rfl, hk⟩ | ⟨rfl, S, n, hk⟩
    · obtain ⟨its, _, pl, _⟩ := I.list hq
      refine ⟨pl.isList.typeIs, fun a e => ?_⟩
      cases e
      obtain ⟨o, n, e, c, hd, _⟩ := pl
      exact ⟨o, e, hd⟩
    · refine ⟨⟨o, I.kIn p o hk, hc⟩, fun a e => ?_⟩
      cases e
      exact ⟨o, I.kIn _ o hk, hd⟩
    · have z : ∃ o, s.heap.get? p = some o ∧ o.ExactDict := by
        rcases hk with ⟨kvs, hk⟩ | ⟨kvs, hk⟩
        · obtain ⟨_, _, _, _, o, _, _, e, ex, _⟩ := I.hok p _ hk
          exact ⟨o, e, ex⟩
        · obtain ⟨_, _, _, _, o, _, _, e, ex, _⟩ := I.hok p _ hk
          exact ⟨o, e, ex⟩
      obtain ⟨o, e, ex⟩ := z
      refine ⟨⟨o, e, ex.1⟩, fun a e2 => ?_⟩
      cases e2
      exact ⟨o, e, ex.2.1⟩
    · obtain ⟨o, _, _, _, e, ex, _⟩ := I.hok p _ hk
      refine ⟨⟨o, e, ex.1⟩, fun a e2 => ?_⟩
      cases e2
      exact ⟨o, e, ex.2.1⟩
  | _ => exact False.elim ty
def tBM (K : PySem.W.Frag) (T : String) (r : V → List V → Hp → VK → Prop) (to : TE) (t : TA) : TE := fun σ H Q => to σ H fun x H1 => tyV K T x H1 ∧ t σ H1 fun xs H2 => r x xs H2 Q
variable {o e : Expr} {es : List Expr} {to : TE} {t : TA} {name : Str} {apos cpos : Pos} {T id : String} {r : V → List V → Hp → VK → Prop}
theorem pe_bm (pa : PlainAttrs T) (slot : Slot T name id) (hty : typeOf (.builtin id) = pure (.type "method_descriptor")) (hm : MtR X id r) (ho : PE X o to) (ha : PA X (e :: es) t)
    (hbase : attributeBase o name X.env (eval o X.env) = eval o X.env := by rfl)
    (hfew : ((backTo cpos (starEach (e :: es) X.env)).all (fun x => !x.1) && (backToKw cpos (keywordEach [] X.env)).all (fun x => x.1.isSome)
      && decide ((e :: es).length + ([] : List Keyword).length + (if ([] : List Keyword).isEmpty then 0 else 1) < 30)) = true := by rfl)
    (hline : (apos.endLine == cpos.line) = true := by rfl) (hs : starEach (e :: es) X.env = (false, eval e X.env) :: starEach es X.env := by rfl) (hplain : (backTo cpos (starEach es X.env)).any (·.1) = false := by rfl) :
    PE X (.Call (.Attribute o name apos) (e :: es) [] cpos) (tBM X.K T r to t) := by
  intro pins s σ H Q I h
  refine wpAny_Call_method_late hbase hfew hline rfl (thn (ho pins s σ H _ I h) fun v s1 ⟨x, H1, I1, r1, ty, q1⟩ => ?_)
  obtain ⟨h1, h2⟩ := tyV_is I1 r1 ty
  refine ⟨T, id, pa, slot, hty, h1, h2, ?_⟩
  have hA := ha cpos pins s1 σ H1 _ I1 q1
  rw [hs] at hA ⊢
  refine Calls.callWith_builtin (by show (false || (backTo cpos (starEach es X.env)).any (·.1)) = false; rw [hplain] <;> rfl) (Calls.evalArgs_plain ?_)
  exact thn hA fun us s2 ⟨vs, H2, I2, r2, q2⟩ => hm pins s2 σ H2 x vs v us Q I2 r1 r2 q2
end
end L2
namespace L2
open PySem PySem.Spec PyProof.Rows
def MtM (X : Cx) (id : String) (r : V → List V → Hp → VK → Prop) : Prop :=
  ∀ (pins : List (Addr × Obj)) (s : Shared) (σ : St) (H : Hp) (x : V) (xs : List V) (v : Value) (us : List Value) (Q : VK), Inv X pins σ H s → RelV x v → Vals xs us → r x xs H Q →
    wpAny (model X.prog X.w) X.A (call (.builtin id) (v :: us)) (EP X pins σ Q) X.xe s
theorem Vals.one : ∀ {x : V} {us : List Value}, Vals [x] us → ∃ u, us = [u] ∧ RelV x u
  | _, _, .cons r .nil => ⟨_, rfl, r⟩
theorem Vals.two : ∀ {x y : V} {us : List Value}, Vals [x, y] us → ∃ u v, us = [u, v] ∧ RelV x u ∧ RelV y v
  | _, _, _, .cons r (.cons q .nil) => ⟨_, _, rfl, r, q⟩
theorem Vals.zero : ∀ {us : List Value}, Vals [] us → us = []
  | _, .nil => rfl
theorem Vals.dropLast {xs : List V} {us : List Value} (h : Vals xs us) : Vals xs.dropLast us.dropLast := by
  induction h with
  | nil => exact .nil
  | cons r t ih =>
    cases t with
    | nil => exact .nil
    | cons q t' => exact .cons r ih
theorem Vals.eraseIdx : ∀ {xs : List V} {us : List Value} (i : Nat), Vals xs us → Vals (xs.eraseIdx i) (us.eraseIdx i)
  | _, _, _, .nil => .nil
  | _, _, 0, .cons _ t => t
  | _, _, i + 1, .cons r t => .cons r (Vals.eraseIdx i t)
theorem Vals.reverse {xs : List V} {us : List Value} (h : Vals xs us) : Vals xs.reverse us.reverse := by
  induction h with
  | nil => exact .nil
  | cons r t ih => rw [List.reverse_cons, List.reverse_cons]; exact Vals.append ih (.cons r .nil)
theorem Vals.rep {xs : List V} {us : List Value} (h : Vals xs us) : ∀ k : Nat, Vals (List.replicate k xs).flatten (List.replicate k us).flatten
  | 0 => .nil
  | k + 1 => by
    rw [List.replicate_succ, List.replicate_succ, List.flatten_cons, List.flatten_cons]
    exact Vals.append h (Vals.rep h k)
theorem foldl_rep (its : List Value) : ∀ (k : Nat) (acc : List Value),
    List.foldl (fun x1 x2 => x1 ++ x2) acc.toArray (List.replicate k its.toArray) = (acc ++ (List.replicate k its).flatten).toArray
  | 0, acc => by simp
  | k + 1, acc => by
    have e : acc.toArray ++ its.toArray = (acc ++ its).toArray := by simp
    have e2 : (acc ++ its) ++ (List.replicate k its).flatten = acc ++ (List.replicate (k + 1) its).flatten := by
      rw [List.replicate_succ, List.flatten_cons, List.append_assoc]
    rw [← e2, ← foldl_rep its k (acc ++ its), ← e, List.replicate_succ, List.foldl_cons]
section
variable {X : Cx} {pins : List (Addr × Obj)} {σ : St} {H : Hp} {s : Shared} {l b : Addr} {xs ys zs : List V}
theorem Inv.lset {its its' : List Value} {n : Nat} {f : Array Value → Array Value} {t' : Nat} (I : Inv X pins σ H s) (hH : H l = some (.lst xs))
    (e : s.heap.get? l = some { cls := .type "list", data := .seq its.toArray n }) (hf : f its.toArray = its'.toArray) (hv : Vals ys its') (hz : ys.length ≤ sizeLine) :
    Inv X pins σ (upd H l (.lst ys)) { s with heap := s.heap.update l (Obj.mapSeq f), toks := t' } := by
  have q := PySem.IsL.update e f
  rw [hf] at q
  refine I.write (x := l) (e := l) (by rw [hH]; exact trivial) (.inl rfl) (fun b' u hb hu => (Heap.get?_update_other s.heap (Obj.mapSeq f) (Ne.symm hb)).trans hu) ⟨_, q⟩ ?_
  exact ⟨hz, its', _, hv, q⟩
theorem Inv.lnew {its : List Value} {t' : Nat} (I : Inv X pins σ H s) (hv : Vals ys its) (hz : ys.length ≤ sizeLine) :
    Inv X pins σ (upd H s.heap.objs.size (.lst ys)) { s with heap := s.heap.push { cls := .type "list", data := .seq its.toArray }, toks := t' } :=
  I.laid (fun _ _ q => Heap.get?_push_of_some _ q) (Nat.le_refl _) ⟨hz, its, 0, hv, Heap.get?_push_size _ rfl⟩
theorem Inv.fresh (I : Inv X pins σ H s) : H s.heap.objs.size = none := I.hok.fresh (Nat.le_refl _)
theorem Inv.lstM (I : Inv X pins σ H s) (hH : H l = some (.lst xs)) : xs.length ≤ sizeLine ∧ ∃ (its : List Value) (n : Nat), Vals xs its ∧ xs.length = its.length ∧ s.heap.get? l = some { cls := .type "list", data := .seq its.toArray n } := by
  obtain ⟨z, its, n, r, e⟩ := I.hok l _ hH
  exact ⟨z, its, n, r, r.length, e⟩
theorem notLongL {n : Nat} (h : n ≤ sizeLine) : Builtin.List.listTooLong n = false := by
  unfold Builtin.List.listTooLong
  exact decide_eq_false (by omega)
end
section
variable {X : Cx}
def rAppend : V → List V → Hp → VK → Prop := fun x vs H Q => ∃ l xs y, x = .ref l ∧ vs = [y] ∧ H l = some (.lst xs) ∧ xs.length < sizeLine ∧ Q .non (upd H l (.lst (xs ++ [y])))
theorem mt_append : MtM X "list.append" rAppend := by
  intro pins s σ H x vs v us Q I rx rv h
  obtain ⟨l, xs, y, rfl, rfl, hH, hz, q⟩ := h
  cases rx
  obtain ⟨u, rfl, ru⟩ := rv.one
  obtain ⟨z, its, n, r, hl, e⟩ := I.lstM hH
  refine call_meets F.slot_list_append ⟨_, e, rfl⟩ F.entry_list_append (F.args_list_append_2 _ _) (PySem.list_append l its.toArray n u (by rw [List.size_toArray]; omega)) ⟨e, ?_⟩
  refine ⟨.non, _, I.lset (its' := its ++ [u]) hH e (by simp) (r.append (.cons ru .nil)) ?_, rfl, q⟩
  rw [List.length_append, List.length_singleton]
  omega
def rExtend : V → List V → Hp → VK → Prop := fun x vs H Q => ∃ l b xs zs, x = .ref l ∧ vs = [.ref b] ∧ H l = some (.lst xs) ∧ H b = some (.lst zs) ∧ xs.length + zs.length ≤ sizeLine ∧ Q .non (upd H l (.lst (xs ++ zs)))
theorem mt_extend : MtM X "list.extend" rExtend := by
  intro pins s σ H x vs v us Q I rx rv h
  obtain ⟨l, b, xs, zs, rfl, rfl, hH, hB, hz, q⟩ := h
  cases rx
  obtain ⟨u, rfl, ru⟩ := rv.one
  cases ru
  obtain ⟨z, its, n, r, hl, e⟩ := I.lstM hH
  obtain ⟨z2, its2, n2, r2, hl2, e2⟩ := I.lstM hB
  have hsz : its.toArray.size + its2.toArray.size ≤ sizeLine := by rw [List.size_toArray, List.size_toArray]; omega
  have hlong : ¬ (!its.toArray.isEmpty && Builtin.List.listTooLong (its.toArray.size + its2.toArray.size)) = true := by
    rw [notLongL hsz, Bool.and_false]
    exact Bool.false_ne_true
  refine call_meets F.slot_list_extend ⟨_, e, rfl⟩ F.entry_list_extend (F.args_list_extend_2 _ _)
    (AutoSeq1.list_extend_list_list_0 l its.toArray n b its2.toArray n2 hlong (by rw [List.size_toArray]; omega) (by omega)) ⟨e, e2, ?_⟩
  refine ⟨.non, _, I.lset (its' := its ++ its2) hH e (by simp) (r.append r2) ?_, rfl, q⟩
  rw [List.length_append]
  omega
def rRep : R2 := fun x y H Q => ∃ l k xs, x = .ref l ∧ y = .int k ∧ H l = some (.lst xs) ∧ -(2 ^ 63) ≤ k ∧ k < 2 ^ 63 ∧ xs.length * k.toNat ≤ sizeLine ∧
  ∀ p, H p = none → Q (.ref p) (upd H p (.lst (List.replicate k.toNat xs).flatten))
theorem len_rep {α : Type} (xs : List α) (k : Nat) : (List.replicate k xs).flatten.length = k * xs.length := by
  induction k with
  | zero => simp
  | succ k ih => rw [List.replicate_succ, List.flatten_cons, List.length_append, ih, Nat.succ_mul, Nat.add_comm]
theorem op_rep : OpR X (binaryOp .Mult) rRep := by
  intro pins s σ H x y v u Q I rx ry h
  obtain ⟨l, k, xs, rfl, rfl, hH, h1, h2, hz, q⟩ := h
  cases rx
  obtain ⟨t, rfl⟩ := ry
  obtain ⟨z, its, n, r, hl, e⟩ := I.lstM hH
  have hlen : its.toArray.size * k.toNat ≤ sizeLine := by rw [List.size_toArray, ← hl]; exact hz
  have hcap : ¬ its.toArray.size * k.toNat > (2 ^ 63 - 1) / 8 := by
    have : (sizeLine : Nat) ≤ (2 ^ 63 - 1) / 8 := by decide
    omega
  have hfit : ¬ (!Builtin.List.listFitsIndex k) = true := by
    rw [fitsIndex_both h1 h2]
    exact Bool.false_ne_true
  have hlong : ¬ Builtin.List.listTooLong (its.toArray.size * k.toNat) = true := by
    rw [notLongL hlen]
    exact Bool.false_ne_true
  have hnew : List.foldl (fun x1 x2 => x1 ++ x2) #[] (List.replicate (if its.toArray.isEmpty = true then 0 else k.toNat) its.toArray) = (List.replicate k.toNat its).flatten.toArray := by
    have f0 : ∀ m : Nat, List.foldl (fun x1 x2 => x1 ++ x2) #[] (List.replicate m its.toArray) = (List.replicate m its).flatten.toArray := fun m => by
      have := foldl_rep its m []
      rw [List.nil_append] at this
      exact this
    rw [f0]
    cases its with
    | nil => simp
    | cons a r' => rw [if_neg (by simp)]
  refine wpAny_binaryOp_repeat_ref (T := "list") (U := "int") (by decide) ⟨_, e, rfl⟩ (fun s' => typeIs_int s' k t) noFill_list_mul F.fills_int_mul F.slot_int_rmul repeat_list F.slot_int_index.lookup
    (call_meets F.slot_int_rmul (typeIs_int s k t) F.entry_int_rmul (F.args_int_rmul_2 _ _) (int___rmul___int_list k t l its.toArray n)
      ⟨e, rfl, ⟨_, e, rfl⟩, call_meets F.slot_list_mul ⟨_, e, rfl⟩ F.entry_list_mul (F.args_list_mul_2 _ _) (AutoListH.list___mul___list_int_3 l its.toArray n k t hfit hcap hlong) ⟨e, ?_⟩⟩)
  rw [hnew]
  exact ⟨.ref _, _, I.lnew (t' := s.toks) (r.rep k.toNat) (by rw [len_rep, Nat.mul_comm]; exact hz), rfl, q _ I.fresh⟩
end
section
variable {prog : Program} {w : World} {A : Around} {E : Value → Shared → Prop} {s : Shared}
set_option maxRecDepth 100000 in
end
section
variable {X : Cx}
end
end L2
namespace Att
open PySem PySem.W PySem.Calls PyProof.Rows
theorem ints_of_wellAll {P : Params} {h : Heap} : ∀ (ns : List Int) (vs : List Value), WellAll P h vs (ns.map WData.int) → IntsAre vs ns := by
  intro ns
  induction ns with
  | nil =>
    intro vs w
    rw [List.map_nil] at w
    cases w
    exact .nil
  | cons n ns ih =>
    intro vs w
    rw [List.map_cons] at w
    cases w with
    | cons a b =>
      cases a
      exact .cons _ _ (ih _ b)
theorem script_of {l : OpenLaw} {n : Nat} (hn : l.most = some n) {P : Params} {h : Heap} {args : List WData} {vals : List Value}
    (hpre : l.row.toRowW.claim.pre args = true) (hwl : WellAll P h vals args) :
    ∃ a vs ns, vals = [Value.ref a] ∧ args = [WData.list (ns.map WData.int)] ∧ h.get? a = some { cls := .type "list", data := .seq vs.toArray } ∧ IntsAre vs ns ∧ ns.length ≤ n := by
  have hsh : WShape.hasAll [] args [.list .int] = true := (pre_splitW hpre).1
  have hc : l.pre.holds [] { args := args } = true := (pre_splitW hpre).2
  obtain ⟨d, r, rfl, h1, h2⟩ := hasAllW_cons hsh
  obtain rfl := hasAllW_nil h2
  obtain ⟨xs, rfl, h3⟩ := hasW_list h1
  obtain ⟨ns, rfl⟩ := items_int h3
  have hlen : ns.length ≤ n := by
    unfold OpenLaw.pre at hc
    have h4 : (WTm.not (.lt (.lit (.int (n : Int))) (.len (.arg 0)))).holds [] { args := [.list (ns.map .int)] } = true := by
      have h4 := (holds_andW hc).1
      rw [hn] at h4
      exact h4
    have h5 := condW_of h4 (w_not (w_lt w_lit (w_len_list (w_arg rfl))))
    rw [List.length_map] at h5
    refine Nat.le_of_not_lt fun q => ?_
    have q' : (n : Int) < ((ns.length : Nat) : Int) := by omega
    first
      | (rw [decide_eq_true q'] at h5; exact absurd h5 (by decide))
      | (simp at h5; omega)
  cases hwl with
  | cons w1 w2 =>
    cases w2
    cases w1 with
    | list ho hall => exact ⟨_, _, ns, rfl, rfl, ho, ints_of_wellAll ns _ hall, hlen⟩
theorem post_true (l : OpenLaw) (args : List WData) : l.row.toRowW.claim.post args (.bool true) args = true :=
  postW_of (r := l.row.toRowW) (X := (true == true))
    (show WShape.has [] (.bool true) .bool = true by first | rfl | decide | simp [WShape.has, WShape.arms, WShape.armsAll])
    (show (WTm.eq .res (.lit (.bool true))).value [] { args := args, res := some (.bool true), after := args } = some (.bool (true == true)) from w_eq_bool (w_res rfl) w_lit) rfl
theorem attach_call {l : OpenLaw} {n : Nat} {q : Program} {loose : List Str} {XP : (Str → Option Value) → Heap → Prop} {YP : World → Heap → Prop} {d : DefRec}
    (hn : l.most = some n) (hdf : d.params.defaults = [])
    (call : ∀ (w : World) (s₀ s₁ : Shared) (mg mb : Str → Option Value) (fa : Addr) (o : Obj) (pm cd doc : Value) (a : Addr) (vs : List Value) (ns : List Int),
      Ground q loose [] XP w s₀ mg mb s₁.heap → YP w s₁.heap →
      s₁.heap.get? fa = some o → o.data = .func (docDef d.name d.params d.body d.scope pm cd doc) → s₁.heap.CodeRec cd d.name → mg d.name = some (.ref fa) →
      s₁.heap.get? a = some { cls := .type "list", data := .seq vs.toArray } → IntsAre vs ns → ns.length ≤ n → s₁.gens = #[] →
      codeAny (model l.prog w) callerA (.call (.ref fa) ⟨[.ref a], []⟩) (fun r s' => r = .ok (.ret (.bool true)) ∧ OldK s₁.heap s'.heap ∧ s'.os = s₁.os ∧ AllBare s'.gens) s₁) :
    WalkO q loose XP YP l.row.toRowW d [] (fun f vs => PySem.call f vs) := by
  intro w s₀ s₁ mg mb G Y fa o pm cd doc dV kV ho hd hcd hD hmg hg args vals as hpre hlay hrd hwl hlo
  obtain rfl : dV = .none := Dflts.none hD hdf
  obtain rfl : kV = .none := Dflts.noKw hD
  obtain ⟨a, vs, ns, rfl, rfl, hobj, hints, hlen⟩ := script_of hn hpre hwl
  refine enter_call (codeAny_mono (call w s₀ s₁ mg mb fa o pm cd doc a vs ns G Y ho (fd_plain hd) hcd hmg hobj hints hlen hg) fun r s' hq => ?_)
  obtain ⟨rfl, h2, h3, h4⟩ := hq
  exact ⟨.inl ⟨.bool true, .bool true, [], rfl, fun _ => rfl, .bool true, post_true l _, fun _ => ⟨List.Pairwise.nil, fun _ hm => (nomatch hm)⟩⟩, h2, h3, h4⟩
section
variable {prog : Program} {w : World} {A : Around} {E : Value → Shared → Prop} {s : Shared} {K : Frag}
end
end Att
namespace L2
open PySem PySem.Spec PyProof.Rows
theorem vals_ints : ∀ {vs : List Value} {ns : List Int}, IntsAre vs ns → Vals (ns.map V.int) vs
  | _, _, .nil => .nil
  | _, _, .cons n t h => .cons ⟨t, rfl⟩ (vals_ints h)
end L2
namespace L2
open PySem PySem.Spec PyProof.Rows
end L2
namespace L2
open PySem PySem.Spec PyProof.Rows
def inClass (s : Stmt) (j : Nat) : Stmt := match s with
  | .ClassDef _ _ _ body _ _ _ _ _ _ _ => body.getD j (.Pass ⟨0, 0, 0, 0⟩)
  | _ => .Pass ⟨0, 0, 0, 0⟩
def defArgs (s : Stmt) : Arguments := match s with
  | .FunctionDef _ a _ _ _ _ _ _ _ _ => a
  | _ => { posonlyargs := [], args := [], vararg := none, kwonlyargs := [], kw_defaults := [], kwarg := none, defaults := [] }
def defBody (s : Stmt) : List Stmt := match s with
  | .FunctionDef _ _ b _ _ _ _ _ _ _ => b
  | _ => []
def defScope (s : Stmt) : Scope := match s with
  | .FunctionDef _ _ _ _ _ _ sc _ _ _ => sc
  | _ => { kind := .function, names := [], isGenerator := false, isCoroutine := false }
abbrev CX0 : CXT := fun _ _ _ _ _ _ => False
abbrev E0 : XK := fun _ _ _ => False
theorem pass0 {X : Cx} : Passes CX0 X E0 := fun _ _ _ _ _ _ _ h => h.elim
structure Fun (K : PySem.W.Frag) (x qual : Str) (st : Stmt) (f : Addr) (fd : FuncData) : Prop where
  ex : ∃ (oc : Value) (od : Option Addr) (kV doc pm : Value) (an : Option Addr) (cdv ct : Value) (osl : Array (Option Value)),
    fd = PySem.W.fnOf x qual (defArgs st) (defBody st) (defScope st) .none kV doc pm an cdv ct ∧ K.lookup f = some ⟨oc, od, .func fd, osl⟩ ∧ PySem.W.codeIn K cdv qual = true
  kp : PySem.W.keepIn K (.ref f) = true
section
variable {P : Program} {w : World} {K : PySem.W.Frag} {mg : Str → Option Value} {base : Heap}
theorem Fun.ok {x qual : Str} {st : Stmt} {f : Addr} {fd : FuncData} {N ps : List Str} {k : Nat} {sp : Sp} (F : Fun K x qual st f fd) (S : FnScope N ps (defScope st)) (len : ∀ vs H Q E, sp vs H Q E → vs.length = ps.length)
    (hbody : ∀ (cdv : Value) (A : Around) (outer : List Env) (s : Shared) (H : Hp) (vs : List V) (Q : VK) (E : XK), Room k (A.deeper (envOfC qual (defScope st) s.heap.objs.size f cdv)) → sp vs H Q E →
      ∃ t, PSs (cxOf CX0 P w K mg base N qual (defScope st) f cdv A outer s H E).nox (defBody st) t ∧ t { nx := fun _ H' => Q .non H', rt := Q } (start N vs) H) : FnOk P w K mg base CX0 (k + 1) f fd ps sp := by
  obtain ⟨oc, od, kV, doc, pm, an, cdv, ct, osl, rfl, lk, hcd⟩ := F.ex
  refine fn_of lk hcd S len fun A outer s H vs Q E hr hsp => ?_
  obtain ⟨t, h, q⟩ := hbody cdv A outer s H vs Q E hr hsp
  exact ⟨t, h.nox, q⟩
theorem Fun.binds {x qual : Str} {st : Stmt} {f : Addr} {fd : FuncData} {ps : List Str} (F : Fun K x qual st f fd)
    (h : ∀ (kV doc pm : Value) (an : Option Addr) (cdv ct : Value) (us : List Value), us.length = ps.length → bindArgs (PySem.W.fnOf x qual (defArgs st) (defBody st) (defScope st) .none kV doc pm an cdv ct) ⟨us, []⟩ = pure (ps.zip us)) : Binds K fd ps [] := by
  obtain ⟨oc, od, kV, doc, pm, an, cdv, ct, osl, rfl, lk, hcd⟩ := F.ex
  exact .all (h kV doc pm an cdv ct)
end
theorem small1000 {n : Nat} (h : n ≤ 1000) : n < sizeLine := Nat.lt_of_le_of_lt h (by decide)
section
variable {X : Cx}
theorem pv (i : Nat) {x : Str} {pos : Pos} (hN : X.N[i]? = some x := by rfl) (hv : Vis X.env.scope x := by first | exact Or.inl rfl | exact Or.inr (Or.inl rfl) | exact Or.inr (Or.inr rfl)) (hd : (x == ("__debug__" : Str)) = false := by decide)
    (hcd : (x == ("__classdict__" : Str)) = false := by decide) : PE X (.Name x pos) (tVar i) := pe_var hN hv hd hcd
end
theorem iteF {A B : Prop} (h : B) : if false = true then A else B := by
  rw [if_neg Bool.false_ne_true]
  exact h
theorem iteT {A B : Prop} (h : A) : if true = true then A else B := by
  rw [if_pos rfl]
  exact h
theorem ite2 {c A B : Prop} [Decidable c] (h1 : c → A) (h2 : ¬ c → B) : if c then A else B := by
  by_cases h : c
  · rw [if_pos h]
    exact h1 h
  · rw [if_neg h]
    exact h2 h
end L2
set_option maxHeartbeats 4000000
namespace L3
end L3
namespace L2
open PySem PySem.Spec PyProof.Rows
section
variable {X : Cx}
theorem log2_small {n : Nat} (h : n < 2 ^ 200) : n.log2 < 9000 := by
  by_cases h0 : n = 0
  · subst h0
    decide
  · have h1 : n.log2 < 200 := (Nat.log2_lt h0).mpr h
    omega
def CDivB (_ j : Int) : Prop := 0 < j ∧ j < 2 ^ 199
theorem op_fdivB : OpR X (binaryOp .FloorDiv) (rI CDivB fun i j => .int (i / j)) := opI fun i j _ _ _ _ _ hc q => by
  have h1 : (0 : Int) < j := hc.1
  have h2 : j < 2 ^ 199 := hc.2
  have h3 : j.natAbs < 2 ^ 200 := by omega
  exact floordiv_int (by omega) (by rw [Int.fdiv_eq_ediv_of_nonneg i (by omega)]; exact q) (.inl (PyProof.noPylong_of_log2 (log2_small h3)))
theorem call_sum (hc : X.calm = true) : CallR X (.builtin "sum") (fun xs H Q => ∃ (p : Addr) (ns : List Int), xs = [.ref p] ∧ SqL X.K H p (ns.map V.int) ∧ Q (.int ns.sum) H) := by
  intro pins s σ H xs us Q I r h
  obtain ⟨p, ns, rfl, hq, q⟩ := h
  obtain ⟨u, rfl, rx⟩ := vals1 r
  cases rx
  obtain ⟨its, r', pl, hz⟩ := I.list hq
  have hi : IntsAre its ns := intsAre_of r'
  have ha := hi.allInts
  obtain ⟨zs, hx⟩ := ha.items
  have hl := pl.isList
  rw [hx] at hl
  refine sum_intListG (I.ok.hd hc) hl fun h' tk t' hk => ⟨.int ns.sum, H, I.kept hk, ⟨t', ?_⟩, q⟩
  have e2 : preSum (numAt zs) zs.size = (numsOf (intItems zs).toList).sum := by
    rw [nums_intItems, preSum_eq, List.take_of_length_le (by simp)]
  have e3 : numsOf its.toArray.toList = ns := hi.numsOf
  rw [e2, ← hx, e3]
def eqVs : List V → List V → Bool
  | [], [] => true
  | x :: xs, y :: ys => eqV x y && eqVs xs ys
  | _, _ => false
theorem eqVs_len : ∀ {xs ys : List V}, xs.length ≠ ys.length → eqVs xs ys = false
  | [], [], h => absurd rfl h
  | [], _ :: _, _ => rfl
  | _ :: _, [], _ => rfl
  | x :: xs, y :: ys, h => by
    show (eqV x y && eqVs xs ys) = false
    rw [eqVs_len (fun e => h (by simp [e])), Bool.and_false]
theorem range_eqVs : ∀ (xs ys : List V), xs.length = ys.length → (List.range xs.length).all (fun j => eqV (xs.getD j .non) (ys.getD j .non)) = eqVs xs ys
  | [], [], _ => rfl
  | [], _ :: _, h => by simp at h
  | _ :: _, [], h => by simp at h
  | x :: xs, y :: ys, h => by
    have ih := range_eqVs xs ys (by simpa using h)
    show (List.range (xs.length + 1)).all _ = (eqV x y && eqVs xs ys)
    rw [List.range_succ_eq_map, List.all_cons, List.all_map]
    show (eqV x y && _) = _
    rw [← ih]
    rfl
theorem eqV_refl : ∀ {x : V}, flatV x = true → eqV x x = true
  | .non, _ => rfl
  | .bl b, _ => by simp [eqV]
  | .int i, _ => by simp [eqV]
  | .str z, _ => by simp [eqV]
theorem eqVs_refl : ∀ {xs : List V}, xs.all flatV = true → eqVs xs xs = true
  | [], _ => rfl
  | x :: xs, h => by
    rw [List.all_cons, Bool.and_eq_true] at h
    show (eqV x x && eqVs xs xs) = true
    rw [eqV_refl h.1, eqVs_refl h.2]
    rfl
def rEqL (K : PySem.W.Frag) (neg : Bool) : R2 := fun x y H Q => ∃ a b xs ys, x = .ref a ∧ y = .ref b ∧ SqL K H a xs ∧ SqL K H b ys ∧ xs.all flatV = true ∧ ys.all flatV = true ∧ Q (.bl (if neg then !eqVs xs ys else eqVs xs ys)) H
theorem flat_at {xs : List V} (h : xs.all flatV = true) {j : Nat} (hj : j < xs.length) : flatV xs[j] = true := by
  rw [List.all_eq_true] at h
  exact h _ (List.getElem_mem hj)
theorem eqAt_at {A : Around} {s : Shared} {xs ys : List V} {us ws : List Value} (r : Vals xs us) (q : Vals ys ws) (fx : xs.all flatV = true) (fy : ys.all flatV = true) :
    ∀ j (h1 : j < us.toArray.size) (h2 : j < ws.toArray.size), SeqAt.EqAt A s us.toArray[j] ws.toArray[j] (eqV (xs.getD j .non) (ys.getD j .non)) := by
  intro j h1 h2
  have l1 := r.length
  have l2 := q.length
  have h1' : j < us.length := by simpa using h1
  have h2' : j < ws.length := by simpa using h2
  have k1 : j < xs.length := by omega
  have k2 : j < ys.length := by omega
  obtain ⟨u, e1, r1⟩ := r.get (i := j) (x := xs[j]) (by simp [k1])
  obtain ⟨w, e2, r2⟩ := q.get (i := j) (x := ys[j]) (by simp [k2])
  have g1 : us.toArray[j] = u := by
    have := List.getElem?_eq_some_iff.mp e1
    obtain ⟨_, e⟩ := this
    simpa using e
  have g2 : ws.toArray[j] = w := by
    have := List.getElem?_eq_some_iff.mp e2
    obtain ⟨_, e⟩ := this
    simpa using e
  have d1 : xs.getD j .non = xs[j] := by simp [k1]
  have d2 : ys.getD j .non = ys[j] := by simp [k2]
  rw [g1, g2, d1, d2]
  exact eqAt_V r1 r2 (flat_at fx k1) (flat_at fy k2)
theorem op_eqL (hu : X.A.units < cLine) : OpR X (compareOp .Eq) (rEqL X.K false) := by
  intro pins s σ H x y v u Q I rx ry h
  obtain ⟨a, b, xs, ys, rfl, rfl, hx, hy, fx, fy, q⟩ := h
  cases rx
  cases ry
  obtain ⟨us, r1, p1, z1⟩ := I.list hx
  obtain ⟨ws, r2, p2, z2⟩ := I.list hy
  have l1 := r1.length
  have l2 := r2.length
  by_cases hl : xs.length = ys.length
  · refine SeqAt.eq_listAt p1.isList p2.isList (by simp; omega) hu (eqAt_at r1 r2 fx fy) ⟨.bl (eqVs xs ys), H, I, ?_, q⟩
    have e : us.toArray.size = xs.length := by simp [l1]
    rw [e, range_eqVs xs ys hl]
    rfl
  · refine SeqAt.eq_list_lengthsAt p1.isList p2.isList (by simp; omega) hu ⟨.bl (eqVs xs ys), H, I, ?_, q⟩
    rw [eqVs_len hl]
    rfl
theorem op_neL (hu : X.A.units < cLine) : OpR X (compareOp .NotEq) (rEqL X.K true) := by
  intro pins s σ H x y v u Q I rx ry h
  obtain ⟨a, b, xs, ys, rfl, rfl, hx, hy, fx, fy, q⟩ := h
  cases rx
  cases ry
  obtain ⟨us, r1, p1, z1⟩ := I.list hx
  obtain ⟨ws, r2, p2, z2⟩ := I.list hy
  have l1 := r1.length
  have l2 := r2.length
  show wpAny _ _ (richCompare .NotEq (.ref a) (.ref b)) _ _ s
  by_cases hl : xs.length = ys.length
  · refine SeqAt.RcNeAt.lists p1.isList p2.isList (by simp; omega) hu (eqAt_at r1 r2 fx fy) _ _ _ _ ⟨.bl (!eqVs xs ys), H, I, ?_, q⟩
    have e : us.toArray.size = xs.length := by simp [l1]
    rw [e, range_eqVs xs ys hl]
    rfl
  · refine SeqAt.RcNeAt.lists_lengths p1.isList p2.isList (by simp; omega) hu _ _ _ _ ⟨.bl (!eqVs xs ys), H, I, ?_, q⟩
    rw [eqVs_len hl]
    rfl
def cV : V → Value
  | .ty n => .type n
  | .ref a => .ref a
  | _ => .none
theorem call_isinst : CallR X (.builtin "isinstance") (fun xs H Q => ∃ x c t b, xs = [x, c] ∧ ((∃ n, c = .ty n) ∨ ∃ a, c = .ref a) ∧ TyOf X.K H x t ∧ PySem.W.kitOne X.K t (cV c) = some b ∧ Q (.bl b) H) := by
  intro pins s σ H xs us Q I r h
  obtain ⟨x, c, t, b, rfl, hc, ty, e, q⟩ := h
  obtain ⟨u, w', rfl, r1, r2⟩ := vals2 r
  have ew : w' = cV c := by
    rcases hc with ⟨n, rfl⟩ | ⟨a, rfl⟩
    · exact r2
    · exact r2
  subst ew
  exact isinst_ok I r1 ty e fun tk => ⟨.bl b, H, I.tok tk, rfl, q⟩
theorem b_isi : bootBuiltins "isinstance" = some (.builtin "isinstance") := by decide +kernel
theorem b_int : bootBuiltins "int" = some (.type "int") := by decide +kernel
theorem b_bool : bootBuiltins "bool" = some (.type "bool") := by decide +kernel
theorem b_list : bootBuiltins "list" = some (.type "list") := by decide +kernel
theorem b_sum : bootBuiltins "sum" = some (.builtin "sum") := by decide +kernel
theorem b_min : bootBuiltins "min" = some (.builtin "min") := by decide +kernel
theorem b_max : bootBuiltins "max" = some (.builtin "max") := by decide +kernel
theorem b_len : bootBuiltins "len" = some (.builtin "len") := by decide +kernel
theorem kit_same (K : PySem.W.Frag) (t : Value) : PySem.W.kitOne K t t = some true := by
  unfold PySem.W.kitOne
  rw [if_pos (by simp)]
theorem kit_int_bool (K : PySem.W.Frag) : PySem.W.kitOne K (.type "int") (.type "bool") = some false := by
  have e : (Value.type "int" == Value.type "bool") = false := by decide +kernel
  unfold PySem.W.kitOne PySem.W.kitCls PySem.W.subIn
  rw [e, if_neg Bool.false_ne_true]
  show (if PySem.W.kitMeta "bool" = true then _ else _) = _
  rw [if_pos (by decide +kernel)]
  show (fastBuiltinMro "int").map (·.contains (Value.type "bool")) = some false
  decide +kernel
def tCut (t : TS) : TS := fun D σ H => ∃ P : St → Hp → Prop, t { D with nx := P } σ H ∧ ∀ σ' H', P σ' H' → D.nx σ' H'
theorem ps_cut {st : Stmt} {t : TS} (h : PS X st t) : PS X st (tCut t) := by
  intro pins s σ H D I hw
  obtain ⟨P, h1, h2⟩ := hw
  refine thn (h pins s σ H { D with nx := P } I h1) fun f s' q => ?_
  cases f with
  | next =>
    obtain ⟨σ', H', I', q'⟩ := q
    exact ⟨σ', H', I', h2 σ' H' q'⟩
  | brk => exact q
  | cont => exact q
  | ret u => exact q
def tCutE (t : TE) : TE := fun σ H Q => ∃ P : V → Hp → Prop, t σ H P ∧ ∀ v H', P v H' → Q v H'
theorem pe_cut {e : Expr} {t : TE} (h : PE X e t) : PE X e (tCutE t) := by
  intro pins s σ H Q I hw
  obtain ⟨P, h1, h2⟩ := hw
  exact thn (h pins s σ H P I h1) fun u s' ⟨v, H', I', r, q⟩ => ⟨v, H', I', r, h2 v H' q⟩
def Its (lo st : Int) (n : Nat) : It := ⟨fun i _ => i < n, fun i H x H' => H' = H ∧ x = .int (lo + i * st), fun i _ => n ≤ i⟩
theorem turn_step {P : Program} {w : World} {K : PySem.W.Frag} {tg : Expr} (it : Addr) (lo st : Int) (n : Nat) : Turn P w K tg (Its lo st n) [it] it (fun i h => IsRangeIter h it (lo + (i : Nat) * st) ((n : Int) - (i : Nat)) st) where
  mem := by simp
  obj := fun i h st b hb => by
    have e : b = it := by simpa using hb
    subst e
    exact ⟨_, st, fun v z => by
      have z' : Data.fields _ = Data.cell v := z
      cases z'⟩
  keep := fun i h h' st k => k it (by simp) _ st
  item := by
    intro X hP hw hK hc i pins s σ H E I hf st' hg
    subst hP hw hK
    obtain ⟨f0, f1, f2, f3, f4, f5⟩ := hf it (by simp)
    have W := Walks.range (prog := X.prog) (w := X.w) (I.ok.hd hc) it lo st n
    refine W.item i s _ _ hg st' fun v h' tk hv st'' kk => ?_
    obtain ⟨t, rfl⟩ := hv
    have I1 : Inv X pins σ H { s with heap := h', toks := tk } := I.turned (fun b o hb e => kk b o (by simpa using hb) e) f0 f1 f3 f4 f5
    exact ⟨_, rfl, go_of (s := { s with heap := h', toks := tk }) (n := "range_iterator") st'' rfl rfl (by decide) ⟨.int (lo + i * st), H, I1, ⟨t, rfl⟩, ⟨rfl, rfl⟩, st'', fun b hb => (hf b hb).1⟩⟩
  done := by
    intro X hP hw hK hc i pins s σ H E I hf st hg
    subst hP hw hK
    obtain ⟨f0, f1, f2, f3, f4, f5⟩ := hf it (by simp)
    exact wpAny_pyNext_range_end (I.ok.hd hc) st (by have : n ≤ i := hg; omega) fun h' eb => ⟨rfl, I.turned (t' := s.toks) (fun b o hb e => eb b o hb e) f0 f1 f3 f4 f5⟩
  self := fun _ _ _ _ _ st h => wpAny_pyIter_rangeiter st h
theorem size_step {a b c : Int} (hc : 0 < c) (ha : -(2 ^ 31) ≤ a ∧ a < 2 ^ 31) (hb : -(2 ^ 31) ≤ b ∧ b < 2 ^ 31) : 0 ≤ Builtin.Range.rangeSize a b c ∧ Builtin.Range.rangeSize a b c < 2 ^ 33 := by
  unfold Builtin.Range.rangeSize
  rw [if_pos hc]
  split
  · have h1 : 0 ≤ (b - a - 1) / c := Int.ediv_nonneg (by omega) (by omega)
    have h2 : (b - a - 1) / c ≤ b - a - 1 := Int.ediv_le_self _ (by omega)
    omega
  · omega
theorem small_step {a b c : Int} (hc : 0 < c) (hc2 : c < 2 ^ 30) (ha : -(2 ^ 31) ≤ a ∧ a < 2 ^ 31) (hb : -(2 ^ 31) ≤ b ∧ b < 2 ^ 31) : Builtin.Range.small a b c = true := by
  have h := size_step hc ha hb
  unfold Builtin.Range.small
  generalize Builtin.Range.rangeSize a b c = n at h
  simp only [Builtin.Range.rangeFitsLong, Bool.and_eq_true, Bool.or_eq_true, decide_eq_true_eq, beq_iff_eq, show c > 0 from hc, if_true]
  omega
end
theorem cut_to (xs : List V) (k : Nat) : cutV xs none (some (k : Int)) = xs.take k := by
  unfold cutV
  rw [HT.sIx_none, HT.sIx_nat, List.drop_zero, Nat.sub_zero, List.take_eq_take_iff]
  omega
end L2
namespace L2
open PySem PySem.Spec PyProof.Rows
theorem Inv.adopt {X : Cx} {pins : List (Addr × Obj)} {σ : St} {H : Hp} {s : Shared} {a : Addr} {o : HO} (I : Inv X pins σ H s) (f : FpOk X pins H a) (h0 : X.s₀.heap.objs.size ≤ a) (new : ObjOk X.prog X.w (upd H a o) s.heap a o) : Inv X pins σ (upd H a o) s := by
  obtain ⟨hn, hL, _, _, hC, hp⟩ := f
  have nt : ∀ b u, H b = some u → b ≠ a := fun b u e => ne_of_none e hn
  refine ⟨I.ok, I.os, I.bare, ⟨I.base.keep, I.base.slot, fun b ob e n hx => ?_, I.base.there, fun b xs e => ?_, fun b ob u e => ?_, fun b ps e => ?_⟩, I.loc, I.cell, ?_, fun x c e => ?_, fun p hp' => ?_, fun b u e => ?_, I.len⟩
  · rw [upd_ne (Nat.ne_of_lt (Nat.lt_of_lt_of_le (Heap.lt_size e) h0))]
    exact I.base.free b ob e n hx
  · have q := I.base.tups b xs e
    rw [upd_ne (nt _ _ q)]
    exact q
  · have q := I.base.frzs b ob u e
    rw [upd_ne (nt _ _ q)]
    exact q
  · obtain ⟨m, q⟩ := I.base.tbls b ps e
    exact ⟨m, by rw [upd_ne (nt _ _ q)]; exact q⟩
  · rw [upd_ne (Ne.symm hL)]
    exact I.free
  · rw [upd_ne (hC x c e)]
    exact I.freeC x c e
  · obtain ⟨e, n, r⟩ := I.pin p hp'
    exact ⟨e, by rw [upd_ne (hp p hp')]; exact n, r⟩
  · by_cases hb : b = a
    · subst hb
      rw [upd_same] at e
      cases e
      exact new
    · rw [upd_ne hb] at e
      exact (I.hok b u e).stay (fun c v _ q => q) (fun c q => by rw [upd_ne (nt _ _ q)]; exact q) fun c xs q => by rw [upd_ne (nt _ _ q)]; exact q
def capσ (cap : List (Option Nat)) (σ : St) : St := cap.map fun o => match o with
  | some i => (σ[i]?).getD none
  | none => none
def closL (cells : List (Str × Addr)) (names : List (Str × NameKind)) : List (Str × Addr) → List (Str × Addr) := fun acc => names.foldl (fun acc p => if p.2 == .free then (p.1, (cells.lookup p.1).getD 0) :: acc else acc) acc
theorem forIn_foldl {α β : Type} {f : α → β → Sem (ForInStep β)} {g : β → α → β} : ∀ (l : List α) (b : β), (∀ x ∈ l, ∀ b, f x b = pure (.yield (g b x))) → forIn l b f = pure (l.foldl g b)
  | [], b, _ => by rw [List.forIn_nil]; rfl
  | x :: l, b, h => by
    rw [List.forIn_cons, h x List.mem_cons_self]
    show forIn l (g b x) f = _
    rw [forIn_foldl l (g b x) fun y hy => h y (List.mem_cons_of_mem _ hy)]
    rfl
theorem closureFor_eq {scope : Scope} {env : Env} (h : ∀ x ∈ scope.names, x.2 = .free → ∃ c, env.cells.lookup x.1 = some c) : closureFor scope env = pure (closL env.cells scope.names []) := by
  unfold closureFor
  dsimp only
  rw [forIn_foldl (g := fun acc p => if p.2 == .free then (p.1, (env.cells.lookup p.1).getD 0) :: acc else acc) scope.names [] fun x hx b => ?_]
  · rfl
  · obtain ⟨n, k⟩ := x
    by_cases hk : k = .free
    · subst hk
      obtain ⟨c, ec⟩ := h _ hx rfl
      have ec' : env.cells.lookup n = some c := ec
      have e1 : cellOf env n = pure c := by unfold cellOf; rw [ec']
      simp only [beq_self_eq_true, if_true, e1, ec', Option.getD_some]
      rfl
    · have : (k == NameKind.free) = false := by simpa using hk
      simp only [this, Bool.false_eq_true, if_false]
theorem closL_cons (cells : List (Str × Addr)) (p : Str × NameKind) (r : List (Str × NameKind)) (acc : List (Str × Addr)) : closL cells (p :: r) acc = closL cells r (if p.2 == .free then (p.1, (cells.lookup p.1).getD 0) :: acc else acc) := rfl
theorem closL_of {cells : List (Str × Addr)} {x : Str} {c : Addr} : ∀ (names : List (Str × NameKind)) (acc : List (Str × Addr)), (closL cells names acc).lookup x = some c → (((x, NameKind.free) ∈ names ∧ c = (cells.lookup x).getD 0) ∨ acc.lookup x = some c)
  | [], acc, h => .inr h
  | (n, k) :: r, acc, h => by
    rw [closL_cons] at h
    rcases closL_of r _ h with ⟨h1, h2⟩ | h1
    · exact .inl ⟨List.mem_cons_of_mem _ h1, h2⟩
    · by_cases hk : k = .free
      · subst hk
        simp only [beq_self_eq_true, if_true] at h1
        rw [List.lookup_cons] at h1
        by_cases hx : x = n
        · subst hx
          simp only [beq_self_eq_true] at h1
          exact .inl ⟨List.mem_cons_self, (Option.some.inj h1).symm⟩
        · have hb : (x == n) = false := beq_eq_false_iff_ne.mpr hx
          rw [hb] at h1
          exact .inr h1
      · have : (k == NameKind.free) = false := by simpa using hk
        simp only [this, Bool.false_eq_true, if_false] at h1
        exact .inr h1
theorem closL_has {cells : List (Str × Addr)} {x : Str} : ∀ (names : List (Str × NameKind)) (acc : List (Str × Addr)), ((x, NameKind.free) ∈ names ∨ ∃ c, acc.lookup x = some c) → ∃ c, (closL cells names acc).lookup x = some c
  | [], acc, h => by
    rcases h with h | h
    · cases h
    · exact h
  | (n, k) :: r, acc, h => by
    rw [closL_cons]
    refine closL_has r _ ?_
    by_cases hm : (x, NameKind.free) ∈ r
    · exact .inl hm
    · refine .inr ?_
      rcases h with h | ⟨c, h⟩
      · rcases List.mem_cons.mp h with e | h
        · cases e
          simp [List.lookup_cons]
        · exact absurd h hm
      · split
        · rw [List.lookup_cons]
          by_cases hx : x = n
          · subst hx
            simp
          · have hb : (x == n) = false := beq_eq_false_iff_ne.mpr hx
            rw [hb]
            exact ⟨c, h⟩
        · exact ⟨c, h⟩
theorem cellsFrom_app : ∀ (names : List (Str × NameKind)) (n : Nat) (acc acc' : List (Str × Addr)), cellsFrom n names (acc ++ acc') = cellsFrom n names acc ++ acc'
  | [], _, _, _ => rfl
  | (m, k) :: r, n, acc, acc' => by
    unfold cellsFrom
    split
    · exact cellsFrom_app r (n + 1) ((m, n) :: acc) acc'
    · exact cellsFrom_app r n acc acc'
theorem cellsFrom_split (names : List (Str × NameKind)) (n : Nat) (acc : List (Str × Addr)) (x : Str) : (cellsFrom n names acc).lookup x = ((cellsFrom n names []).lookup x).or (acc.lookup x) := by
  rw [← List.lookup_append, ← cellsFrom_app, List.nil_append]
theorem cellsFrom_not {x : Str} : ∀ (names : List (Str × NameKind)) (n : Nat) (acc : List (Str × Addr)), (x, NameKind.cell) ∉ names → (cellsFrom n names acc).lookup x = acc.lookup x
  | [], _, _, _ => rfl
  | (m, k) :: r, n, acc, h => by
    unfold cellsFrom
    by_cases hk : k = .cell
    · subst hk
      simp only [beq_self_eq_true, if_true]
      rw [cellsFrom_not r _ _ fun z => h (List.mem_cons_of_mem _ z), List.lookup_cons]
      have hx : x ≠ m := fun e => h (by rw [e]; exact List.mem_cons_self)
      have hb : (x == m) = false := beq_eq_false_iff_ne.mpr hx
      rw [hb]
    · have : (k == NameKind.cell) = false := by simpa using hk
      simp only [this, Bool.false_eq_true, if_false]
      exact cellsFrom_not r _ _ fun z => h (List.mem_cons_of_mem _ z)
def relN (names ns : List (Str × NameKind)) : List (Str × NameKind) := names.map fun (n, k) => if (k == .free && ns.lookup n == some .cell) then (n, .cell) else (n, k)
theorem relabel_names {scope : Scope} {env : Env} (hk : env.scope.kind = .function) : (relabel scope env).names = relN scope.names env.scope.names := by
  unfold relabel relN
  have e : (ScopeKind.function == ScopeKind.function) = true := by decide
  simp only [hk, e, Bool.and_true]
  rfl
theorem relN_lookup {ns : List (Str × NameKind)} {x : Str} : ∀ (names : List (Str × NameKind)), (relN names ns).lookup x = (names.lookup x).map fun k => if (k == .free && ns.lookup x == some .cell) then .cell else k
  | [] => rfl
  | (n, k) :: r => by
    have ih := relN_lookup (ns := ns) (x := x) r
    show List.lookup x ((if (k == .free && ns.lookup n == some .cell) = true then (n, NameKind.cell) else (n, k)) :: relN r ns) = _
    by_cases hx : x = n
    · subst hx
      by_cases hc : (k == .free && ns.lookup x == some .cell) = true
      · rw [if_pos hc]
        simp only [List.lookup_cons, beq_self_eq_true, Option.map_some]
        rw [if_pos hc]
      · rw [if_neg hc]
        simp only [List.lookup_cons, beq_self_eq_true, Option.map_some]
        rw [if_neg hc]
    · have hb : (x == n) = false := beq_eq_false_iff_ne.mpr hx
      by_cases hc : (k == .free && ns.lookup n == some .cell) = true
      · rw [if_pos hc]
        simp only [List.lookup_cons, hb]
        exact ih
      · rw [if_neg hc]
        simp only [List.lookup_cons, hb]
        exact ih
theorem relN_of {names ns : List (Str × NameKind)} {x : Str} (h : (relN names ns).lookup x = some .cell ∨ (relN names ns).lookup x = some .free) : names.lookup x = some .cell ∨ names.lookup x = some .free := by
  rw [relN_lookup] at h
  cases e : names.lookup x with
  | none => rw [e] at h; simp at h
  | some k =>
    rw [e] at h
    cases k <;> simp_all
theorem relN_free {names ns : List (Str × NameKind)} {x : Str} (h : names.lookup x = some .free) : (relN names ns).lookup x = some .cell ∨ (relN names ns).lookup x = some .free := by
  rw [relN_lookup, h]
  by_cases hc : ns.lookup x == some .cell
  · left; simp [hc]
  · right; simp [hc]
structure CompScope (X : Cx) (scope : Scope) (N : List Str) (cap : List (Option Nat)) : Prop where
  kind : scope.kind = .function
  names : ∀ x ∈ scope.names, x.2 = .local → scope.names.lookup x.1 = some .local
  free : ∀ x ∈ scope.names, x.2 = .free → X.env.scope.names.lookup x.1 = some .cell ∨ X.env.scope.names.lookup x.1 = some .free
  nd : N.Nodup
  len : cap.length = N.length
  cap : ∀ (j i : Nat) (x : Str), cap[j]? = some (some i) → N[j]? = some x → X.N[i]? = some x ∧ scope.names.lookup x = some .free ∧ (x, NameKind.cell) ∉ scope.names
def bcells (X : Cx) (scope : Scope) (C : Addr) : List (Str × Addr) := cellsFrom (C + 1) scope.names (closL X.env.cells scope.names [])
def cxC (X : Cx) (scope : Scope) (N : List Str) (fp : List Addr) (s : Shared) (H : Hp) (C : Addr) : Cx :=
  { X with N := N, s₀ := s, H₀ := H, env := compEnvC scope (bcells X scope C) C X.env, outer := X.stack, ex := fp, fn := fun x => scope.names.lookup x == some .cell, pn := [], xe := fun _ _ => False }
theorem newEnv_around {M : Model} {A : Around} {E : Value → Shared → Prop} {s : Shared} {scope : Scope} {globals : Addr} {cl : List (Str × Addr)} {qual : Str} {func : Option Addr} {code : Value} {outer : Env} {builtins : Addr} {Q : Env → Shared → Prop}
    (hQ : Q (newEnv scope s.heap.objs.size globals (cellsFrom (s.heap.objs.size + 1) scope.names cl) qual func code (some outer) builtins) { s with heap := pushCells (s.heap.push { cls := .type "dict", data := .dict #[] }) scope.names }) :
    wpAny M A (newFunctionEnv scope globals cl [] qual func code (some outer) builtins) Q E s := by
  simp only [newFunctionEnv, Option.isSome_some, if_true]
  refine wpAny_bind (wpAny_alloc ?_)
  refine wpAny_bind (wpAny_layCells _ (fun name kind cells => by cases hkc : kind == NameKind.cell <;> simp [hkc]) _ _ _ _ ?_)
  rw [show ({ s with heap := s.heap.push { cls := .type "dict", data := .dict #[] } } : Shared).heap.objs.size = s.heap.objs.size + 1 from Heap.size_push ..]
  exact wpAny_bind (wpAny_pure (wpAny_pure hQ))
section
variable {X : Cx} {scope : Scope} {N : List Str} {cap : List (Option Nat)} {pins : List (Addr × Obj)} {σ : St} {H : Hp} {s : Shared}
theorem stk_lt (I : Inv X pins σ H s) {b : Addr} (hb : b ∈ frs X.stack) : b < s.heap.objs.size := by
  obtain ⟨_, o, ho, _⟩ := I.stack.mem hb
  exact Heap.lt_size ho
theorem comp_clos (S : CompScope X scope N cap) (I : Inv X pins σ H s) : closureFor scope X.env = pure (closL X.env.cells scope.names []) :=
  closureFor_eq fun x hx hf => I.ok.has x.1 (S.free x hx hf)
theorem bcells_of {C : Addr} {x : Str} {c : Addr} (S : CompScope X scope N cap) (I : Inv X pins σ H s) (h : (bcells X scope C).lookup x = some c) : (cellsFrom (C + 1) scope.names []).lookup x = some c ∨ X.env.cells.lookup x = some c := by
  unfold bcells at h
  rw [cellsFrom_split] at h
  cases e : (cellsFrom (C + 1) scope.names []).lookup x with
  | some c' =>
    rw [e] at h
    exact .inl h
  | none =>
    rw [e] at h
    have h' : (closL X.env.cells scope.names []).lookup x = some c := h
    rcases closL_of _ _ h' with ⟨h1, h2⟩ | h1
    · obtain ⟨c', ec⟩ := I.ok.has x (S.free _ h1 rfl)
      rw [ec] at h2
      rw [h2]
      exact .inr ec
    · cases h1
theorem inv_comp {fp : List Addr} {C D : Addr} {o : Obj} {s4 : Shared} {m : Str → Option Value} (S : CompScope X scope N cap) (I : Inv X pins σ H s) (f : ∀ b ∈ fp, FpOk X pins H b) (hfp : ∀ b ∈ fp, b < s.heap.objs.size)
    (hk : ∀ b u, s.heap.get? b = some u → s4.heap.get? b = some u) (hns : s4.heap.Ns C m) (hC : s.heap.objs.size ≤ C) (hD : s.heap.objs.size ≤ D) (hDC : D ≠ C) (eD : s4.heap.get? D = some o) (hcell : ∀ v, o.data ≠ .cell v)
    (hnew : CellsOk s4.heap (C + 1) (cellsFrom (C + 1) scope.names [])) (hos : s4.os = s.os) (hg : s4.gens = s.gens) : Inv (cxC X scope N fp s H C) [(D, o)] (capσ cap σ) H s4 := by
  have stkne : ∀ b ∈ fp, b ∉ frs X.stack := fun b hb hz => by
    obtain ⟨_, h1, h2, _⟩ := f b hb
    rcases List.mem_cons.mp (I.stkSub b hz) with e | e
    · exact h1 e
    · exact h2 e
  have nw : ∀ {x : Str} {c : Addr}, (cellsFrom (C + 1) scope.names []).lookup x = some c → s4.heap.IsCell c none ∧ Nat.lt C c := fun {x c} h => hnew.empty x c (PySem.mem_of_lookup h)
  have od : ∀ {x : Str} {c : Addr}, X.env.cells.lookup x = some c → c < s.heap.objs.size := fun {x c} h => let ⟨_, q⟩ := I.cell x c h; q.lt
  refine ⟨⟨I.ok.mod, S.kind, I.ok.glob, I.ok.blt, hC, fun x y c h1 h2 => ?_, fun x h => ?_, fun x c h1 h2 => ?_, I.ok.hd, I.ok.frames, .inl rfl, fun b hb => ⟨?_, fun x c e => ?_⟩, I.bs, Nat.le_trans I.ok.bsz I.sz, fun b ob e hb => ?_, stkne, I.stack, I.stkFree⟩,
    hos, by rw [hg]; exact I.bare, Un.kept hk, ⟨m, hns, fun j x v e1 e2 e3 => ?_⟩, fun x c e => ?_, I.hok.fresh hC, fun x c e => ?_, fun p hp => ?_, I.hok.kept hk, ?_⟩
  · rcases bcells_of S I h1 with q1 | q1 <;> rcases bcells_of S I h2 with q2 | q2
    · exact name_of_addr hnew.apart (PySem.mem_of_lookup q1) (PySem.mem_of_lookup q2)
    · exact absurd (Nat.lt_of_le_of_lt hC (nw q1).2) (Nat.not_lt_of_lt (od q2))
    · exact absurd (Nat.lt_of_le_of_lt hC (nw q2).2) (Nat.not_lt_of_lt (od q1))
    · exact I.ok.inj x y c q1 q2
  · have h' : (relabel scope X.env).names.lookup x = some .cell ∨ (relabel scope X.env).names.lookup x = some .free := h
    rw [relabel_names I.ok.kind] at h'
    show ∃ c, (cellsFrom (C + 1) scope.names (closL X.env.cells scope.names [])).lookup x = some c
    rw [cellsFrom_split]
    rcases relN_of h' with q | q
    · obtain ⟨c, e⟩ := cell_has (n := C + 1) q
      exact ⟨c, by rw [e]; rfl⟩
    · obtain ⟨c, e⟩ := closL_has (cells := X.env.cells) scope.names [] (.inl (PySem.mem_of_lookup q))
      cases e2 : (cellsFrom (C + 1) scope.names []).lookup x with
      | some c' => exact ⟨c', rfl⟩
      | none => exact ⟨c, e⟩
  · have h1' : (scope.names.lookup x == some .cell) = true := h1
    have q : scope.names.lookup x = some .cell := by simpa using h1'
    obtain ⟨c', e⟩ := cell_has (n := C + 1) q
    have h2' : (cellsFrom (C + 1) scope.names (closL X.env.cells scope.names [])).lookup x = some c := h2
    rw [cellsFrom_split, e] at h2'
    have h3 : c' = c := Option.some.inj h2'
    rw [← h3]
    exact Nat.le_of_lt (Nat.lt_of_le_of_lt hC (nw e).2)
  · exact Nat.ne_of_lt (Nat.lt_of_lt_of_le (hfp b hb) hC)
  · rcases bcells_of S I e with q | q
    · exact Nat.ne_of_gt (Nat.lt_trans (Nat.lt_of_lt_of_le (hfp b hb) hC) (nw q).2)
    · exact (f b hb).2.2.2.2.1 x c q
  · obtain ⟨_, _, _, h4, _⟩ := f b hb
    rcases h4 with h4 | h4
    · exact I.ok.noex b ob e h4
    · exact absurd (Nat.lt_of_lt_of_le (Heap.lt_size e) (Nat.le_trans I.ok.bsz h4)) (Nat.lt_irrefl _)
  ·
    have e2' : (cap.map fun o => match o with | some i => (σ[i]?).getD none | none => none)[j]? = some (some v) := e2
    rw [List.getElem?_map] at e2'
    cases ec : cap[j]? with
    | none => rw [ec] at e2'; cases e2'
    | some oi =>
      rw [ec] at e2'
      cases oi with
      | none => cases e2'
      | some i =>
        have e4 : (σ[i]?).getD none = some v := Option.some.inj e2'
        have e5 : σ[i]? = some (some v) := by
          cases q : σ[i]? with
          | none => rw [q] at e4; cases e4
          | some w => rw [q] at e4; exact congrArg some e4
        obtain ⟨h1, hf, hnc⟩ := S.cap j i x ec e1
        have hm := PySem.mem_of_lookup hf
        have h2 := S.free _ hm rfl
        obtain ⟨mo, _, hl⟩ := I.loc
        obtain ⟨u, ru, lk⟩ := hl i x v h1 e5 (.inr h2)
        have h3 : (relabel scope X.env).names.lookup x = some .cell ∨ (relabel scope X.env).names.lookup x = some .free := by
          rw [relabel_names I.ok.kind]
          exact relN_free hf
        refine ⟨u, ru, .inr ⟨h3, ?_⟩⟩
        rcases lk with ⟨k1, _⟩ | ⟨_, c, ec', z⟩
        · have k1' : X.env.scope.names.lookup x = some .local := k1
          rcases h2 with h2 | h2 <;> rw [h2] at k1' <;> cases k1'
        · obtain ⟨c', ec2⟩ := closL_has (cells := X.env.cells) scope.names [] (.inl hm)
          have ec3 : (bcells X scope C).lookup x = some c' := by
            unfold bcells
            rw [cellsFrom_not _ _ _ hnc]
            exact ec2
          rcases closL_of _ _ ec2 with ⟨_, q2⟩ | q2
          · rw [ec'] at q2
            have q3 : c' = c := q2
            subst q3
            obtain ⟨oc, ho, hd⟩ := z
            exact ⟨c', ec3, oc, hk _ _ ho, hd⟩
          · cases q2
  · rcases bcells_of S I e with q | q
    · exact ⟨none, (nw q).1⟩
    · obtain ⟨v, oc, ho, hd⟩ := I.cell x c q
      exact ⟨v, oc, hk _ _ ho, hd⟩
  · rcases bcells_of S I e with q | q
    · exact I.hok.fresh (Nat.le_trans hC (Nat.le_of_lt (nw q).2))
    · exact I.freeC x c q
  · have e : p = (D, o) := by simpa [cxC] using hp
    subst e
    exact ⟨eD, I.hok.fresh hD, hDC, fun hz => absurd (stk_lt I hz) (Nat.not_lt.mpr hD), hcell⟩
  · show (cap.map _).length = N.length
    rw [List.length_map, S.len]
theorem comp_back {fp : List Addr} {C : Addr} {σ' : St} {H' : Hp} {s' : Shared} (I : Inv X pins σ H s) (f : ∀ b ∈ fp, FpOk X pins H b) (J : Inv (cxC X scope N fp s H C) [] σ' H' s') : Inv X pins σ H' s' :=
  I.call' (ch := fp) J.os J.base J.hok J.bare fun b hb => let ⟨_, h1, _, h3, h4, h5⟩ := f b hb; ⟨h3, h1, h4, h5⟩
end
def PIf (X : Cx) (ifs : List Expr) (t : TT) : Prop := ∀ (pins : List (Addr × Obj)) (s : Shared) (σ : St) (H : Hp) (Q : Bool → Hp → Prop), Inv X pins σ H s → t σ H Q →
  wpAny (model X.prog X.w) X.A (forIn ifs true fun c r => if r = true then do let ok ← isTrue c X.env (eval c X.env); pure (ForInStep.yield ok) else pure (ForInStep.yield r)) (TP X pins σ Q) X.xe s
def tYes : TT := fun _ H Q => Q true H
theorem pif_nil {X : Cx} : PIf X [] tYes := fun _ _ _ H _ I h => wpAny_tests_nil ⟨H, I, h⟩
theorem pif_one {X : Cx} {c : Expr} {t : TT} (h : PT X c t) : PIf X [c] t := fun pins s σ H Q I hw => wpAny_tests_one (h pins s σ H Q I hw)
theorem compLoop_any {prog : Program} {w : World} {A : Around} {R : Result → Shared → Prop} {s : Shared} {elt target iter : Expr} {ifs : List Expr} {scope : Scope} {pos : Pos} {it acc : Value} {env : Env} (I : Nat → Shared → Prop)
    (turn : ∀ n s, I n s → wpAny (model prog w) A (pyNext it) (fun r s₁ => match r with
      | none => R (.ok .next) s₁
      | some v => wpAny (model prog w) A (letOwnedTupleGo target it v) (fun _ s₁' => wpAny (model prog w) A (assign target env v) (fun _ s₂ =>
          wpAny (model prog w) A (forIn ifs true fun c r => if r = true then do let ok ← isTrue c env (eval c env); pure (ForInStep.yield ok) else pure (ForInStep.yield r)) (fun ok s₂' =>
            if ok = true then wpAny (model prog w) A (eval elt env) (fun x s₃ =>
              wpAny (model prog w) A (call (.builtin "list.append") [acc, x]) (fun _ s₄ => ∃ m, m < n ∧ I m s₄) (fun _ _ => False) s₃) (fun _ _ => False) s₂'
            else ∃ m, m < n ∧ I m s₂') (fun _ _ => False) s₂) (fun _ _ => False) s₁') (fun _ _ => False) s₁) (fun _ _ => False) s)
    (n : Nat) (h : I n s) : codeAny (model prog w) A (.compLoop (.ListComp elt [⟨target, iter, ifs, 0⟩] scope pos) 0 it acc env) R s := by
  refine codeAny_loop rfl I (fun n s hI => ?_) n h
  show wpAny _ _ ((compTurn (.ListComp elt [⟨target, iter, ifs, 0⟩] scope pos) 0 it acc env).onRaise (fun x => do noteFrame x env; theTreesLotGoes x)) _ _ s
  refine wpAny_noted ?_
  rw [compTurn_list]
  refine wpAny_bind (wpAny_standAt (wpAny_bind (wpAny_mono (turn n s hI) (fun r s₁ h₁ => ?_) fun _ _ h' => h'.elim)))
  cases r with
  | none => exact wpAny_pure h₁
  | some v =>
    refine wpAny_bind (wpAny_mono h₁ (fun _ s₁' h₁' => ?_) fun _ _ h' => h'.elim)
    refine wpAny_bind (wpAny_mono h₁' (fun _ s₂ h₂ => wpAny_bind (wpAny_mono h₂ (fun ok s₂' h₂' => ?_) fun _ _ h' => h'.elim)) fun _ _ h' => h'.elim)
    cases ok with
    | false => exact wpAny_pure ⟨rfl, h₂'⟩
    | true =>
      exact wpAny_bind (wpAny_bind (wpAny_mono h₂' (fun x s₃ h₃ => wpAny_bind (wpAny_mono h₃ (fun _ s₄ h₄ => wpAny_pure (wpAny_pure ⟨rfl, h₄⟩)) fun _ _ h' => h'.elim)) fun _ _ h' => h'.elim))
def tCompT (wi : TI) (cap : List (Option Nat)) (g : TG) (tt : TT) (te : TE) : TE := fun σ H Q => wi σ H fun J H1 => ∃ W : Nat → Nat → St → List V → Hp → Prop, (∃ m, W 0 m (capσ cap σ) [] H1) ∧ ∀ i m σ' ys H', W i m σ' ys H' →
  (J.stop i H' ∧ ∀ D, H' D = none → Q (.ref D) (upd H' D (.lst ys))) ∨ (J.go i H' ∧ ys.length < sizeLine ∧ ∃ (N : St → V → Hp → Prop) (N0 : St → Hp → Prop), (∀ σ2 y H4, N σ2 y H4 → ∃ m', m' < m ∧ W (i + 1) m' σ2 (ys ++ [y]) H4) ∧ (∀ σ2 H4, N0 σ2 H4 → ∃ m', m' < m ∧ W (i + 1) m' σ2 ys H4) ∧
    ∀ x H2, J.yld i H' x H2 → g x σ' H2 fun σ2 H3 => tt σ2 H3 fun b H4 => if b = true then te σ2 H4 (N σ2) else N0 σ2 H4)
def tComp (wi : TI) (cap : List (Option Nat)) (g : TG) (te : TE) : TE := fun σ H Q => wi σ H fun J H1 => ∃ W : Nat → Nat → St → List V → Hp → Prop, (∃ m, W 0 m (capσ cap σ) [] H1) ∧ ∀ i m σ' ys H', W i m σ' ys H' →
  (J.stop i H' ∧ ∀ D, H' D = none → Q (.ref D) (upd H' D (.lst ys))) ∨ (J.go i H' ∧ ys.length < sizeLine ∧ ∃ N : St → V → Hp → Prop, (∀ σ2 y H4, N σ2 y H4 → ∃ m', m' < m ∧ W (i + 1) m' σ2 (ys ++ [y]) H4) ∧
    ∀ x H2, J.yld i H' x H2 → g x σ' H2 fun σ2 H3 => te σ2 H3 (N σ2))
section
variable {X : Cx} {scope : Scope} {N : List Str} {cap : List (Option Nat)} {pins : List (Addr × Obj)} {σ : St} {H2 : Hp} {s2 : Shared} {tg elt iter : Expr} {ifs : List Expr} {pos : Pos} {g : TG} {tt : TT} {te : TE}
theorem comp_block {fp : List Addr} {it : Addr} {tn : Nat → Heap → Prop} {J : It} {Q : VK} {RR : Value → Addr → Result → Shared → Prop} {E : Value → Shared → Prop} (S : CompScope X scope N cap) (hc : X.calm = true)
    (hg : ∀ fp s H C, PG (cxC X scope N fp s H C) tg g) (ht : ∀ fp s H C, PIf (cxC X scope N fp s H C) ifs tt) (he : ∀ fp s H C, PE (cxC X scope N fp s H C) elt te)
    (I2 : Inv X pins σ H2 s2) (T : Turn X.prog X.w X.K tg J fp it tn) (st2 : tn 0 s2.heap) (f2 : ∀ b ∈ fp, FpOk X pins H2 b)
    (W : Nat → Nat → St → List V → Hp → Prop) {m0 : Nat} (w0 : W 0 m0 (capσ cap σ) [] H2)
    (turn : ∀ i m σ' ys H', W i m σ' ys H' → (J.stop i H' ∧ ∀ D, H' D = none → Q (.ref D) (upd H' D (.lst ys))) ∨ (J.go i H' ∧ ys.length < sizeLine ∧ ∃ (N : St → V → Hp → Prop) (N0 : St → Hp → Prop), (∀ σ2 y H4, N σ2 y H4 → ∃ m', m' < m ∧ W (i + 1) m' σ2 (ys ++ [y]) H4) ∧ (∀ σ2 H4, N0 σ2 H4 → ∃ m', m' < m ∧ W (i + 1) m' σ2 ys H4) ∧
      ∀ x H2, J.yld i H' x H2 → g x σ' H2 fun σ2 H3 => tt σ2 H3 fun b H4 => if b = true then te σ2 H4 (N σ2) else N0 σ2 H4))
    (hRR : ∀ (D C : Addr) (H' : Hp) (s' : Shared) (m : Str → Option Value), Inv X pins σ H' s' → FpOk X pins H' C → C ≠ D → s'.heap.Ns C m → Q (.ref D) H' → RR (.ref D) C (.ok .next) s') :
    wpAny (model X.prog X.w) X.A (newList []) (fun acc s₃ => wpAny (model X.prog X.w) X.A (newFunctionEnv scope X.env.globals (closL X.env.cells scope.names []) [] X.env.qual none .none (some X.env)) (fun cenv s₄ =>
      codeAny (model X.prog X.w) X.A (.compStart (.ListComp elt [⟨tg, iter, ifs, 0⟩] scope pos) 0 (.ref it) acc { cenv with scope := relabel scope X.env }) (RR acc cenv.locals) s₄) E s₃) E s2 := by
  refine wpAny_newObj_type (newEnv_around ?_)
  dsimp only
  generalize hP : s2.heap.push { cls := .type "list", dict := none, data := .seq ([] : List Value).toArray } = P
  have hnew : CellsOk (pushCells (P.push { cls := .type "dict", data := .dict #[] }) scope.names) (P.objs.size + 1) (cellsFrom (P.objs.size + 1) scope.names []) := by
    have q := cellsFrom_ok scope.names (P.push { cls := .type "dict", data := .dict #[] }) (P.objs.size + 1) [] ⟨fun _ _ hm => (nomatch hm), List.Pairwise.nil⟩ (by rw [Heap.size_push]; exact Nat.le_refl _)
    rwa [Heap.size_push] at q
  have hns₁ : (pushCells (P.push { cls := .type "dict", data := .dict #[] }) scope.names).Ns P.objs.size (fun _ => none) := (Heap.Ns.new P (.type "dict")).keeps (pushCells_keeps _ _)
  have keep₁ : ∀ b o, P.get? b = some o → (pushCells (P.push { cls := .type "dict", data := .dict #[] }) scope.names).get? b = some o := fun b o e => pushCells_keeps _ _ b o (Heap.get?_push_of_some _ e)
  generalize pushCells (P.push { cls := .type "dict", data := .dict #[] }) scope.names = h₁ at hnew hns₁ keep₁ ⊢
  have hC : P.objs.size = s2.heap.objs.size + 1 := by rw [← hP, Heap.size_push]
  have hDC : s2.heap.objs.size ≠ P.objs.size := by rw [hC]; exact Nat.ne_of_lt (Nat.lt_succ_self _)
  have hCle : s2.heap.objs.size ≤ P.objs.size := by rw [hC]; exact Nat.le_succ _
  have hDle : s2.heap.objs.size ≤ s2.heap.objs.size := Nat.le_refl _
  have old : ∀ b o, s2.heap.get? b = some o → h₁.get? b = some o := fun b o e => keep₁ b o (hP ▸ Heap.get?_push_of_some _ e)
  have hacc : h₁.get? s2.heap.objs.size = some { cls := .type "list", data := .seq ([] : List Value).toArray } := keep₁ _ _ (hP ▸ Heap.get?_push_size _ rfl)
  have hfp : ∀ b ∈ fp, b < s2.heap.objs.size := fun b hb => let ⟨_, e, _⟩ := T.obj 0 _ st2 b hb; Heap.lt_size e
  generalize hDd : s2.heap.objs.size = D at hacc hDC hDle ⊢
  rw [hDd] at hCle hC
  generalize P.objs.size = C at hnew hns₁ hC hDC hCle ⊢
  have dne : ∀ b ∈ fp, D ≠ b := fun b hb => Nat.ne_of_gt (hDd ▸ hfp b hb)
  have cne : ∀ b ∈ fp, b ≠ C := fun b hb => Nat.ne_of_lt (Nat.lt_of_lt_of_le (hDd ▸ hfp b hb) hCle)
  have stkne : ∀ b ∈ fp, b ∉ frs X.stack := fun b hb hz => by
    obtain ⟨_, h1, h2, _⟩ := f2 b hb
    rcases List.mem_cons.mp (I2.stkSub b hz) with e | e
    · exact h1 e
    · exact h2 e
  have dfs : D ∉ frs X.stack := fun hz => absurd (stk_lt I2 hz) (by rw [hDd]; exact Nat.lt_irrefl _)
  have dcell : ∀ x c, (bcells X scope C).lookup x = some c → c ≠ D := fun x c e z => by
    rcases bcells_of S I2 e with e | e
    · have q : Nat.lt C c := (hnew.empty x c (PySem.mem_of_lookup e)).2
      rw [z] at q
      exact absurd (Nat.lt_of_le_of_lt hCle q) (Nat.lt_irrefl _)
    · obtain ⟨v, q⟩ := I2.cell x c e
      have := q.lt
      rw [z, hDd] at this
      exact absurd this (Nat.lt_irrefl _)
  have bcell : ∀ b ∈ fp, ∀ x c, (bcells X scope C).lookup x = some c → c ≠ b := fun b hb x c e => by
    rcases bcells_of S I2 e with e | e
    · have q : Nat.lt C c := (hnew.empty x c (PySem.mem_of_lookup e)).2
      exact Nat.ne_of_gt (Nat.lt_trans (Nat.lt_of_lt_of_le (hDd ▸ hfp b hb) hCle) q)
    · exact (f2 b hb).2.2.2.2.1 x c e
  have stat : ∀ {o : Obj} {H' : Hp}, (∀ b ∈ fp, H' b = none) → ∀ b ∈ fp, FpOk (cxC X scope N fp s2 H2 C) [(D, o)] H' b := fun {o H'} hn b hb =>
    ⟨hn b hb, cne b hb, stkne b hb, .inl hb, bcell b hb, fun p hp => by
      have e : p = (D, o) := by simpa [cxC] using hp
      subst e
      exact dne b hb⟩
  have loop : ∀ s₃ : Shared, s₃ = { s2 with heap := h₁ } →
      codeAny (model X.prog X.w) X.A (.compLoop (.ListComp elt [⟨tg, iter, ifs, 0⟩] scope pos) 0 (.ref it) (.ref D) (compEnvC scope (bcells X scope C) C X.env)) (RR (.ref D) C) s₃ := by
    rintro s₃ rfl
    have I3 : Inv (cxC X scope N fp s2 H2 C) [(D, _)] (capσ cap σ) H2 { s2 with heap := h₁ } :=
      inv_comp S I2 f2 hfp old hns₁ (by rw [hDd]; exact hCle) (by rw [hDd]; exact Nat.le_refl _) hDC hacc (fun v z => by cases z) hnew rfl rfl
    refine compLoop_any (fun n s' => ∃ i σ' ys H' its k, Inv (cxC X scope N fp s2 H2 C) [] σ' H' s' ∧ tn i s'.heap ∧ (∀ b ∈ fp, H' b = none) ∧ H' D = none ∧ s'.heap.get? D = some { cls := .type "list", data := .seq (its : List Value).toArray k } ∧ Vals ys its ∧ ys.length ≤ sizeLine ∧ W i n σ' ys H') ?_ m0
      ⟨0, _, [], H2, [], _, I3.pins_of (fun p hp => nomatch hp), T.keep _ _ _ st2 (fun b hb o e => old b o e), fun b hb => (f2 b hb).1, I2.hok.fresh (by rw [hDd]; exact Nat.le_refl _), hacc, .nil, Nat.zero_le _, w0⟩
    rintro n s3 ⟨i, σ3, ys, H3, its, k, J3, st3, fr3, hD3, e3, r3, z3, w3⟩
    have J3' : Inv (cxC X scope N fp s2 H2 C) [(D, { cls := .type "list", data := .seq its.toArray k })] σ3 H3 s3 := J3.pins_of fun p hp => by
      have e : p = (D, { cls := .type "list", data := .seq its.toArray k }) := by simpa using hp
      subst e
      exact ⟨e3, hD3, hDC, dfs, fun v z => by cases z⟩
    rcases turn i n σ3 ys H3 w3 with ⟨stop, qn⟩ | ⟨go, hlt, N', N0', hN, hN0, step⟩
    · refine thn (T.done (cxC X scope N fp s2 H2 C) rfl rfl rfl hc i _ s3 σ3 H3 (fun _ _ => False) J3' (stat fr3) st3 stop) fun r s4 ⟨hr, I4⟩ => ?_
      subst hr
      have e4 := (I4.pin (D, { cls := .type "list", data := .seq its.toArray k }) (by simp [cxC])).1
      have B : Inv X pins σ H3 s4 := comp_back I2 f2 (I4.pins_of fun p hp => nomatch hp)
      obtain ⟨m, hm, _⟩ := I4.loc
      have fD : FpOk X pins H3 D := I2.fpOk (by rw [hDd]; exact Nat.le_refl _) hD3
      have B' : Inv X pins σ (upd H3 D (.lst ys)) s4 := B.adopt fD (by rw [← hDd]; exact I2.sz) ⟨z3, its, k, r3, e4⟩
      refine hRR D C _ s4 m B' (I2.fpOk (by rw [hDd]; exact hCle) ?_) hDC.symm hm (qn D hD3)
      rw [upd_ne hDC.symm]
      exact I4.free
    · refine thn (T.item (cxC X scope N fp s2 H2 C) rfl rfl rfl hc i _ s3 σ3 H3 (fun _ _ => False) J3' (stat fr3) st3 go) fun r s4 ⟨u, hr, h4⟩ => ?_
      subst hr
      refine thn h4 fun _ s5 ⟨x, H5, I5, r5, y5, st5, fr5⟩ => ?_
      have I5' := I5.pinned (stat fr5) (T.obj _ _ st5)
      refine thn (hg fp s2 H2 C _ s5 σ3 H5 x u _ I5' r5 (step x H5 y5)) fun _ s6 ⟨σ6, H6, I6, q6⟩ => ?_
      refine thn (ht fp s2 H2 C _ s6 σ6 H6 _ I6 q6) fun ok s6' ⟨H6', I6', q6'⟩ => ?_
      cases ok with
      | false =>
        have q6' : N0' σ6 H6' := by simpa using q6'
        obtain ⟨m', hm', w7⟩ := hN0 σ6 H6' q6'
        have p7 := I6'.pin (D, { cls := .type "list", data := .seq its.toArray k }) (by simp [cxC])
        have e7 : s6'.heap.get? D = some { cls := .type "list", data := .seq its.toArray k } := p7.1
        have pf : ∀ b ∈ fp, ∀ o, s5.heap.get? b = some o → s6'.heap.get? b = some o ∧ H6' b = none := fun b hb o e =>
          let z := I6'.pin (b, o) (List.mem_append_right _ (List.mem_append_right _ (mem_pinsAt hb e)))
          ⟨z.1, z.2.1⟩
        refine ⟨m', hm', i + 1, σ6, ys, H6', its, _, I6'.pins_of (fun p hp => nomatch hp), T.keep _ _ _ st5 (fun b hb o e => (pf b hb o e).1), fun b hb => ?_, p7.2.1, e7, r3, z3, w7⟩
        obtain ⟨o, e, _⟩ := T.obj _ _ st5 b hb
        exact (pf b hb o e).2
      | true =>
      have q6' : te σ6 H6' (N' σ6) := by simpa using q6'
      refine thn (he fp s2 H2 C _ s6' σ6 H6' _ I6' q6') fun v s7 ⟨y, H7, I7, r7, q7⟩ => ?_
      obtain ⟨m', hm', w7⟩ := hN σ6 y H7 q7
      have p7 := I7.pin (D, { cls := .type "list", data := .seq its.toArray k }) (by simp [cxC])
      have e7 : s7.heap.get? D = some { cls := .type "list", data := .seq its.toArray k } := p7.1
      have hl7 := r3.length
      refine call_meets F.slot_list_append ⟨_, e7, rfl⟩ F.entry_list_append (F.args_list_append_2 _ _) (PySem.list_append D its.toArray k v (by rw [List.size_toArray]; omega)) ⟨e7, ?_⟩
      have q8 := PySem.IsL.update e7 (·.push v)
      have ex8 : its.toArray.push v = (its ++ [v]).toArray := by simp
      rw [ex8] at q8
      have pf : ∀ b ∈ fp, ∀ o, s5.heap.get? b = some o → s7.heap.get? b = some o ∧ H7 b = none := fun b hb o e =>
        let z := I7.pin (b, o) (List.mem_append_right _ (List.mem_append_right _ (mem_pinsAt hb e)))
        ⟨z.1, z.2.1⟩
      have I7' : Inv (cxC X scope N fp s2 H2 C) [] σ6 H7 s7 := I7.pins_of fun p hp => nomatch hp
      refine ⟨m', hm', i + 1, σ6, ys ++ [y], H7, its ++ [v], _, I7'.turned (it := D) (fun b o hb e => (Heap.get?_update_other _ _ (Ne.symm hb)).trans e) p7.2.1 hDC (.inr (by show s2.heap.objs.size ≤ D; rw [hDd]; exact Nat.le_refl _)) dcell (fun p hp => nomatch hp),
        T.keep _ _ _ st5 (fun b hb o e => (Heap.get?_update_other _ _ (dne b hb)).trans (pf b hb o e).1), fun b hb => ?_, p7.2.1, q8, r3.append (.cons r7 .nil), by rw [List.length_append, List.length_singleton]; omega, w7⟩
      obtain ⟨o, e, _⟩ := T.obj _ _ st5 b hb
      exact (pf b hb o e).2
  have st1 : tn 0 h₁ := T.keep _ _ _ st2 (fun b hb o e => old b o e)
  exact codeAny_compStart_list (loop _ rfl) (T.self X.A 0 _ _ _ st1 (loop _ rfl))
theorem pe_compT {wi : TI} (S : CompScope X scope N cap) (hc : X.calm = true) (hi : PI X tg iter wi) (hg : ∀ fp s H C, PG (cxC X scope N fp s H C) tg g) (ht : ∀ fp s H C, PIf (cxC X scope N fp s H C) ifs tt) (he : ∀ fp s H C, PE (cxC X scope N fp s H C) elt te)
    (hs : ∀ x, foldedSetIterable iter X.env x = pure x := by intro _; rfl) : PE X (.ListComp elt [⟨tg, iter, ifs, 0⟩] scope pos) (tCompT wi cap g tt te) := by
  intro pins s σ H Q I h
  rw [eval_ListComp]
  refine wpAny_comprehension_free (use := none) rfl hs (comp_clos S I) S.kind S.names (thn (hi pins s σ H _ I h) fun v s1 h1 => thn h1 fun itv s2 h2 => ?_)
  obtain ⟨it, fp, tn, J, H2, e, I2, T, st2, f2, W, ⟨m0, w0⟩, turn⟩ := h2
  subst e
  refine comp_block (RR := fun acc C => compPost (model X.prog X.w) X.A X.xe none (EP X pins σ Q) acc C) S hc hg ht he I2 T st2 f2 W w0 turn fun D C H' s' m B fC hCD hm q => ?_
  obtain ⟨c0, c1, c2, c3, c4, c5⟩ := fC
  exact ⟨m, hm, fun h' hs' => ⟨.ref D, H', B.turned (t' := s'.toks) (fun b o hb e => (hs'.2 b hb).trans e) c0 c1 c3 c4 c5, rfl, q⟩⟩
theorem ps_setCT {wi : TI} {i : Nat} {y : Str} {py spos : Pos} (S : CompScope X scope N cap) (hc : X.calm = true) (hi : PI X tg iter wi) (hg : ∀ fp s H C, PG (cxC X scope N fp s H C) tg g) (ht : ∀ fp s H C, PIf (cxC X scope N fp s H C) ifs tt) (he : ∀ fp s H C, PE (cxC X scope N fp s H C) elt te)
    (hA : PG X (.Name y py) (gName i)) (hsw : swapsWith (.ListComp elt [⟨tg, iter, ifs, 0⟩] scope pos) (some (.Name y py)) spos.line X.env = pure true := by rfl)
    (hs : ∀ x, foldedSetIterable iter X.env x = pure x := by intro _; rfl) : PS X (.Assign [.Name y py] (.ListComp elt [⟨tg, iter, ifs, 0⟩] scope pos) spos) (tAsg (tCompT wi cap g tt te) (gName i)) := by
  intro pins s σ H D I h
  rw [exec_Assign_Name_used _ _ _ _ hsw]
  refine wpAny_bind (wpAny_standAt (wpAny_bind ?_))
  show wpAny _ X.A (do let _ ← comprehension (.ListComp elt [⟨tg, iter, ifs, 0⟩] scope pos) scope X.env _ (newList []) false (eval iter X.env) (some (assign (.Name y py) X.env))) _ _ s
  refine wpAny_bind (wpAny_mono (wpAny_comprehension_free (use := some (assign (.Name y py) X.env)) (Q := fun _ s' => SP X pins D .next s') rfl hs (comp_clos S I) S.kind S.names
    (thn (hi pins s σ H _ I h) fun v s1 h1 => thn h1 fun itv s2 h2 => ?_)) (fun _ s' hq => wpAny_pure (wpAny_pure hq)) fun _ _ e => e)
  obtain ⟨it, fp, tn, J, H2, e, I2, T, st2, f2, W, ⟨m0, w0⟩, turn⟩ := h2
  subst e
  refine comp_block (Q := fun v H' => gName i v σ H' D.nx) (RR := fun acc C => compPost (model X.prog X.w) X.A X.xe (some (assign (.Name y py) X.env)) (fun _ s' => SP X pins D .next s') acc C) S hc hg ht he I2 T st2 f2 W w0 turn fun D' C H' s' m B fC hCD hm q => ?_
  obtain ⟨c0, c1, c2, c3, c4, c5⟩ := fC
  obtain ⟨oC, es, ep, eC, dC, kC⟩ := hm
  have B' : Inv X (pins ++ [(C, oC)]) σ H' s' := B.pins_of fun p hp => by
    rcases List.mem_append.mp hp with hp | hp
    · exact B.pin p (List.mem_append_right _ hp)
    · have e : p = (C, oC) := by simpa using hp
      subst e
      exact ⟨eC, c0, c1, c2, fun v z => by rw [dC] at z; cases z⟩
  refine thn (hA _ s' σ H' (.ref D') (.ref D') _ B' rfl q) fun _ s'' ⟨σ2, H3, I3, q3⟩ => ?_
  obtain ⟨e3, n3, _⟩ := I3.pin (C, oC) (List.mem_append_right _ (List.mem_append_right _ (by simp)))
  exact ⟨m, ⟨oC, es, ep, e3, dC, kC⟩, fun h' hs' => ⟨σ2, H3, I3.unpinned.turned (t' := s''.toks) (fun b o hb e => (hs'.2 b hb).trans e) n3 c1 c3 c4 c5, q3⟩⟩
theorem comp_turn {J : It} {Q : VK} {W : Nat → Nat → St → List V → Hp → Prop} (h : ∀ i m σ' ys H', W i m σ' ys H' → (J.stop i H' ∧ ∀ D, H' D = none → Q (.ref D) (upd H' D (.lst ys))) ∨ (J.go i H' ∧ ys.length < sizeLine ∧ ∃ N : St → V → Hp → Prop, (∀ σ2 y H4, N σ2 y H4 → ∃ m', m' < m ∧ W (i + 1) m' σ2 (ys ++ [y]) H4) ∧
      ∀ x H2, J.yld i H' x H2 → g x σ' H2 fun σ2 H3 => te σ2 H3 (N σ2))) : ∀ i m σ' ys H', W i m σ' ys H' → (J.stop i H' ∧ ∀ D, H' D = none → Q (.ref D) (upd H' D (.lst ys))) ∨ (J.go i H' ∧ ys.length < sizeLine ∧ ∃ (N : St → V → Hp → Prop) (N0 : St → Hp → Prop), (∀ σ2 y H4, N σ2 y H4 → ∃ m', m' < m ∧ W (i + 1) m' σ2 (ys ++ [y]) H4) ∧ (∀ σ2 H4, N0 σ2 H4 → ∃ m', m' < m ∧ W (i + 1) m' σ2 ys H4) ∧
      ∀ x H2, J.yld i H' x H2 → g x σ' H2 fun σ2 H3 => tYes σ2 H3 fun b H4 => if b = true then te σ2 H4 (N σ2) else N0 σ2 H4) := by
  intro i m σ' ys H' w
  rcases h i m σ' ys H' w with h | ⟨go, hl, N, hN, st⟩
  · exact .inl h
  · refine .inr ⟨go, hl, N, fun _ _ => False, hN, (fun _ _ z => z.elim), fun x H2 y => ?_⟩
    have e : (fun (σ2 : St) (H3 : Hp) => tYes σ2 H3 fun b H4 => if b = true then te σ2 H4 (N σ2) else False) = fun σ2 H3 => te σ2 H3 (N σ2) := by
      funext σ2 H3
      show (if true = true then te σ2 H3 (N σ2) else False) = te σ2 H3 (N σ2)
      rw [if_pos rfl]
    rw [e]
    exact st x H2 y
theorem pe_comp {wi : TI} (S : CompScope X scope N cap) (hc : X.calm = true) (hi : PI X tg iter wi) (hg : ∀ fp s H C, PG (cxC X scope N fp s H C) tg g) (he : ∀ fp s H C, PE (cxC X scope N fp s H C) elt te)
    (hs : ∀ x, foldedSetIterable iter X.env x = pure x := by intro _; rfl) : PE X (.ListComp elt [⟨tg, iter, [], 0⟩] scope pos) (tComp wi cap g te) := by
  intro pins s σ H Q I h
  rw [eval_ListComp]
  refine wpAny_comprehension_free (use := none) rfl hs (comp_clos S I) S.kind S.names (thn (hi pins s σ H _ I h) fun v s1 h1 => thn h1 fun itv s2 h2 => ?_)
  obtain ⟨it, fp, tn, J, H2, e, I2, T, st2, f2, W, ⟨m0, w0⟩, turn⟩ := h2
  subst e
  refine comp_block (RR := fun acc C => compPost (model X.prog X.w) X.A X.xe none (EP X pins σ Q) acc C) S hc hg (fun _ _ _ _ => pif_nil) he I2 T st2 f2 W w0 (comp_turn turn) fun D C H' s' m B fC hCD hm q => ?_
  obtain ⟨c0, c1, c2, c3, c4, c5⟩ := fC
  exact ⟨m, hm, fun h' hs' => ⟨.ref D, H', B.turned (t' := s'.toks) (fun b o hb e => (hs'.2 b hb).trans e) c0 c1 c3 c4 c5, rfl, q⟩⟩
theorem ps_setC {wi : TI} {i : Nat} {y : Str} {py spos : Pos} (S : CompScope X scope N cap) (hc : X.calm = true) (hi : PI X tg iter wi) (hg : ∀ fp s H C, PG (cxC X scope N fp s H C) tg g) (he : ∀ fp s H C, PE (cxC X scope N fp s H C) elt te)
    (hA : PG X (.Name y py) (gName i)) (hsw : swapsWith (.ListComp elt [⟨tg, iter, [], 0⟩] scope pos) (some (.Name y py)) spos.line X.env = pure true := by rfl)
    (hs : ∀ x, foldedSetIterable iter X.env x = pure x := by intro _; rfl) : PS X (.Assign [.Name y py] (.ListComp elt [⟨tg, iter, [], 0⟩] scope pos) spos) (tAsg (tComp wi cap g te) (gName i)) := by
  intro pins s σ H D I h
  rw [exec_Assign_Name_used _ _ _ _ hsw]
  refine wpAny_bind (wpAny_standAt (wpAny_bind ?_))
  show wpAny _ X.A (do let _ ← comprehension (.ListComp elt [⟨tg, iter, [], 0⟩] scope pos) scope X.env _ (newList []) false (eval iter X.env) (some (assign (.Name y py) X.env))) _ _ s
  refine wpAny_bind (wpAny_mono (wpAny_comprehension_free (use := some (assign (.Name y py) X.env)) (Q := fun _ s' => SP X pins D .next s') rfl hs (comp_clos S I) S.kind S.names
    (thn (hi pins s σ H _ I h) fun v s1 h1 => thn h1 fun itv s2 h2 => ?_)) (fun _ s' hq => wpAny_pure (wpAny_pure hq)) fun _ _ e => e)
  obtain ⟨it, fp, tn, J, H2, e, I2, T, st2, f2, W, ⟨m0, w0⟩, turn⟩ := h2
  subst e
  refine comp_block (Q := fun v H' => gName i v σ H' D.nx) (RR := fun acc C => compPost (model X.prog X.w) X.A X.xe (some (assign (.Name y py) X.env)) (fun _ s' => SP X pins D .next s') acc C) S hc hg (fun _ _ _ _ => pif_nil) he I2 T st2 f2 W w0 (comp_turn (Q := fun v H' => gName i v σ H' D.nx) turn) fun D' C H' s' m B fC hCD hm q => ?_
  obtain ⟨c0, c1, c2, c3, c4, c5⟩ := fC
  obtain ⟨oC, es, ep, eC, dC, kC⟩ := hm
  have B' : Inv X (pins ++ [(C, oC)]) σ H' s' := B.pins_of fun p hp => by
    rcases List.mem_append.mp hp with hp | hp
    · exact B.pin p (List.mem_append_right _ hp)
    · have e : p = (C, oC) := by simpa using hp
      subst e
      exact ⟨eC, c0, c1, c2, fun v z => by rw [dC] at z; cases z⟩
  refine thn (hA _ s' σ H' (.ref D') (.ref D') _ B' rfl q) fun _ s'' ⟨σ2, H3, I3, q3⟩ => ?_
  obtain ⟨e3, n3, _⟩ := I3.pin (C, oC) (List.mem_append_right _ (List.mem_append_right _ (by simp)))
  exact ⟨m, ⟨oC, es, ep, e3, dC, kC⟩, fun h' hs' => ⟨σ2, H3, I3.unpinned.turned (t' := s''.toks) (fun b o hb e => (hs'.2 b hb).trans e) n3 c1 c3 c4 c5, q3⟩⟩
end
section
variable {g : TG} {te : TE} {σ : St} {H : Hp} {R : List V → Hp → Addr → Prop}
theorem comp_list {K : PySem.W.Frag} {a : Addr} {xs : List V} (Pv : Nat → St → List V → Hp → Prop) (h0 : Pv 0 σ [] H) (hz : xs.length ≤ sizeLine) (hl : ∀ i σ ys H, i ≤ xs.length → Pv i σ ys H → SqL K H a xs ∧ ys.length = i)
    (hs : ∀ i x σ ys H, xs[i]? = some x → Pv i σ ys H → g x σ H fun σ2 H2 => te σ2 H2 fun y H3 => Pv (i + 1) σ2 (ys ++ [y]) H3) (hd : ∀ σ ys H, Pv xs.length σ ys H → ∀ D, H D = none → R ys H D) :
    ∃ W : Nat → Nat → St → List V → Hp → Prop, (∃ m, W 0 m σ [] H) ∧ ∀ i m σ' ys H', W i m σ' ys H' →
      ((Itl K a).stop i H' ∧ ∀ D, H' D = none → R ys H' D) ∨ ((Itl K a).go i H' ∧ ys.length < sizeLine ∧ ∃ N : St → V → Hp → Prop, (∀ σ2 y H4, N σ2 y H4 → ∃ m', m' < m ∧ W (i + 1) m' σ2 (ys ++ [y]) H4) ∧
        ∀ x H2, (Itl K a).yld i H' x H2 → g x σ' H2 fun σ2 H3 => te σ2 H3 (N σ2)) := by
  refine ⟨fun i m σ ys H => m = xs.length - i ∧ i ≤ xs.length ∧ Pv i σ ys H, ⟨xs.length, by simp, Nat.zero_le _, h0⟩, ?_⟩
  rintro i m σ ys H ⟨rfl, hi, p⟩
  obtain ⟨q, el⟩ := hl i σ ys H hi p
  by_cases hlt : i < xs.length
  · refine .inr ⟨⟨xs, xs[i], q, by simp [hlt]⟩, by omega, fun σ2 y H3 => Pv (i + 1) σ2 (ys ++ [y]) H3, fun σ' y H' p' => ⟨xs.length - (i + 1), by omega, rfl, hlt, p'⟩, fun x H' yl => ?_⟩
    obtain ⟨e, yl⟩ := yl
    subst e
    exact hs i x σ ys _ (yl xs q) p
  · have e : i = xs.length := by omega
    subst e
    exact .inl ⟨⟨xs, q, Nat.le_refl _⟩, hd σ ys H p⟩
end
theorem CompScope.plain {X : Cx} {scope : Scope} {N : List Str} (kind : scope.kind = .function) (names : ∀ x ∈ scope.names, x.2 = .local → scope.names.lookup x.1 = some .local) (_ : ∀ x ∈ scope.names, x.2 ≠ .cell) (nf : ∀ x ∈ scope.names, x.2 ≠ .free) (nd : N.Nodup) :
    CompScope X scope N (List.replicate N.length none) := by
  refine ⟨kind, names, fun x hx hf => absurd hf (nf x hx), nd, by simp, fun j i x e _ => ?_⟩
  rw [List.getElem?_replicate] at e
  split at e
  · cases e
  · cases e
def compOk (scope : Scope) (ns : List (Str × NameKind)) (XN N : List Str) (cap : List (Option Nat)) : Bool :=
  scope.kind == .function && scope.names.all (fun x => !(x.2 == .local) || scope.names.lookup x.1 == some .local) && scope.names.all (fun x => !(x.2 == .free) || (ns.lookup x.1 == some .cell || ns.lookup x.1 == some .free)) && decide N.Nodup && decide (cap.length = N.length) &&
    (cap.zip N).all fun p => match p.1 with
      | none => true
      | some i => XN[i]? == some p.2 && scope.names.lookup p.2 == some .free && scope.names.all fun y => !(y.1 == p.2 && y.2 == .cell)
theorem CompScope.of {X : Cx} {scope : Scope} {N : List Str} {cap : List (Option Nat)} (ns : List (Str × NameKind)) (XN : List Str) (hn : X.env.scope.names = ns) (hN : X.N = XN) (h : compOk scope ns XN N cap = true) : CompScope X scope N cap := by
  unfold compOk at h
  simp only [Bool.and_eq_true, decide_eq_true_eq, List.all_eq_true, Bool.or_eq_true, Bool.not_eq_true', beq_iff_eq, beq_eq_false_iff_ne] at h
  obtain ⟨⟨⟨⟨⟨h1, h2⟩, h3⟩, h4⟩, h5⟩, h6⟩ := h
  refine ⟨h1, fun x hx hl => ?_, fun x hx hf => ?_, h4, h5, fun j i x e1 e2 => ?_⟩
  · rcases h2 x hx with q | q
    · exact absurd hl q
    · exact q
  · rw [hn]
    rcases h3 x hx with q | q
    · exact absurd hf q
    · exact q
  · have hz : (cap.zip N)[j]? = some (some i, x) := by
      rw [List.getElem?_zip_eq_some]
      exact ⟨e1, e2⟩
    have q := h6 _ (List.mem_of_getElem? hz)
    simp only [Bool.and_eq_true, beq_iff_eq, List.all_eq_true, Bool.not_eq_true', Bool.and_eq_false_iff, beq_eq_false_iff_ne] at q
    obtain ⟨⟨q1, q2⟩, q3⟩ := q
    refine ⟨by rw [hN]; exact q1, q2, fun z => ?_⟩
    rcases q3 _ z with q | q
    · exact q rfl
    · exact q rfl
end L2
namespace L2
open PySem PySem.Spec PyProof.Rows
theorem Inv.turnedL {X : Cx} {pins : List (Addr × Obj)} {σ : St} {H : Hp} {s : Shared} {h' : Heap} {t' : Nat} {ch : List Addr} (I : Inv X pins σ H s) (k : ∀ b o, b ∉ ch → s.heap.get? b = some o → h'.get? b = some o) (hf : ∀ b ∈ ch, FpOk X pins H b) :
    Inv X pins σ H { s with heap := h', toks := t' } := by
  have nch : ∀ b u, H b = some u → b ∉ ch := fun b u e z => by
    have := (hf b z).1
    rw [this] at e
    cases e
  refine I.step (g' := s.gens) (d' := s.drawn) (ch := ch) (fun b hb => let ⟨_, h1, _, h3, h4, h5⟩ := hf b hb; ⟨h3, h1, h4, h5⟩) (fun b o _ _ hc e _ => k b o hc e) (fun b o _ _ hc e _ => ⟨o.slots, k b o hc e⟩) (fun _ _ _ _ n => n)
    (fun b o hc e => ⟨o, k b o hc e⟩) (fun _ _ e => e) (fun _ _ _ e => e) (fun b ps e => ⟨#[], by rw [e]; simp⟩) (fun m hm => ?_) (fun b u e => ?_) I.bare
  · obtain ⟨o, es, ep, ho, r⟩ := hm
    exact ⟨o, es, ep, k _ o (fun z => (hf _ z).2.1 rfl) ho, r⟩
  · refine (I.hok b u e).stay (fun c v hc q => k c v ?_ q) (fun _ q => q) fun _ _ q => q
    rcases hc with z | z
    · rw [z]; exact nch b u e
    · exact nch c _ z
def Ite (a : Addr) : It := ⟨fun i H => ∃ xs x, H a = some (.lst xs) ∧ xs[i]? = some x, fun i H x H' => ∃ t y, H t = none ∧ x = .ref t ∧ H' = upd H t (.tup [.int i, y]) ∧ ∀ xs, H a = some (.lst xs) → xs[i]? = some y, fun i H => ∃ xs, H a = some (.lst xs) ∧ xs.length ≤ i⟩
theorem turn_enum {P : Program} {w : World} {K : PySem.W.Frag} {es : List Expr} {k : Nat} {pos : Pos} (a e it : Addr) (hne : e ≠ it) : Turn P w K (.Tuple es k pos) (Ite a) [e, it] e (fun i h => (∃ old, IsEnum h e it ((i : Nat) : Int) old) ∧ h.IsListIter it a i) where
  mem := by simp
  obj := fun i h st b hb => by
    obtain ⟨⟨old, he⟩, o, eo, c, d⟩ := st
    have hb' : b = e ∨ b = it := by simpa using hb
    rcases hb' with rfl | rfl
    · exact ⟨_, he, fun v z => by
        have z' : Data.fields _ = Data.cell v := z
        cases z'⟩
    · exact ⟨o, eo, fun v z => by rw [d] at z; cases z⟩
  keep := fun i h h' st k => ⟨let ⟨old, he⟩ := st.1; ⟨old, k e (by simp) _ he⟩, st.2.at fun o eo => k it (by simp) o eo⟩
  item := by
    intro X hP hw hK hc i pins s σ H E I hf st hg
    subst hP hw hK
    obtain ⟨⟨old, he⟩, hit⟩ := st
    obtain ⟨xs, x, hq, hx⟩ := hg
    obtain ⟨its, n, r, ho, hz⟩ := I.lst hq
    obtain ⟨u, hu, ru⟩ := r.get hx
    have hl : s.heap.IsList a its.toArray := ⟨_, ho, rfl, n, rfl⟩
    refine wpAny_pyNext_enum_item he hit hl (x := u) (by simpa using hu) hne fun h1 heo hit1 ht1 hz1 hk1 => ?_
    refine ⟨.ref s.heap.objs.size, rfl, wpAny_letOwnedTupleGo_enum heo fun h2 he2 hs2 => ?_⟩
    have hs2' : Heap.SameBut e h1 h2 := hs2
    have el : e < s.heap.objs.size := Heap.lt_size he
    have kk : ∀ b o, b ∉ [e, it] → s.heap.get? b = some o → h2.get? b = some o := fun b o hb eo => by
      have hb' : b ≠ e ∧ b ≠ it := by simpa using hb
      exact (hs2'.2 b hb'.1).trans (hk1 b o hb'.1 hb'.2 eo)
    have I1 : Inv X pins σ H { s with heap := h2, toks := s.toks + 1 } := I.turnedL (ch := [e, it]) kk hf
    have fr : H s.heap.objs.size = none := I.hok.fresh (Nat.le_refl _)
    have ft : FpOk X pins H s.heap.objs.size := I.fpOk (Nat.le_refl _) fr
    have ht2 : h2.get? s.heap.objs.size = some { cls := .type "tuple", data := .seq #[.int i s.toks, u] } := (hs2'.2 _ (Nat.ne_of_gt el)).trans ht1
    have I2 : Inv X pins σ (upd H s.heap.objs.size (.tup [.int i, x])) { s with heap := h2, toks := s.toks + 1 } :=
      I1.adopt ft I.sz ⟨by show 2 ≤ sizeLine; decide, [.int i s.toks, u], .cons ⟨_, rfl⟩ (.cons ru .nil), _, ht2, rfl, _, rfl⟩
    have hit2 : h2.IsListIter it a (i + 1) := hit1.extBut hs2'.extBut (Ne.symm hne)
    refine ⟨.ref s.heap.objs.size, _, I2, rfl, ⟨s.heap.objs.size, x, fr, rfl, rfl, fun ys hy => by rw [hq] at hy; cases hy; exact hx⟩, ⟨⟨u, ?_⟩, hit2⟩, fun b hb => ?_⟩
    · have e1 : ((i + 1 : Nat) : Int) = (i : Int) + 1 := rfl
      rw [e1]
      exact he2
    · have hbl : b < s.heap.objs.size := by
        have hb' : b = e ∨ b = it := by simpa using hb
        rcases hb' with rfl | rfl
        · exact el
        · obtain ⟨o, eo, _⟩ := hit
          exact Heap.lt_size eo
      rw [upd_ne (Nat.ne_of_lt hbl)]
      exact (hf b hb).1
  done := by
    intro X hP hw hK hc i pins s σ H E I hf st hg
    subst hP hw hK
    obtain ⟨⟨old, he⟩, hit⟩ := st
    obtain ⟨xs, hq, hx⟩ := hg
    obtain ⟨its, n, r, ho, hz⟩ := I.lst hq
    have hl : s.heap.IsList a its.toArray := ⟨_, ho, rfl, n, rfl⟩
    have hlen := r.length
    obtain ⟨f0, f1, f2, f3, f4, f5⟩ := hf it (by simp)
    exact wpAny_pyNext_enum_end (I.ok.hd hc) he hit hl (by simp; omega) fun h' eb => ⟨rfl, I.turned (t' := s.toks) (fun b o hb e => eb b o hb e) f0 f1 f3 f4 f5⟩
  self := fun _ _ _ _ _ st h => let ⟨_, he⟩ := st.1; wpAny_pyIter_enum he h
section
variable {X : Cx}
def iEnum (ta : TA) : TI := fun σ H R => ta σ H fun vs H1 => ∃ a xs, vs = [.ref a] ∧ H1 a = some (.lst xs) ∧ R (Ite a) H1
theorem pi_enum {es : List Expr} {k : Nat} {tpos : Pos} {e : Expr} {ta : TA} {p pos : Pos} (hg : Gl X "enumerate") (hm : X.mg "enumerate" = none) (ha : PA X [e] ta) (he : starEach [e] X.env = (false, eval e X.env) :: starEach [] X.env := by rfl)
    (hpl : (backTo pos (starEach [] X.env)).any (·.1) = false := by rfl) : PI X (.Tuple es k tpos) (.Call (.Name "enumerate" p) [e] [] pos) (iEnum ta) := by
  intro pins s σ H R I h
  refine Call_ (ld_blt I hg hm boot_enumerate (PyProof.Rows.callWith_type1 (thn (ha pos pins s σ H _ I h) fun us s1 ⟨vs, H1, I1, r1, q1⟩ => ?_) he hpl))
  obtain ⟨a, xs, rfl, hq, q⟩ := q1
  obtain ⟨u, rfl, rx⟩ := vals1 r1
  cases rx
  obtain ⟨its, n, r, ho, hz⟩ := I1.lst hq
  refine call_enumerate_1 ho fun h' he' hit' hsz hk => wpAny_pyIter_enum he' ?_
  have I2 : Inv X pins σ H1 { s1 with heap := h' } := I1.kept (t' := s1.toks) hk
  refine ⟨s1.heap.objs.size + 1, [s1.heap.objs.size + 1, s1.heap.objs.size], _, _, H1, rfl, I2, turn_enum a (s1.heap.objs.size + 1) s1.heap.objs.size (Nat.succ_ne_self _), ⟨⟨_, he'⟩, hit'⟩, fun b hb => ?_, q⟩
  have hb' : b = s1.heap.objs.size + 1 ∨ b = s1.heap.objs.size := by simpa using hb
  have hle : s1.heap.objs.size ≤ b := by rcases hb' with rfl | rfl <;> omega
  exact I1.fpOk hle (I1.hok.fresh hle)
end
theorem for_enum {a : Addr} {xs : List V} {g : TG} {tb : TS} {D : Ends} {σ : St} {H : Hp} (Pv : Nat → St → Hp → Prop) (h0 : Pv 0 σ H) (hl : ∀ i σ H, i ≤ xs.length → Pv i σ H → H a = some (.lst xs))
    (hs : ∀ i y t σ H, xs[i]? = some y → Pv i σ H → H t = none → g (.ref t) σ (upd H t (.tup [.int (i : Nat), y])) fun σ2 H2 => tb { D with nx := Pv (i + 1), ct := Pv (i + 1), bk := D.nx } σ2 H2) (hd : ∀ σ H, Pv xs.length σ H → D.nx σ H) :
    ∃ W : Nat → Nat → St → Hp → Prop, (∃ m, W 0 m σ H) ∧ ∀ i m σ H, W i m σ H →
      ((Ite a).stop i H ∧ D.nx σ H) ∨ ((Ite a).go i H ∧ ∃ N : St → Hp → Prop, (∀ σ' H', N σ' H' → ∃ m', m' < m ∧ W (i + 1) m' σ' H') ∧ ∀ x H', (Ite a).yld i H x H' → g x σ H' fun σ2 H2 => tb { D with nx := N, ct := N, bk := D.nx } σ2 H2) := by
  refine ⟨fun i m σ H => m = xs.length - i ∧ i ≤ xs.length ∧ Pv i σ H, ⟨xs.length, by simp, Nat.zero_le _, h0⟩, ?_⟩
  rintro i m σ H ⟨rfl, hi, p⟩
  have q := hl i σ H hi p
  by_cases hlt : i < xs.length
  · refine .inr ⟨⟨xs, xs[i], q, by simp [hlt]⟩, Pv (i + 1), fun σ' H' p' => ⟨xs.length - (i + 1), by omega, rfl, hlt, p'⟩, fun x H' y => ?_⟩
    obtain ⟨t, y, hn, rfl, rfl, hy⟩ := y
    exact hs i y t σ _ (hy xs q) p hn
  · have e : i = xs.length := by omega
    subst e
    exact .inl ⟨⟨xs, q, Nat.le_refl _⟩, hd σ H p⟩
section
variable {X : Cx}
end
section
variable {X : Cx}
end
end L2
namespace L2
open PySem PySem.Spec PyProof.Rows
section
variable {prog : Program} {w : World} {A : Around} {E : Value → Shared → Prop} {s : Shared}
end
section
variable {X : Cx}
end
section
variable {X : Cx} {CX : CXT} {k : Nat} {f C : Addr} {fd : FuncData} {ps ks : List Str} {sp : Sp} {E : XK} {x : Str} {p pos : Pos} {e : Expr} {es : List Expr} {kws : List Keyword} {t tk : TA} {g : List Value → List Value → List Value} {gV : List V → List V → List V}
end
end L2
namespace L2
open PySem PySem.Spec PyProof.Rows
section
variable {X : Cx} {K : PySem.W.Frag} {pos : Pos}
theorem pe_fldK {e : Expr} {ta : TE} {f : Str} (he : PE X e ta) (hb : attributeBase e f X.env (eval e X.env) = eval e X.env) (hK : X.K = K := by rfl) : PE X (.Attribute e f pos) (tFld K ta f) := by
  subst hK
  exact pe_fld he hb
theorem pg_tupK {es : List Expr} {k : Nat} {t : TGs} {n : Nat} (hc : X.calm = true) (h : PGs X es t) (hK : X.K = K := by rfl)
    (hn : (assignEach es X.env).length = n := by rfl) (hst : (assignEach es X.env).findIdx? (·.1) = none := by rfl) : PG X (.Tuple es k pos) (gTup K n t) := by
  subst hK
  exact pg_tup hc h hn hst
end
end L2
namespace L2
open PySem PySem.Spec PyProof.Rows
inductive DEq (K : PySem.W.Frag) (H : Hp) : Nat → V → V → Prop
  | flat {n : Nat} {x y : V} (fx : flatV x = true) (fy : flatV y = true) (e : eqV x y = true) : DEq K H n x y
  | same {n : Nat} (a : Addr) : DEq K H n (.ref a) (.ref a)
  | lst {n : Nat} {a b : Addr} {xs ys : List V} (ha : SqL K H a xs) (hb : SqL K H b ys) (hl : xs.length = ys.length) (h : ∀ (i : Nat) (x y : V), xs[i]? = some x → ys[i]? = some y → DEq K H n x y) : DEq K H (n + 1) (.ref a) (.ref b)
  | tup {n : Nat} {a b : Addr} {xs ys : List V} (ha : SqT K H a xs) (hb : SqT K H b ys) (hl : xs.length = ys.length) (h : ∀ (i : Nat) (x y : V), xs[i]? = some x → ys[i]? = some y → DEq K H n x y) : DEq K H (n + 1) (.ref a) (.ref b)
theorem DEq.self {K : PySem.W.Frag} {H : Hp} {n : Nat} {x : V} (h : flatV x = true) : DEq K H n x x := .flat h h (eqV_refl h)
theorem DEq.int {K : PySem.W.Frag} {H : Hp} {n : Nat} (i : Int) : DEq K H n (.int i) (.int i) := .self rfl
theorem DEq.bl {K : PySem.W.Frag} {H : Hp} {n : Nat} (i : Bool) : DEq K H n (.bl i) (.bl i) := .self rfl
theorem DEq.non {K : PySem.W.Frag} {H : Hp} {n : Nat} : DEq K H n .non .non := .self rfl
theorem DEq.str {K : PySem.W.Frag} {H : Hp} {n : Nat} (i : Str) : DEq K H n (.str i) (.str i) := .self rfl
theorem DEq.flats {K : PySem.W.Frag} {H : Hp} {n : Nat} {a b : Addr} {xs : List V} (ha : SqL K H a xs) (hb : SqL K H b xs) (f : xs.all flatV = true) : DEq K H (n + 1) (.ref a) (.ref b) :=
  .lst ha hb rfl fun i x y e1 e2 => by
    rw [e1] at e2
    cases e2
    exact .self (List.all_eq_true.mp f _ (List.mem_of_getElem? e1))
section
variable {X : Cx}
theorem all_true (n : Nat) : (List.range n).all (fun _ => true) = true := by simp
theorem item_V {xs : List V} {us : List Value} (r : Vals xs us) {j : Nat} (h : j < us.toArray.size) : ∃ x, xs[j]? = some x ∧ RelV x us.toArray[j] := by
  have h' : j < us.length := by simpa using h
  have l := r.length
  obtain ⟨u, e, ru⟩ := r.get (i := j) (x := xs[j]'(by omega)) (by simp [show j < xs.length by omega])
  refine ⟨xs[j]'(by omega), by simp [show j < xs.length by omega], ?_⟩
  have : us.toArray[j] = u := by
    obtain ⟨_, e'⟩ := List.getElem?_eq_some_iff.mp e
    simpa using e'
  rw [this]
  exact ru
theorem eqAt_D {pins : List (Addr × Obj)} {σ : St} {H : Hp} {s : Shared} (I : Inv X pins σ H s) {n : Nat} {x y : V} (h : DEq X.K H n x y) : ∀ {A : Around} {u w : Value}, A.units + n < cLine → RelV x u → RelV y w → SeqAt.EqAt A s u w true := by
  induction h with
  | flat fx fy e =>
    intro A u w _ r1 r2
    have := eqAt_V (A := A) (s := s) r1 r2 fx fy
    rw [e] at this
    exact this
  | same a =>
    intro A u w _ r1 r2
    cases r1
    cases r2
    exact SeqAt.EqAt.same _
  | @lst n a b xs ys ha hb hl h ih =>
    intro A u w hu r1 r2
    cases r1
    cases r2
    by_cases e : a = b
    · subst e
      exact SeqAt.EqAt.same _
    obtain ⟨us, q1, p1, z1⟩ := I.list ha
    obtain ⟨ws, q2, p2, z2⟩ := I.list hb
    have l1 := q1.length
    have l2 := q2.length
    have key := SeqAt.RcAt.lists (A := A) (e := fun _ => true) p1.isList p2.isList (by simp; omega) (by omega) fun j h1 h2 => by
      obtain ⟨x, e1, g1⟩ := item_V q1 h1
      obtain ⟨y, e2, g2⟩ := item_V q2 h2
      exact ih j x y e1 e2 (A := A.in1) (by show A.units + 1 + n < cLine; omega) g1 g2
    rw [all_true] at key
    exact SeqAt.EqAt.of_refs e key
  | @tup n a b xs ys ha hb hl h ih =>
    intro A u w hu r1 r2
    cases r1
    cases r2
    by_cases e : a = b
    · subst e
      exact SeqAt.EqAt.same _
    obtain ⟨us, q1, p1, z1⟩ := I.tuple ha
    obtain ⟨ws, q2, p2, z2⟩ := I.tuple hb
    have l1 := q1.length
    have l2 := q2.length
    have key := SeqAt.RcAt.tuples (A := A) (e := fun _ => true) p1 p2 (by omega) fun j h1 h2 => by
      obtain ⟨x, e1, g1⟩ := item_V q1 h1
      obtain ⟨y, e2, g2⟩ := item_V q2 h2
      exact ih j x y e1 e2 (A := A.in1) (by show A.units + 1 + n < cLine; omega) g1 g2
    rw [all_true, show (us.toArray.size == ws.toArray.size) = true by simp; omega] at key
    exact SeqAt.EqAt.of_refs e key
def rAlike (K : PySem.W.Frag) (b : Bool) : R2 := fun x y H Q => ∃ (a c : Addr) (xs ys : List V), x = .ref a ∧ y = .ref c ∧ ((SqL K H a xs ∧ SqL K H c ys) ∨ (SqT K H a xs ∧ SqT K H c ys)) ∧ xs.length = ys.length ∧ (∀ (i : Nat) (x y : V), xs[i]? = some x → ys[i]? = some y → DEq K H 32 x y) ∧ Q (.bl b) H
theorem op_eqD (hu : X.A.units + 64 < cLine) : OpR X (compareOp .Eq) (rAlike X.K true) := by
  intro pins s σ H x y v u Q I rx ry h
  obtain ⟨a, c, xs, ys, rfl, rfl, hq, hl, hd, q⟩ := h
  cases rx
  cases ry
  rcases hq with ⟨ha, hb⟩ | ⟨ha, hb⟩
  · obtain ⟨us, q1, p1, z1⟩ := I.list ha
    obtain ⟨ws, q2, p2, z2⟩ := I.list hb
    have l1 := q1.length
    have l2 := q2.length
    refine SeqAt.eq_listAt (e := fun _ => true) p1.isList p2.isList (by simp; omega) (by omega) (fun j h1 h2 => ?_) ⟨.bl true, H, I, ?_, q⟩
    · obtain ⟨x, e1, g1⟩ := item_V q1 h1
      obtain ⟨y, e2, g2⟩ := item_V q2 h2
      exact eqAt_D I (hd j x y e1 e2) (by show X.A.units + 1 + 32 < cLine; omega) g1 g2
    · rw [all_true]
      rfl
  · obtain ⟨us, q1, p1, z1⟩ := I.tuple ha
    obtain ⟨ws, q2, p2, z2⟩ := I.tuple hb
    have l1 := q1.length
    have l2 := q2.length
    refine SeqAt.eq_tupleAt (e := fun _ => true) p1 p2 (by omega) (fun j h1 h2 => ?_) ⟨.bl true, H, I, ?_, q⟩
    · obtain ⟨x, e1, g1⟩ := item_V q1 h1
      obtain ⟨y, e2, g2⟩ := item_V q2 h2
      exact eqAt_D I (hd j x y e1 e2) (by show X.A.units + 1 + 32 < cLine; omega) g1 g2
    · rw [all_true, show (us.toArray.size == ws.toArray.size) = true by simp; omega]
      rfl
end
def Itz (a b : Addr) : It := ⟨fun i H => ∃ xs ys x y, H a = some (.lst xs) ∧ H b = some (.lst ys) ∧ xs[i]? = some x ∧ ys[i]? = some y,
  fun i H v H' => ∃ t x y, H t = none ∧ v = .ref t ∧ H' = upd H t (.tup [x, y]) ∧ (∀ xs, H a = some (.lst xs) → xs[i]? = some x) ∧ ∀ ys, H b = some (.lst ys) → ys[i]? = some y,
  fun i H => ∃ xs ys, H a = some (.lst xs) ∧ H b = some (.lst ys) ∧ (xs.length ≤ i ∨ ys.length ≤ i)⟩
theorem turn_zip {P : Program} {w : World} {K : PySem.W.Frag} {es : List Expr} {k : Nat} {pos : Pos} (a b z TI TO i1 i2 : Addr) (nd : [z, TI, TO, i1, i2].Nodup) :
    Turn P w K (.Tuple es k pos) (Itz a b) [z, TI, TO, i1, i2] z (fun i h => IsZip h z TI TO .none ∧ IsPair h TI (.ref i1) (.ref i2) ∧ (∃ u v, IsPair h TO u v) ∧ h.IsListIter i1 a i ∧ h.IsListIter i2 b i) where
  mem := by simp
  obj := fun i h st b hb => by
    obtain ⟨hz, hI, ⟨_, _, hO⟩, ⟨o1, e1, _, d1⟩, ⟨o2, e2, _, d2⟩⟩ := st
    simp only [List.mem_cons, List.not_mem_nil, or_false] at hb
    rcases hb with rfl | rfl | rfl | rfl | rfl
    · exact ⟨_, hz, fun v q => by cases (show Data.fields _ = Data.cell v from q)⟩
    · exact ⟨_, hI, fun v q => by cases (show Data.seq _ _ = Data.cell v from q)⟩
    · exact ⟨_, hO, fun v q => by cases (show Data.seq _ _ = Data.cell v from q)⟩
    · exact ⟨o1, e1, fun v q => by rw [d1] at q; cases q⟩
    · exact ⟨o2, e2, fun v q => by rw [d2] at q; cases q⟩
  keep := fun i h h' st kk => by
    obtain ⟨hz, hI, ⟨u, v, hO⟩, h1, h2⟩ := st
    exact ⟨kk z (by simp) _ hz, kk TI (by simp) _ hI, ⟨u, v, kk TO (by simp) _ hO⟩, h1.at fun o e => kk i1 (by simp) o e, h2.at fun o e => kk i2 (by simp) o e⟩
  item := by
    intro X hP hw hK hc i pins s σ H E I hf st hg
    subst hP hw hK
    obtain ⟨hz, hI, ⟨u, v, hO⟩, h1, h2⟩ := st
    obtain ⟨xs, ys, x, y, ha, hb, hx, hy⟩ := hg
    obtain ⟨its1, n1, r1, ho1, _⟩ := I.lst ha
    obtain ⟨its2, n2, r2, ho2, _⟩ := I.lst hb
    obtain ⟨u1, g1, ru1⟩ := r1.get hx
    obtain ⟨u2, g2, ru2⟩ := r2.get hy
    have L1 : s.heap.IsList a its1.toArray := ⟨_, ho1, rfl, n1, rfl⟩
    have L2' : s.heap.IsList b its2.toArray := ⟨_, ho2, rfl, n2, rfl⟩
    have off : ∀ {l : Addr} {zs : List V}, H l = some (.lst zs) → l ∉ [z, TI, TO, i1, i2] := fun {l zs} e m => by
      have := (hf l m).1
      rw [this] at e
      cases e
    have oa := off ha
    have ob := off hb
    have nd' := nd
    simp only [List.nodup_cons, List.mem_cons, List.not_mem_nil, or_false, not_or, List.nodup_nil, and_true, not_false_eq_true] at nd' oa ob
    obtain ⟨⟨nzI, nzO, nz1, nz2⟩, ⟨nIO, nI1, nI2⟩, ⟨nO1, nO2⟩, n12⟩ := nd'
    have D : ZipApart z TI TO i1 i2 a b := ⟨Ne.symm nzI, Ne.symm nzO, Ne.symm nz1, Ne.symm nz2, nIO, nI1, nI2, nO1, nO2, n12, oa.1, oa.2.2.1, oa.2.2.2.1, oa.2.2.2.2, ob.1, ob.2.2.1, ob.2.2.2.1, ob.2.2.2.2⟩
    refine wpAny_pyNext_zip_item D hz hI hO h1 h2 L1 L2' (x := u1) (y := u2) (by simpa using g1) (by simpa using g2) fun h' a1 a2 a3 a4 a5 a6 a7 => ?_
    refine ⟨.ref s.heap.objs.size, rfl, wpAny_letOwnedTupleGo_zip a1 fun h2' z2 s2 => ?_⟩
    have s2' : Heap.SameBut z h' h2' := s2
    have zl : z < s.heap.objs.size := Heap.lt_size hz
    have kk : ∀ b o, b ∉ [z, TI, TO, i1, i2] → s.heap.get? b = some o → h2'.get? b = some o := fun b o hb eo => by
      simp only [List.mem_cons, List.not_mem_nil, or_false, not_or] at hb
      exact (s2'.2 b hb.1).trans (a7 b o hb.1 hb.2.2.1 hb.2.2.2.1 hb.2.2.2.2 eo)
    have I1 : Inv X pins σ H { s with heap := h2', toks := s.toks } := I.turnedL (ch := [z, TI, TO, i1, i2]) kk hf
    have fr : H s.heap.objs.size = none := I.hok.fresh (Nat.le_refl _)
    have ft : FpOk X pins H s.heap.objs.size := I.fpOk (Nat.le_refl _) fr
    have t2 : h2'.get? s.heap.objs.size = some { cls := .type "tuple", data := .seq #[u1, u2] } := (s2'.2 _ (Nat.ne_of_gt zl)).trans a5
    have I2 : Inv X pins σ (upd H s.heap.objs.size (.tup [x, y])) { s with heap := h2', toks := s.toks } :=
      I1.adopt ft I.sz ⟨by show 2 ≤ sizeLine; decide, [u1, u2], .cons ru1 (.cons ru2 .nil), _, t2, rfl, _, rfl⟩
    have hI2 : IsPair h2' TI (.ref i1) (.ref i2) := (s2'.2 _ (Ne.symm nzI)).trans (a7 TI _ (Ne.symm nzI) nIO nI1 nI2 hI)
    refine ⟨.ref s.heap.objs.size, _, I2, rfl, ⟨s.heap.objs.size, x, y, fr, rfl, rfl, fun ws e => by rw [ha] at e; cases e; exact hx, fun ws e => by rw [hb] at e; cases e; exact hy⟩,
      ⟨z2, hI2, ⟨_, _, (s2'.2 _ (Ne.symm nzO)).trans a2⟩, a3.extBut s2'.extBut (Ne.symm nz1), a4.extBut s2'.extBut (Ne.symm nz2)⟩, fun b hb => ?_⟩
    have hbl : b < s.heap.objs.size := by
      simp only [List.mem_cons, List.not_mem_nil, or_false] at hb
      rcases hb with rfl | rfl | rfl | rfl | rfl
      · exact zl
      · exact Heap.lt_size hI
      · exact Heap.lt_size hO
      · obtain ⟨o, e, _⟩ := h1; exact Heap.lt_size e
      · obtain ⟨o, e, _⟩ := h2; exact Heap.lt_size e
    rw [upd_ne (Nat.ne_of_lt hbl)]
    exact (hf b hb).1
  done := by
    intro X hP hw hK hc i pins s σ H E I hf st hg
    subst hP hw hK
    obtain ⟨hz, hI, ⟨u, v, hO⟩, h1, h2⟩ := st
    obtain ⟨xs, ys, ha, hb, hx⟩ := hg
    obtain ⟨its1, n1, r1, ho1, _⟩ := I.lst ha
    obtain ⟨its2, n2, r2, ho2, _⟩ := I.lst hb
    have L1 : s.heap.IsList a its1.toArray := ⟨_, ho1, rfl, n1, rfl⟩
    have L2' : s.heap.IsList b its2.toArray := ⟨_, ho2, rfl, n2, rfl⟩
    have hlen1 := r1.length
    have hlen2 := r2.length
    have off : ∀ {l : Addr} {zs : List V}, H l = some (.lst zs) → l ∉ [z, TI, TO, i1, i2] := fun {l zs} e m => by
      have := (hf l m).1
      rw [this] at e
      cases e
    have oa := off ha
    have ob := off hb
    have nd' := nd
    simp only [List.nodup_cons, List.mem_cons, List.not_mem_nil, or_false, not_or, List.nodup_nil, and_true, not_false_eq_true] at nd' oa ob
    obtain ⟨⟨nzI, nzO, nz1, nz2⟩, ⟨nIO, nI1, nI2⟩, ⟨nO1, nO2⟩, n12⟩ := nd'
    have D : ZipApart z TI TO i1 i2 a b := ⟨Ne.symm nzI, Ne.symm nzO, Ne.symm nz1, Ne.symm nz2, nIO, nI1, nI2, nO1, nO2, n12, oa.1, oa.2.2.1, oa.2.2.2.1, oa.2.2.2.2, ob.1, ob.2.2.1, ob.2.2.2.1, ob.2.2.2.2⟩
    refine wpAny_pyNext_zip_end (I.ok.hd hc) D hz hI hO h1 h2 L1 L2' ?_ fun h' hk => ⟨rfl, ?_⟩
    · rcases hx with hx | hx
      · exact .inl (by simp; omega)
      · exact .inr (by simp; omega)
    · refine I.turnedL (t' := s.toks) (ch := [z, TI, TO, i1, i2]) (fun b o hb e => ?_) hf
      simp only [List.mem_cons, List.not_mem_nil, or_false, not_or] at hb
      exact hk b o hb.1 hb.2.2.1 hb.2.2.2.1 hb.2.2.2.2 e
  self := fun _ _ _ _ _ st h => wpAny_pyIter_zip st.1 h
theorem five_nd (n : Nat) : ([n + 4, n + 2, n + 3, n, n + 1] : List Nat).Nodup := by
  simp only [List.nodup_cons, List.mem_cons, List.not_mem_nil, or_false, not_or, List.nodup_nil, and_true, not_false_eq_true]
  omega
theorem five_le {n x : Nat} (h : x ∈ ([n + 4, n + 2, n + 3, n, n + 1] : List Nat)) : n ≤ x := by
  simp only [List.mem_cons, List.not_mem_nil, or_false] at h
  omega
section
variable {X : Cx}
def iZip (ta : TA) : TI := fun σ H R => ta σ H fun vs H1 => ∃ a b xs ys, vs = [.ref a, .ref b] ∧ H1 a = some (.lst xs) ∧ H1 b = some (.lst ys) ∧ R (Itz a b) H1
theorem bt_zip : bootBuiltins "zip" = some (.type "zip") := by decide +kernel
theorem pi_zip2 {es : List Expr} {k : Nat} {tpos : Pos} {e1 e2 : Expr} {ta : TA} {p pos : Pos} (hg : Gl X "zip") (hm : X.mg "zip" = none) (ha : PA X [e1, e2] ta) (he : starEach [e1, e2] X.env = (false, eval e1 X.env) :: starEach [e2] X.env := by rfl)
    (hpl : (backTo pos (starEach [e2] X.env)).any (·.1) = false := by rfl) : PI X (.Tuple es k tpos) (.Call (.Name "zip" p) [e1, e2] [] pos) (iZip ta) := by
  intro pins s σ H R I h
  refine Call_ (ld_blt I hg hm bt_zip (PyProof.Rows.callWith_type1 (thn (ha pos pins s σ H _ I h) fun us s1 ⟨vs, H1, I1, r1, q1⟩ => ?_) he hpl))
  obtain ⟨a, b, xs, ys, rfl, qa, qb, q⟩ := q1
  cases r1 with
  | cons ra rr =>
    cases rr with
    | cons rb rr =>
      cases rr
      cases ra
      cases rb
      obtain ⟨its1, n1, _, ho1, _⟩ := I1.lst qa
      obtain ⟨its2, n2, _, ho2, _⟩ := I1.lst qb
      refine call_zip_2 (xs := its1.toArray) (ys := its2.toArray) ⟨_, ho1, rfl, n1, rfl⟩ ⟨_, ho2, rfl, n2, rfl⟩ fun h' b1 b2 b3 b4 b5 _ hk => wpAny_pyIter_zip b1 ?_
      have I2 : Inv X pins σ H1 { s1 with heap := h' } := I1.kept (t' := s1.toks) hk
      refine ⟨s1.heap.objs.size + 4, [s1.heap.objs.size + 4, s1.heap.objs.size + 2, s1.heap.objs.size + 3, s1.heap.objs.size, s1.heap.objs.size + 1], _, _, H1, rfl, I2, turn_zip a b _ _ _ _ _ (five_nd _), ⟨b1, b2, ⟨_, _, b3⟩, b4, b5⟩, fun x hx => ?_, q⟩
      have hle : s1.heap.objs.size ≤ x := five_le hx
      exact I1.fpOk hle (I1.hok.fresh hle)
end
theorem for_zip {a b : Addr} {xs ys : List V} {g : TG} {tb : TS} {D : Ends} {σ : St} {H : Hp} (Pv : Nat → St → Hp → Prop) (h0 : Pv 0 σ H) (hl : ∀ i σ H, i ≤ min xs.length ys.length → Pv i σ H → H a = some (.lst xs) ∧ H b = some (.lst ys))
    (hs : ∀ i x y t σ H, xs[i]? = some x → ys[i]? = some y → Pv i σ H → H t = none → g (.ref t) σ (upd H t (.tup [x, y])) fun σ2 H2 => tb { D with nx := Pv (i + 1), ct := Pv (i + 1), bk := D.nx } σ2 H2) (hd : ∀ σ H, Pv (min xs.length ys.length) σ H → D.nx σ H) :
    ∃ W : Nat → Nat → St → Hp → Prop, (∃ m, W 0 m σ H) ∧ ∀ i m σ H, W i m σ H →
      ((Itz a b).stop i H ∧ D.nx σ H) ∨ ((Itz a b).go i H ∧ ∃ N : St → Hp → Prop, (∀ σ' H', N σ' H' → ∃ m', m' < m ∧ W (i + 1) m' σ' H') ∧ ∀ x H', (Itz a b).yld i H x H' → g x σ H' fun σ2 H2 => tb { D with nx := N, ct := N, bk := D.nx } σ2 H2) := by
  refine ⟨fun i m σ H => m = min xs.length ys.length - i ∧ i ≤ min xs.length ys.length ∧ Pv i σ H, ⟨min xs.length ys.length, by simp, Nat.zero_le _, h0⟩, ?_⟩
  rintro i m σ H ⟨rfl, hi, p⟩
  obtain ⟨q1, q2⟩ := hl i σ H hi p
  by_cases hlt : i < min xs.length ys.length
  · refine .inr ⟨⟨xs, ys, xs[i]'(by omega), ys[i]'(by omega), q1, q2, by simp [show i < xs.length by omega], by simp [show i < ys.length by omega]⟩, Pv (i + 1), fun σ' H' p' => ⟨min xs.length ys.length - (i + 1), by omega, rfl, hlt, p'⟩, fun x H' y => ?_⟩
    obtain ⟨t, x, y, hn, rfl, rfl, h1, h2⟩ := y
    exact hs i x y t σ _ (h1 _ q1) (h2 _ q2) p hn
  · have e : i = min xs.length ys.length := by omega
    refine .inl ⟨⟨xs, ys, q1, q2, by omega⟩, ?_⟩
    rw [e] at p
    exact hd σ H p
theorem comp_zip {a b : Addr} {xs ys : List V} {g : TG} {te : TE} {σ : St} {H : Hp} {R : List V → Hp → Addr → Prop} (Pv : Nat → St → List V → Hp → Prop) (h0 : Pv 0 σ [] H) (hz : min xs.length ys.length ≤ sizeLine) (hl : ∀ i σ zs H, i ≤ min xs.length ys.length → Pv i σ zs H → H a = some (.lst xs) ∧ H b = some (.lst ys) ∧ zs.length = i)
    (hs : ∀ i x y t σ zs H, xs[i]? = some x → ys[i]? = some y → Pv i σ zs H → H t = none → g (.ref t) σ (upd H t (.tup [x, y])) fun σ2 H2 => te σ2 H2 fun z H3 => Pv (i + 1) σ2 (zs ++ [z]) H3) (hd : ∀ σ zs H, Pv (min xs.length ys.length) σ zs H → ∀ D, H D = none → R zs H D) :
    ∃ W : Nat → Nat → St → List V → Hp → Prop, (∃ m, W 0 m σ [] H) ∧ ∀ i m σ' zs H', W i m σ' zs H' →
      ((Itz a b).stop i H' ∧ ∀ D, H' D = none → R zs H' D) ∨ ((Itz a b).go i H' ∧ zs.length < sizeLine ∧ ∃ N : St → V → Hp → Prop, (∀ σ2 y H4, N σ2 y H4 → ∃ m', m' < m ∧ W (i + 1) m' σ2 (zs ++ [y]) H4) ∧
        ∀ x H2, (Itz a b).yld i H' x H2 → g x σ' H2 fun σ2 H3 => te σ2 H3 (N σ2)) := by
  refine ⟨fun i m σ zs H => m = min xs.length ys.length - i ∧ i ≤ min xs.length ys.length ∧ Pv i σ zs H, ⟨min xs.length ys.length, by simp, Nat.zero_le _, h0⟩, ?_⟩
  rintro i m σ zs H ⟨rfl, hi, p⟩
  obtain ⟨q1, q2, el⟩ := hl i σ zs H hi p
  by_cases hlt : i < min xs.length ys.length
  · refine .inr ⟨⟨xs, ys, xs[i]'(by omega), ys[i]'(by omega), q1, q2, by simp [show i < xs.length by omega], by simp [show i < ys.length by omega]⟩, by omega, fun σ2 y H3 => Pv (i + 1) σ2 (zs ++ [y]) H3, fun σ' y H' p' => ⟨min xs.length ys.length - (i + 1), by omega, rfl, hlt, p'⟩, fun x H' yl => ?_⟩
    obtain ⟨t, x, y, hn, rfl, rfl, h1, h2⟩ := yl
    exact hs i x y t σ zs _ (h1 _ q1) (h2 _ q2) p hn
  · have e : i = min xs.length ys.length := by omega
    refine .inl ⟨⟨xs, ys, q1, q2, by omega⟩, ?_⟩
    rw [e] at p
    exact hd σ zs H p
end L2
namespace L2
open PySem PySem.Spec PyProof.Rows
section
variable {g : TG} {tt : TT} {te : TE} {σ : St} {H : Hp} {R : List V → Hp → Addr → Prop}
theorem compT_of {J : It} {n : Nat} (Pv : Nat → St → List V → Hp → Prop) (h0 : Pv 0 σ [] H) (hz : n ≤ sizeLine) (hl : ∀ i σ ys H, i ≤ n → Pv i σ ys H → ys.length ≤ i) (hgo : ∀ i σ ys H, i < n → Pv i σ ys H → J.go i H) (hst : ∀ σ ys H, Pv n σ ys H → J.stop n H)
    (hs : ∀ i σ ys H x H', i < n → Pv i σ ys H → J.yld i H x H' → g x σ H' fun σ2 H2 => tt σ2 H2 fun b H3 => if b = true then te σ2 H3 (fun y H4 => Pv (i + 1) σ2 (ys ++ [y]) H4) else Pv (i + 1) σ2 ys H3) (hd : ∀ σ ys H, Pv n σ ys H → ∀ D, H D = none → R ys H D) :
    ∃ W : Nat → Nat → St → List V → Hp → Prop, (∃ m, W 0 m σ [] H) ∧ ∀ i m σ' ys H', W i m σ' ys H' →
      (J.stop i H' ∧ ∀ D, H' D = none → R ys H' D) ∨ (J.go i H' ∧ ys.length < sizeLine ∧ ∃ (N : St → V → Hp → Prop) (N0 : St → Hp → Prop), (∀ σ2 y H4, N σ2 y H4 → ∃ m', m' < m ∧ W (i + 1) m' σ2 (ys ++ [y]) H4) ∧ (∀ σ2 H4, N0 σ2 H4 → ∃ m', m' < m ∧ W (i + 1) m' σ2 ys H4) ∧
        ∀ x H2, J.yld i H' x H2 → g x σ' H2 fun σ2 H3 => tt σ2 H3 fun b H4 => if b = true then te σ2 H4 (N σ2) else N0 σ2 H4) := by
  refine ⟨fun i m σ ys H => m = n - i ∧ i ≤ n ∧ Pv i σ ys H, ⟨n, by simp, Nat.zero_le _, h0⟩, ?_⟩
  rintro i m σ ys H ⟨rfl, hi, p⟩
  have el := hl i σ ys H hi p
  by_cases hlt : i < n
  · refine .inr ⟨hgo i σ ys H hlt p, by omega, fun σ2 y H3 => Pv (i + 1) σ2 (ys ++ [y]) H3, fun σ2 H3 => Pv (i + 1) σ2 ys H3, fun σ' y H' p' => ⟨n - (i + 1), by omega, rfl, hlt, p'⟩, fun σ' H' p' => ⟨n - (i + 1), by omega, rfl, hlt, p'⟩, fun x H' yl => ?_⟩
    exact hs i σ ys H x H' hlt p yl
  · have e : i = n := by omega
    subst e
    exact .inl ⟨hst σ ys H p, hd σ ys H p⟩
theorem compT_range {lo : Int} {n : Nat} (Pv : Nat → St → List V → Hp → Prop) (h0 : Pv 0 σ [] H) (hz : n ≤ sizeLine) (hl : ∀ i σ ys H, i ≤ n → Pv i σ ys H → ys.length ≤ i)
    (hs : ∀ i σ ys H, i < n → Pv i σ ys H → g (.int (lo + i)) σ H fun σ2 H2 => tt σ2 H2 fun b H3 => if b = true then te σ2 H3 (fun y H4 => Pv (i + 1) σ2 (ys ++ [y]) H4) else Pv (i + 1) σ2 ys H3) (hd : ∀ σ ys H, Pv n σ ys H → ∀ D, H D = none → R ys H D) :
    ∃ W : Nat → Nat → St → List V → Hp → Prop, (∃ m, W 0 m σ [] H) ∧ ∀ i m σ' ys H', W i m σ' ys H' →
      ((Itr lo n).stop i H' ∧ ∀ D, H' D = none → R ys H' D) ∨ ((Itr lo n).go i H' ∧ ys.length < sizeLine ∧ ∃ (N : St → V → Hp → Prop) (N0 : St → Hp → Prop), (∀ σ2 y H4, N σ2 y H4 → ∃ m', m' < m ∧ W (i + 1) m' σ2 (ys ++ [y]) H4) ∧ (∀ σ2 H4, N0 σ2 H4 → ∃ m', m' < m ∧ W (i + 1) m' σ2 ys H4) ∧
        ∀ x H2, (Itr lo n).yld i H' x H2 → g x σ' H2 fun σ2 H3 => tt σ2 H3 fun b H4 => if b = true then te σ2 H4 (N σ2) else N0 σ2 H4) :=
  compT_of Pv h0 hz hl (fun _ _ _ _ hi _ => hi) (fun _ _ _ _ => Nat.le_refl _) (fun i σ ys H x H' hi p yl => by
    obtain ⟨e, q⟩ := yl
    subst e q
    exact hs i σ ys _ hi p) hd
theorem compT_enum {a : Addr} {xs : List V} (Pv : Nat → St → List V → Hp → Prop) (h0 : Pv 0 σ [] H) (hz : xs.length ≤ sizeLine) (hl : ∀ i σ ys H, i ≤ xs.length → Pv i σ ys H → H a = some (.lst xs) ∧ ys.length ≤ i)
    (hs : ∀ i y t σ ys H, xs[i]? = some y → Pv i σ ys H → H t = none → g (.ref t) σ (upd H t (.tup [.int (i : Nat), y])) fun σ2 H2 => tt σ2 H2 fun b H3 => if b = true then te σ2 H3 (fun y H4 => Pv (i + 1) σ2 (ys ++ [y]) H4) else Pv (i + 1) σ2 ys H3) (hd : ∀ σ ys H, Pv xs.length σ ys H → ∀ D, H D = none → R ys H D) :
    ∃ W : Nat → Nat → St → List V → Hp → Prop, (∃ m, W 0 m σ [] H) ∧ ∀ i m σ' ys H', W i m σ' ys H' →
      ((Ite a).stop i H' ∧ ∀ D, H' D = none → R ys H' D) ∨ ((Ite a).go i H' ∧ ys.length < sizeLine ∧ ∃ (N : St → V → Hp → Prop) (N0 : St → Hp → Prop), (∀ σ2 y H4, N σ2 y H4 → ∃ m', m' < m ∧ W (i + 1) m' σ2 (ys ++ [y]) H4) ∧ (∀ σ2 H4, N0 σ2 H4 → ∃ m', m' < m ∧ W (i + 1) m' σ2 ys H4) ∧
        ∀ x H2, (Ite a).yld i H' x H2 → g x σ' H2 fun σ2 H3 => tt σ2 H3 fun b H4 => if b = true then te σ2 H4 (N σ2) else N0 σ2 H4) :=
  compT_of Pv h0 hz (fun i σ ys H hi p => (hl i σ ys H hi p).2) (fun i σ ys H hi p => ⟨xs, xs[i], (hl i σ ys H (Nat.le_of_lt hi) p).1, by simp [hi]⟩) (fun σ ys H p => ⟨xs, (hl _ σ ys H (Nat.le_refl _) p).1, Nat.le_refl _⟩)
    (fun i σ ys H x H' hi p yl => by
      obtain ⟨t, y, hn, rfl, rfl, hy⟩ := yl
      exact hs i y t σ ys _ (hy xs (hl i σ ys _ (Nat.le_of_lt hi) p).1) p hn) hd
end
section
variable {X : Cx}
def isI (k : Int) : Value → Bool
  | .int a _ => a == k
  | _ => false
def rRemove : V → List V → Hp → VK → Prop := fun x vs H Q => ∃ (l : Addr) (ns : List Int) (k : Int), x = .ref l ∧ vs = [.int k] ∧ H l = some (.lst (ns.map V.int)) ∧ k ∈ ns ∧ Q .non (upd H l (.lst ((ns.erase k).map V.int)))
theorem ints_vals : ∀ {ns : List Int} {us : List Value}, Vals (ns.map V.int) us → ∀ (j : Nat) (n : Int), ns[j]? = some n → ∃ t, us[j]? = some (.int n t)
  | [], _, _, j, n, e => by simp at e
  | m :: ns, u :: us, .cons r t, j, n, e => by
    cases j with
    | zero =>
      have e' : m = n := by simpa using e
      subst e'
      obtain ⟨t, rfl⟩ := r
      exact ⟨t, rfl⟩
    | succ j =>
      obtain ⟨q, h⟩ := ints_vals t j n (by simpa using e)
      exact ⟨q, by simpa using h⟩
theorem before_idx : ∀ (ns : List Int) (k : Int) (m : Nat) (n : Int), m < ns.idxOf k → ns[m]? = some n → n ≠ k
  | [], _, _, _, _, e => by simp at e
  | a :: ns, k, m, n, h, e => by
    rw [List.idxOf_cons] at h
    by_cases ha : a = k
    · subst ha
      simp at h
    · have hb : (a == k) = false := beq_eq_false_iff_ne.mpr ha
      rw [hb] at h
      cases m with
      | zero =>
        have e' : a = n := by simpa using e
        rw [← e']
        exact ha
      | succ m => exact before_idx ns k m n (by simpa using h) (by simpa using e)
theorem map_erase : ∀ (ns : List Int) (j : Nat), (ns.eraseIdx j).map V.int = (ns.map V.int).eraseIdx j
  | [], _ => rfl
  | _ :: _, 0 => rfl
  | a :: ns, j + 1 => by
    show V.int a :: (ns.eraseIdx j).map V.int = V.int a :: (ns.map V.int).eraseIdx j
    rw [map_erase ns j]
theorem mt_remove : MtM X "list.remove" rRemove := by
  intro pins s σ H x vs v us Q I rx rv h
  obtain ⟨l, ns, k, rfl, rfl, hH, hk, q⟩ := h
  cases rx
  obtain ⟨u, rfl, ru⟩ := rv.one
  obtain ⟨t, rfl⟩ := ru
  obtain ⟨z, its, n, r, hl, e⟩ := I.lstM hH
  have hln : its.length = ns.length := by rw [← hl, List.length_map]
  have hj : ns.idxOf k < ns.length := List.idxOf_lt_length_iff.mpr hk
  have at_ : ∀ j (h : j < its.toArray.size), ∃ (n : Int) (t : Tok), ns[j]? = some n ∧ its.toArray[j] = .int n t := fun j h => by
    have h' : j < ns.length := by simpa [hln] using h
    obtain ⟨tk, et⟩ := ints_vals r j ns[j] (by simp [h'])
    refine ⟨ns[j], tk, by simp [h'], ?_⟩
    obtain ⟨_, e'⟩ := List.getElem?_eq_some_iff.mp et
    simpa using e'
  refine call_meets F.slot_list_remove ⟨_, e, rfl⟩ F.entry_list_remove (F.args_list_remove_2 _ _)
    (MeetsSeq.list_remove l its.toArray n (.int k t) (isI k) (fun y hy => ?_) (ns.idxOf k) (by simp [hln]; exact hj) ?_ (fun m hm hlt => ?_) (by rw [List.size_toArray]; omega)) ⟨e, ?_⟩
  · obtain ⟨j, hj', rfl⟩ := Array.mem_iff_getElem.mp hy
    obtain ⟨n', t', _, e'⟩ := at_ j hj'
    rw [e']
    exact MeetsSeq.EqGives.int n' k t' t
  · obtain ⟨n', t', e1, e2⟩ := at_ (ns.idxOf k) (by simp [hln]; exact hj)
    rw [e2]
    have : n' = k := by
      rw [List.getElem?_eq_getElem hj] at e1
      have := Option.some.inj e1
      rw [← this]
      exact List.getElem_idxOf hj
    simp [isI, this]
  · obtain ⟨n', t', e1, e2⟩ := at_ m hm
    rw [e2]
    simp [isI, before_idx ns k m n' hlt e1]
  · have er : ns.eraseIdx (ns.idxOf k) = ns.erase k := (List.erase_eq_eraseIdx_of_idxOf rfl).symm
    refine ⟨.non, _, I.lset (its' := its.eraseIdx (ns.idxOf k)) hH e ?_ ?_ ?_, rfl, q⟩
    · show its.toArray.eraseIdxIfInBounds (ns.idxOf k) = (its.eraseIdx (ns.idxOf k)).toArray
      rw [List.eraseIdxIfInBounds_toArray]
    · rw [← er, map_erase]
      exact r.eraseIdx _
    · rw [List.length_map]
      have := List.length_erase_of_mem hk
      rw [List.length_map] at z
      omega
end
end L2
namespace L2
open PySem PySem.Spec PyProof.Rows
structure BaseT (K : PySem.W.Frag) (C : Addr) (m : Str) (f : Addr) : Prop where
  rd : PySem.W.readsIn K C (.type "type") = true
  ga : PySem.W.specialIn K (.ref C) "__getattribute__" = some (some (.builtin "type.__getattribute__"))
  fc : PySem.W.findCls K (.ref C) (.type "type") m = some (.val (.ref f))
section
variable {X : Cx} {CX : CXT} {k : Nat} {f C : Addr} {fd : FuncData} {ps : List Str} {sp : Sp} {dvs : List V} {ds : List Value} {E : XK} {x m : Str} {p pos apos : Pos} {e o : Expr} {es : List Expr} {ta : TE} {t : TA}
theorem pe_base {pl : Sem Bool} (B : BaseT X.K C m f) (F : FnOk X.prog X.w X.K X.mg X.base CX k f fd ps sp) (hr : Room k X.A) (hg : Gl X x) (hm : X.mg x = some (.ref C)) (hk : PySem.W.keepIn X.K (.ref f) = true) (hb : Binds X.K fd ps ds) (hd : Vals dvs ds) (hx : Passes CX X E)
    (ha : PA X (e :: es) t) (hdb : (x == ("__debug__" : Str)) = false := by decide)
    (hst : starEach (e :: es) X.env = (false, eval e X.env) :: starEach es X.env := by rfl) (hpl : (backTo pos (starEach es X.env)).any (·.1) = false := by rfl)
    (ht : eval (.Call (.Attribute (.Name x p) m apos) (e :: es) [] pos) X.env = (do
      let ov ← eval (.Name x p) X.env
      standAt apos.atName
      let (f, first) ← holding [ov] (getMethod ov m pl)
      callWith pos f first (backTo pos (starEach (e :: es) X.env)) (backToKw pos (keywordEach [] X.env))) := by rfl) :
    PE X (.Call (.Attribute (.Name x p) m apos) (e :: es) [] pos) (tCall sp dvs E t) := by
  intro pins s σ H Q I h
  refine PySem.W.methodCall_KW (pl := pl) (thn (pe_glob (v := .ref C) hg hm rfl hdb pins s σ H (fun y H1 => y = .ref C ∧ H1 = H) I ⟨rfl, rfl⟩) fun u s1 ⟨y, H1, I1, ry, ey, eH⟩ => ?_) ht
  subst ey eH
  obtain rfl : u = Value.ref C := ry
  refine PySem.W.method_cls I1.kIn B.ga (PySem.W.cls_value I1.kIn B.rd B.fc rfl ?_)
  have I2 := I1.tok (s1.toks + 1)
  refine PySem.W.callWith_K (h₀ := X.base) I.ok.mod.kin hk (thn (ha pos pins _ σ H1 _ I2 h) fun us s2 ⟨vs, H2, I3, r, q2⟩ => ⟨I3.kIn, ?_⟩) hst hpl
  exact run_fn F hr hb hd hx I3 r q2
end
theorem b_tuple : bootBuiltins "tuple" = some (.type "tuple") := by decide +kernel
theorem ixN_nat {n j : Nat} (h : j < n) : ixN n (j : Int) = some j := by
  unfold ixN
  rw [if_pos (by omega), if_pos (by omega)]
  simp
theorem paired_of_get {α β : Type} {F : α → β → Prop} : ∀ {l₁ : List α} {l₂ : List β}, l₁.length = l₂.length → (∀ (i : Nat) x u, l₁[i]? = some x → l₂[i]? = some u → F x u) → Paired F l₁ l₂
  | [], [], _, _ => .nil
  | [], _ :: _, h, _ => by simp at h
  | _ :: _, [], h, _ => by simp at h
  | x :: xs, y :: ys, h, f => .cons (f 0 x y rfl rfl) (paired_of_get (by simpa using h) fun i a b e1 e2 => f (i + 1) a b e1 e2)
theorem acc_range {n : Nat} {acc : Array Value} (h : ItemsOf (fun i v => ∃ t, v = .int (0 + (i : Nat) * 1) t) acc n) : Vals ((List.range n).map fun i => V.int (i : Nat)) acc.toList := by
  obtain ⟨h1, h2⟩ := h
  refine paired_of_get (by simp [h1]) fun i x u e1 e2 => ?_
  rw [List.getElem?_map] at e1
  have hi : i < n := by
    have := (List.getElem?_eq_some_iff.mp e2).1
    simpa [h1] using this
  rw [List.getElem?_range hi] at e1
  cases e1
  obtain ⟨t, rfl⟩ := h2 i u (by simpa using e2)
  exact ⟨t, by simp⟩
section
variable {X : Cx}
def tListRange (te : TE) : TE := fun σ H Q => te σ H fun v H1 => ∃ n : Nat, v = .int (n : Nat) ∧ n ≤ 1000 ∧ ∀ l, H1 l = none → Q (.ref l) (upd H1 l (.lst ((List.range n).map fun i => V.int (i : Nat))))
theorem pe_listrange {e : Expr} {te : TE} {p1 p2 pos1 pos2 : Pos} (hc : X.calm = true) (h1 : Gl X "list") (m1 : X.mg "list" = none) (h2 : Gl X "range") (m2 : X.mg "range" = none) (he : PE X e te) (s1 : starEach [e] X.env = [(false, eval e X.env)] := by rfl)
    (s2 : starEach [.Call (.Name "range" p2) [e] [] pos2] X.env = [(false, eval (.Call (.Name "range" p2) [e] [] pos2) X.env)] := by rfl) : PE X (.Call (.Name "list" p1) [.Call (.Name "range" p2) [e] [] pos2] [] pos1) (tListRange te) := by
  intro pins s σ H Q I h
  refine wpAny_Call_Name_kw (ld_blt I h1 m1 b_list ?_ (by decide) (by decide))
  refine PyProof.Rows.callWith_type1 ?_ s2 rfl
  rw [s2]
  refine Calls.spliced_cons (wpAny_Call_Name_kw (ld_blt I h2 m2 boot_range ?_ (by decide) (by decide)))
  refine PyProof.Rows.callWith_type1 ?_ s1 rfl
  rw [s1]
  refine Calls.spliced_cons (thn (he pins s σ H _ I h) fun u s3 ⟨v, H1, I1, r1, n, ev, hn, q⟩ => Calls.spliced_nil ?_)
  subst ev
  obtain ⟨t, rfl⟩ := r1
  refine call_range_1 (Calls.spliced_nil ?_)
  refine call_list_range (n := n) (I1.ok.hd hc) (IsRange.new ..) (small_one (by decide) (by decide) (by omega) (by omega)) (by rw [rangeSize_one]; split <;> omega) (by omega) fun h' tk acc' c' hk hS hacc => ?_
  have hv := acc_range hacc
  generalize ho : ({ cls := .type "range", data := .fields #[.int 0 _, .int (n : Nat) _, .int 1 _] } : Obj) = ob at *
  have hsz : (s3.heap.push ob).objs.size = s3.heap.objs.size + 1 := Heap.size_push ..
  have I2 : Inv X pins σ (upd H1 (s3.heap.push ob).objs.size (.lst ((List.range n).map fun i => V.int (i : Nat)))) { s3 with heap := h', toks := tk } :=
    I1.laid (fun b o e => hk b o (Heap.get?_push_of_some _ e)) (by rw [hsz]; exact Nat.le_succ _) (show ObjOk X.prog X.w _ h' _ (.lst ((List.range n).map fun i => V.int (i : Nat))) from ⟨by simp [sizeLine_eq]; omega, acc'.toList, c', hv, by simpa using hS⟩)
  exact ⟨.ref _, _, I2, rfl, q _ (I1.hok.fresh (by rw [hsz]; exact Nat.le_succ _))⟩
end
section
variable {X : Cx}
def iRng3E (ta : TA) : TI := fun σ H R => ta σ H fun vs H1 => ∃ i j k : Int, vs = [.int i, .int j, .int k] ∧ (-(2 ^ 31) ≤ i ∧ i < 2 ^ 31) ∧ (-(2 ^ 31) ≤ j ∧ j < 2 ^ 31) ∧ 0 < k ∧ k < 2 ^ 30 ∧ R (Its i k (Builtin.Range.rangeSize i j k).toNat) H1
theorem pi_range3E {tg a b c : Expr} {ta : TA} {p pos : Pos} (hg : Gl X "range") (hm : X.mg "range" = none) (ha : PA X [a, b, c] ta) (he : starEach [a, b, c] X.env = (false, eval a X.env) :: starEach [b, c] X.env := by rfl)
    (hpl : (backTo pos (starEach [b, c] X.env)).any (·.1) = false := by rfl) : PI X tg (.Call (.Name "range" p) [a, b, c] [] pos) (iRng3E ta) := by
  intro pins s σ H R I h
  refine Call_ (ld_blt I hg hm boot_range (PyProof.Rows.callWith_type1 (thn (ha pos pins s σ H _ I h) fun us s1 ⟨vs, H1, I1, r1, q1⟩ => ?_) he hpl))
  obtain ⟨i, j, k, e, hi, hj, hk, hk2, q⟩ := q1
  subst e
  cases r1 with
  | cons r rr =>
    cases rr with
    | cons r' rr =>
      cases rr with
      | cons r'' rr =>
        cases rr
        obtain ⟨t, rfl⟩ := r
        obtain ⟨t', rfl⟩ := r'
        obtain ⟨t'', rfl⟩ := r''
        refine call_range_3 (by omega) ?_ (.inl (PyProof.noPylong_small (by omega)))
        refine wpAny_pyIter_range (IsRange.new ..) (small_step hk hk2 hi hj) ?_
        have I2 : Inv X pins σ H1 { s1 with heap := s1.heap.push { cls := .type "range", data := .fields #[.int i t, .int j t', .int k t''] }, toks := s1.toks } := I1.kept fun b o e => Heap.get?_push_of_some _ e
        have hn := size_step hk hi hj
        refine ⟨(s1.heap.push { cls := .type "range", data := .fields #[.int i t, .int j t', .int k t''] }).objs.size, [(s1.heap.push { cls := .type "range", data := .fields #[.int i t, .int j t', .int k t''] }).objs.size], _, _, H1, rfl,
          I2.kept (t' := s1.toks) fun b o e => Heap.get?_push_of_some _ e, turn_step _ i k (Builtin.Range.rangeSize i j k).toNat, ?_, fun b hb => ?_, q⟩
        · have e1 : i + ((0 : Nat) : Int) * k = i := by simp
          have e2 : (((Builtin.Range.rangeSize i j k).toNat : Nat) : Int) - ((0 : Nat) : Int) = Builtin.Range.rangeSize i j k := by omega
          show IsRangeIter _ _ (i + ((0 : Nat) : Int) * k) ((((Builtin.Range.rangeSize i j k).toNat : Nat) : Int) - ((0 : Nat) : Int)) k
          rw [e1, e2]
          exact Heap.get?_push_size _ rfl
        · have e : b = (s1.heap.push { cls := .type "range", data := .fields #[.int i t, .int j t', .int k t''] }).objs.size := by simpa using hb
          subst e
          exact I2.fpOk (Nat.le_refl _) (I2.hok.fresh (Nat.le_refl _))
end
section
variable {g : TG} {te : TE} {σ : St} {H : Hp} {R : List V → Hp → Addr → Prop}
theorem comp_step {lo st : Int} {n : Nat} (Pv : Nat → St → List V → Hp → Prop) (h0 : Pv 0 σ [] H) (hz : n ≤ sizeLine) (hl : ∀ i σ ys H, i ≤ n → Pv i σ ys H → ys.length = i)
    (hs : ∀ i σ ys H, i < n → Pv i σ ys H → g (.int (lo + i * st)) σ H fun σ2 H2 => te σ2 H2 fun y H3 => Pv (i + 1) σ2 (ys ++ [y]) H3) (hd : ∀ σ ys H, Pv n σ ys H → ∀ D, H D = none → R ys H D) :
    ∃ W : Nat → Nat → St → List V → Hp → Prop, (∃ m, W 0 m σ [] H) ∧ ∀ i m σ' ys H', W i m σ' ys H' →
      ((Its lo st n).stop i H' ∧ ∀ D, H' D = none → R ys H' D) ∨ ((Its lo st n).go i H' ∧ ys.length < sizeLine ∧ ∃ N : St → V → Hp → Prop, (∀ σ2 y H4, N σ2 y H4 → ∃ m', m' < m ∧ W (i + 1) m' σ2 (ys ++ [y]) H4) ∧
        ∀ x H2, (Its lo st n).yld i H' x H2 → g x σ' H2 fun σ2 H3 => te σ2 H3 (N σ2)) := by
  refine ⟨fun i m σ ys H => m = n - i ∧ i ≤ n ∧ Pv i σ ys H, ⟨n, by simp, Nat.zero_le _, h0⟩, ?_⟩
  rintro i m σ ys H ⟨rfl, hi, p⟩
  have el := hl i σ ys H hi p
  by_cases hlt : i < n
  · refine .inr ⟨hlt, by omega, fun σ2 y H3 => Pv (i + 1) σ2 (ys ++ [y]) H3, fun σ' y H' p' => ⟨n - (i + 1), by omega, rfl, hlt, p'⟩, fun x H' yl => ?_⟩
    obtain ⟨e, yl⟩ := yl
    subst e yl
    exact hs i σ ys _ hlt p
  · have e : i = n := by omega
    subst e
    exact .inl ⟨Nat.le_refl _, hd σ ys H p⟩
end
theorem size_groups {L m : Nat} (hm : 0 < m) : (Builtin.Range.rangeSize 0 ((L : Int) - (m : Int) + 1) (m : Int)).toNat = L / m := by
  unfold Builtin.Range.rangeSize
  rw [if_pos (by omega)]
  by_cases h : m ≤ L
  · rw [if_pos (by omega), show (L : Int) - (m : Int) + 1 - 0 - 1 = ((L - m : Nat) : Int) by omega, ← Int.natCast_ediv, Nat.div_eq_sub_div hm h]
    generalize (L - m) / m = q
    omega
  · rw [if_neg (by omega), Nat.div_eq_of_lt (by omega)]
    rfl
end L2
namespace L2
open PySem PySem.Spec PyProof.Rows
inductive Src where
  | p (i : Nat)
  | k (j : Nat)
  | d (v : Value) (x : V)
def Src.val (us ws : List Value) : Src → Value
  | .p i => us.getD i .none
  | .k j => ws.getD j .none
  | .d v _ => v
def Src.abs (vs zs : List V) : Src → V
  | .p i => vs.getD i .non
  | .k j => zs.getD j .non
  | .d _ x => x
def Src.Ok : Src → Prop
  | .d v x => RelV x v
  | _ => True
section
variable {X : Cx} {CX : CXT} {k : Nat} {f C : Addr} {fd : FuncData} {ps ks : List Str} {sp : Sp} {E : XK} {x : Str} {p pos : Pos} {kws : List Keyword} {tk : TA} {g : List Value → List Value → List Value} {gV : List V → List V → List V}
end
end L2
namespace L2
open PySem PySem.Spec PyProof.Rows
def atK (kvs : List (Key × V)) (k : Key) : Option V := (kvs.find? fun p => decide (p.1 = k)).map Prod.snd
theorem atK_rel : ∀ {kvs : List (Key × V)} {vs : List (Key × Value)}, KV kvs vs → ∀ k, RelO (atK kvs k) (valueAt vs k)
  | _, _, .nil, _ => True.intro
  | p :: ps, q :: qs, .cons h t, k => by
    obtain ⟨h1, h2⟩ := h
    have ih := atK_rel t k
    unfold atK valueAt at *
    by_cases e : p.1 = k
    · have e' : q.1 = k := h1.symm.trans e
      simp only [List.find?_cons, e, e', decide_true, Option.map_some]
      exact h2
    · have e' : ¬ q.1 = k := fun z => e (h1.trans z)
      simp only [List.find?_cons, e, e', decide_false]
      exact ih
theorem kvAny : ∀ {kvs : List (Key × V)} {vs : List (Key × Value)}, KV kvs vs → ∀ k : Key, atK kvs k = none → (vs.any fun p => decide (p.1 = k)) = false
  | _, _, .nil, _, _ => rfl
  | p :: ps, q :: qs, .cons h t, k, hn => by
    obtain ⟨h1, h2⟩ := h
    unfold atK at hn
    by_cases e : p.1 = k
    · simp [List.find?_cons, e] at hn
    · have e' : ¬ q.1 = k := fun z => e (h1.trans z)
      rw [List.any_cons, decide_eq_false e', Bool.false_or]
      refine kvAny t k ?_
      unfold atK
      simpa [List.find?_cons, e] using hn
theorem kvSnoc : ∀ {kvs : List (Key × V)} {vs : List (Key × Value)}, KV kvs vs → ∀ {k : Key} {y : V} {u : Value}, RelV y u → KV (kvs ++ [(k, y)]) (vs ++ [(k, u)])
  | _, _, .nil, _, _, _, r => .cons ⟨rfl, r⟩ .nil
  | _, _, .cons h t, _, _, _, r => .cons h (kvSnoc t r)
theorem kvLen : ∀ {kvs : List (Key × V)} {vs : List (Key × Value)}, KV kvs vs → kvs.length = vs.length
  | _, _, .nil => rfl
  | _, _, .cons _ t => by rw [List.length_cons, List.length_cons, kvLen t]
theorem kvVals : ∀ {kvs : List (Key × V)} {vs : List (Key × Value)}, KV kvs vs → Vals (kvs.map Prod.snd) (vs.map Prod.snd)
  | _, _, .nil => .nil
  | _, _, .cons h t => .cons h.2 (kvVals t)
section
variable {X : Cx}
def tDict0 : TE := fun _ H Q => ∀ p, H p = none → Q (.ref p) (upd H p (.dK []))
theorem pe_dict0 {pos : Pos} : PE X (.Dict [] [] pos) tDict0 := fun pins s σ H Q I h =>
  have big : sysModules < s.heap.objs.size := Nat.lt_trans (by decide) (show mainGlobals < s.heap.objs.size from (I.mod.glob.keeps I.bk).lt)
  wpAny_Dict_empty ⟨.ref s.heap.objs.size, _, I.laid (a := s.heap.objs.size) (o := .dK []) (t' := s.toks) (fun _ _ q => Heap.get?_push_of_some _ q) (Nat.le_refl _)
    (show ObjOk X.prog X.w _ _ _ (.dK []) from ⟨Nat.zero_le _, beq_eq_false_iff_ne.mpr (Ne.symm (Nat.ne_of_lt big)), [], .nil, Heap.DictOf.new _⟩), rfl, h _ (I.hok.fresh (Nat.le_refl _))⟩
def rSetd : V → List V → Hp → VK → Prop := fun x vs H Q => ∃ (a : Addr) (kvs : List (Key × V)) (i : Int) (y : V), x = .ref a ∧ vs = [.int i, y] ∧ H a = some (.dK kvs) ∧ kvs.length < sizeLine ∧ (∀ v, atK kvs (.inl i) = some v → Q v H) ∧ (atK kvs (.inl i) = none → Q y (upd H a (.dK (kvs ++ [(.inl i, y)]))))
theorem mt_setdefault : MtM X "dict.setdefault" rSetd := by
  intro pins s σ H x vs v us Q I rx rv h
  obtain ⟨a, kvs, i, y, rfl, rfl, e, hz, h1, h2⟩ := h
  cases rx
  obtain ⟨u1, u2, rfl, ⟨t, rfl⟩, ru2⟩ := vals2 rv
  obtain ⟨z, hd, ws, rel, dd⟩ := (show ObjOk X.prog X.w H s.heap a (.dK kvs) from I.hok a _ e)
  have key : (mixKind X.prog X.w).is (Sum.inl i : Key) (.int i t) = true := mixKind_int _ _ i t
  refine call_meetsIn PySem.F.slot_dict_setdefault dd.typeIs PySem.F.entry_dict_setdefault (PySem.F.args_dict_setdefault_3 _ _ _) (kt_meets_setdefault (mixKind X.prog X.w) a key hd u2)
    ⟨ws, dd, by rw [← kvLen rel]; exact z, fun v hv => ?_, fun hn h' dd' hs => ?_⟩
  · have r := atK_rel rel (Sum.inl i)
    rw [hv] at r
    cases ea : atK kvs (Sum.inl i) with
    | none => rw [ea] at r; exact (show False from r).elim
    | some w' =>
      rw [ea] at r
      exact ⟨w', H, I.tok _, r, h1 w' ea⟩
  · have r := atK_rel rel (Sum.inl i)
    rw [hn] at r
    have ea : atK kvs (Sum.inl i) = none := by
      cases ea : atK kvs (Sum.inl i) with
      | none => rfl
      | some w' => rw [ea] at r; exact (show False from r).elim
    have est : stored ws (Sum.inl i : Key) u2 = ws ++ [(Sum.inl i, u2)] := by
      unfold stored
      rw [kvAny rel _ ea, if_neg Bool.false_ne_true]
    rw [est] at dd'
    have he : ∃ q, h'.get? a = some q := let ⟨q, _, _, hq, _⟩ := dd'; ⟨q, hq⟩
    refine ⟨y, _, I.write (x := a) (e := a) (by rw [e]; exact True.intro) (.inl rfl) (fun b q hb w' => (hs.2 b hb).trans w') he ?_, ru2, h2 ea⟩
    exact (show ObjOk X.prog X.w _ h' a (.dK (kvs ++ [(.inl i, y)])) from ⟨by rw [List.length_append, List.length_singleton]; omega, hd, _, kvSnoc rel ru2, dd'⟩)
def tListVals (te : TE) : TE := fun σ H Q => te σ H fun v H1 => ∃ (a : Addr) (kvs : List (Key × V)), v = .ref a ∧ H1 a = some (.dK kvs) ∧ ∀ l, H1 l = none → Q (.ref l) (upd H1 l (.lst (kvs.map Prod.snd)))
theorem pe_listvals {e : Expr} {te : TE} {p1 pos1 apos cpos : Pos} (hc : X.calm = true) (h1 : Gl X "list") (m1 : X.mg "list" = none) (he : PE X e te)
    (hbase : attributeBase e "values" X.env (eval e X.env) = eval e X.env := by rfl) (hline : (apos.endLine == cpos.line) = true := by rfl)
    (s2 : starEach [.Call (.Attribute e "values" apos) [] [] cpos] X.env = [(false, eval (.Call (.Attribute e "values" apos) [] [] cpos) X.env)] := by rfl) : PE X (.Call (.Name "list" p1) [.Call (.Attribute e "values" apos) [] [] cpos] [] pos1) (tListVals te) := by
  intro pins s σ H Q I h
  refine wpAny_Call_Name_kw (ld_blt I h1 m1 b_list ?_ (by decide) (by decide))
  refine PyProof.Rows.callWith_type1 ?_ s2 rfl
  rw [s2]
  refine Calls.spliced_cons (wpAny_Call_method0_late hbase hline (thn (he pins s σ H _ I h) fun u s3 ⟨v, H1, I1, r1, a, kvs, ev, ea, q⟩ => ?_))
  subst ev
  cases r1
  obtain ⟨t1, t2⟩ := tyV_is (T := "dict") (x := .ref a) (v := .ref a) I1 rfl (.inr (.inr (.inl ⟨rfl, .inl ⟨kvs, ea⟩⟩)))
  obtain ⟨z, hd, ws, rel, dd⟩ := (show ObjOk X.prog X.w H1 s3.heap a (.dK kvs) from I1.hok a _ ea)
  obtain ⟨ep, hat⟩ := dd.dictAt
  refine ⟨"dict", "dict.values", PySem.F.plainAttrs_dict, PySem.F.slot_dict_values, PySem.F.type_dict_values, t1, t2, Calls.callWith_builtin rfl (PySem.evalArgs_none ?_)⟩
  refine call_meetsIn PySem.F.slot_dict_values dd.typeIs PySem.F.entry_dict_values (PySem.F.args_dict_values_1 _) (meets_dict_values (mixKind X.prog X.w) a hd) ⟨⟨ws, dd⟩, Calls.spliced_nil ?_⟩
  refine PySem.W.kdl_call (PySem.W.kdl_values (knd := mixKind X.prog X.w) (kvs := ws) (ep := ep)) (I1.ok.hd hc) ⟨⟨_, Heap.get?_push_size _ rfl, rfl, rfl⟩, hat.push _⟩ (by rw [← kvLen rel]; exact z) fun h' tk acc' c' hk hS hacc => ?_
  have hv : acc'.toList = ws.map (·.2) := PySem.W.kdl_vals_eq acc'.toList (by rw [Array.length_toList]; exact hacc.1) fun j v' ej => hacc.2 j v' (by rw [← Array.getElem?_toList]; exact ej)
  generalize ho : ({ cls := .type "dict_values", data := .fields #[.ref a] } : Obj) = ob at *
  have hsz : (s3.heap.push ob).objs.size = s3.heap.objs.size + 1 := Heap.size_push ..
  have rv : Vals (kvs.map Prod.snd) acc'.toList := by rw [hv]; exact kvVals rel
  have I2 : Inv X pins σ (upd H1 (s3.heap.push ob).objs.size (.lst (kvs.map Prod.snd))) { s3 with heap := h', toks := tk } :=
    I1.laid (fun b o e => hk b o (Heap.get?_push_of_some _ e)) (by rw [hsz]; exact Nat.le_succ _) (show ObjOk X.prog X.w _ h' _ (.lst (kvs.map Prod.snd)) from ⟨by rw [List.length_map]; exact z, acc'.toList, c', rv, by simpa using hS⟩)
  exact ⟨.ref _, _, I2, rfl, q _ (I1.hok.fresh (by rw [hsz]; exact Nat.le_succ _))⟩
end
end L2
namespace L2
open PySem PySem.Spec PyProof.Rows
section
variable {X : Cx}
end
end L2
namespace Stb
open PySem PyProof.Rows
def T (xs : Array Keyed) (i : Nat) : Int := match xs[i]? with
  | some p => numOf p.2
  | none => 0
theorem T_at {xs ys : Array Keyed} {i j : Nat} (h : xs[i]? = ys[j]?) : T xs i = T ys j := by unfold T; rw [h]
def Lx (xs : Array Keyed) (i j : Nat) : Prop := K xs i < K xs j ∨ (K xs i = K xs j ∧ T xs i < T xs j)
theorem Lx.trans {xs : Array Keyed} {i j k : Nat} (h : Lx xs i j) (h' : Lx xs j k) : Lx xs i k := by unfold Lx at *; omega
theorem Lx.le {xs : Array Keyed} {i j : Nat} (h : Lx xs i j) : K xs i ≤ K xs j := by unfold Lx at *; omega
def Up (xs : Array Keyed) (k : Nat) : Prop := ∀ i j, i < j → j < k → Lx xs i j
def Dn (xs : Array Keyed) (k : Nat) : Prop := ∀ i j, i < j → j < k → Lx xs j i
def Lat (a₀ xs : Array Keyed) (k : Nat) : Prop := ∀ i j, i < j → k ≤ j → j < a₀.size → T xs i < T xs j
theorem Lat.mono {a₀ xs : Array Keyed} {k k' : Nat} (h : Lat a₀ xs k) (hk : k ≤ k') : Lat a₀ xs k' := fun i j h1 h2 h3 => h i j h1 (by omega) h3
theorem bub_at {xs : Array Keyed} {src d : Nat} (hs : src < xs.size) (hd : d ≤ src) (k : Nat) :
    ∃ k', (K (bubble xs src d) k = K xs k' ∧ T (bubble xs src d) k = T xs k') ∧ k' = if k = src - d then src else if src - d < k ∧ k ≤ src then k - 1 else k := by
  refine ⟨_, ?_, rfl⟩
  have e := getElem?_bubble hs d hd k
  have e' : (bubble xs src d)[k]? = xs[if k = src - d then src else if src - d < k ∧ k ≤ src then k - 1 else k]? := by
    rw [e]
    split
    · rfl
    · split <;> rfl
  exact ⟨K_congr e', T_at e'⟩
theorem mir_at {xs : Array Keyed} {i j : Nat} (hj : j ≤ xs.size) (k : Nat) :
    ∃ k', (K (mirror xs i j ((j - i) / 2)) k = K xs k' ∧ T (mirror xs i j ((j - i) / 2)) k = T xs k') ∧ k' = if i ≤ k ∧ k < j then i + j - 1 - k else k := by
  refine ⟨_, ?_, rfl⟩
  have e := getElem?_mirror_all (i := i) hj k
  have e' : (mirror xs i j ((j - i) / 2))[k]? = xs[if i ≤ k ∧ k < j then i + j - 1 - k else k]? := by
    rw [e]
    split <;> rfl
  exact ⟨K_congr e', T_at e'⟩
theorem lat_mir {a₀ xs : Array Keyed} {i j k : Nat} (hj : j ≤ xs.size) (hk : j ≤ k) (h : Lat a₀ xs k) : Lat a₀ (mirror xs i j ((j - i) / 2)) k := by
  intro a b hab hkb hb
  obtain ⟨a', ⟨_, ea⟩, ha⟩ := mir_at (i := i) hj a
  obtain ⟨b', ⟨_, eb⟩, hb'⟩ := mir_at (i := i) hj b
  rw [ea, eb]
  rw [if_neg (by omega)] at hb'
  subst hb'
  refine h _ _ ?_ hkb hb
  rw [ha]
  split <;> omega
section
variable {prog : Program} {w : World} {A : Around} {E : Value → Shared → Prop} {s : Shared} {a₀ : Array Keyed}
theorem asc {st : SortSt} {a nrem : Nat} {Q : AscSt → SortSt → Prop} (h0 : IntKeys a₀) (hn : nrem ≤ a₀.size) (ha : 1 ≤ a) (han : a ≤ nrem) (hB : SBase a₀ st) (hs : Up (arrOf st) a) (hl : Lat a₀ (arrOf st) a)
    (h : ∀ n, a ≤ n → n ≤ nrem → Up (arrOf st) n → (n = nrem ∨ K (arrOf st) n < K (arrOf st) (n - 1)) → Q (none, n) st) : wpS (model prog w) A E s (ascLoop a nrem) Q st := by
  unfold ascLoop
  refine wpS_forRange (I := fun x c st' => st' = st ∧ c = (none, x) ∧ Up (arrOf st) x) ?turn ?over ⟨rfl, rfl, hs⟩
  case over =>
    rintro c st' ⟨rfl, rfl, u⟩
    rw [show max a nrem = nrem by omega] at u ⊢
    exact h nrem han (Nat.le_refl _) u (.inl rfl)
  case turn =>
    rintro x c st' hax hxn ⟨rfl, rfl, u⟩
    dsimp only
    refine wpS_bind (wpS_ltK hB h0 (by omega) (by omega) ?_)
    by_cases c1 : K (arrOf st') x < K (arrOf st') (x - 1)
    · simp only [c1, decide_true, if_true]
      exact wpS_pure (h x hax (by omega) u (.inr c1))
    · simp only [c1, decide_false, Bool.false_eq_true, if_false]
      refine wpS_pure ⟨rfl, rfl, fun i j hij hj => ?_⟩
      by_cases hjx : j < x
      · exact u i j hij hjx
      · have e : j = x := by omega
        subst e
        have t1 := hl (j - 1) j (by omega) hax (by omega)
        have l1 : Lx (arrOf st') (j - 1) j := by unfold Lx; omega
        by_cases e2 : i = j - 1
        · rw [e2]; exact l1
        · exact (u i (j - 1) (by omega) (by omega)).trans l1
theorem tail {st : SortSt} {n nrem : Nat} {Q : Option Nat → SortSt → Prop} (h0 : IntKeys a₀) (hn : nrem ≤ a₀.size) (h1 : 1 ≤ n) (hnn : n ≤ nrem) (hB : SBase a₀ st) (hs : Dn (arrOf st) n) (hl : Lat a₀ (arrOf st) n)
    (h : ∀ m st', SBase a₀ st' → 1 ≤ m → m ≤ nrem → Up (arrOf st') m → Lat a₀ (arrOf st') m → Q (some m) st') : wpS (model prog w) A E s (tail3 n nrem) Q st := by
  unfold tail3
  have sz : n ≤ (arrOf st).size := by rw [hB.size]; omega
  refine wpS_bind (wpS_reverse ?_)
  have hB2 : SBase a₀ (setArr st (mirror (arrOf st) 0 n ((n - 0) / 2))) := hB.setArr (mirror_perm _ _ _ _)
  have hl2 : Lat a₀ (mirror (arrOf st) 0 n ((n - 0) / 2)) n := lat_mir sz (Nat.le_refl _) hl
  refine wpS_bind (asc h0 hn h1 hnn hB2 ?_ hl2 fun m hm1 hm2 hu _ => wpS_pure (h m _ hB2 (by omega) hm2 hu (hl2.mono hm1)))
  intro i j hij hj
  show Lx (mirror (arrOf st) 0 n ((n - 0) / 2)) i j
  obtain ⟨i', ⟨k1, t1⟩, e1⟩ := mir_at (i := 0) sz i
  obtain ⟨j', ⟨k2, t2⟩, e2⟩ := mir_at (i := 0) sz j
  rw [if_pos (by omega)] at e1 e2
  have := hs j' i' (by omega) (by omega)
  unfold Lx at this ⊢
  rw [k1, k2, t1, t2]
  exact this
structure Fl (a₀ xs : Array Keyed) (x neq : Nat) : Prop where
  few : neq + 1 ≤ x
  hd : Dn xs (x - (neq + 1))
  cr : ∀ i j, i < x - (neq + 1) → x - (neq + 1) ≤ j → j < x → K xs j < K xs i
  tl : ∀ i j, x - (neq + 1) ≤ i → i < j → j < x → K xs i = K xs j ∧ T xs i < T xs j
  lat : Lat a₀ xs x
theorem Fl.turned {xs : Array Keyed} {x neq : Nat} (h : Fl a₀ xs x neq) (hx : x ≤ xs.size) : Dn (mirror xs (x - (neq + 1)) x ((x - (x - (neq + 1))) / 2)) x ∧ (∀ i, i < x → K xs (x - 1) ≤ K (mirror xs (x - (neq + 1)) x ((x - (x - (neq + 1))) / 2)) i) ∧ Lat a₀ (mirror xs (x - (neq + 1)) x ((x - (x - (neq + 1))) / 2)) x ∧
    ∀ k, x ≤ k → K (mirror xs (x - (neq + 1)) x ((x - (x - (neq + 1))) / 2)) k = K xs k := by
  have hf := h.few
  refine ⟨fun i j hij hj => ?_, fun i hi => ?_, lat_mir hx (Nat.le_refl _) h.lat, fun k hk => ?_⟩
  · obtain ⟨i', ⟨k1, t1⟩, e1⟩ := mir_at (i := x - (neq + 1)) hx i
    obtain ⟨j', ⟨k2, t2⟩, e2⟩ := mir_at (i := x - (neq + 1)) hx j
    unfold Lx
    rw [k1, k2, t1, t2]
    by_cases c1 : j < x - (neq + 1)
    · rw [if_neg (by omega)] at e1 e2
      subst e1 e2
      exact h.hd i' j' hij c1
    · rw [if_pos (by omega)] at e2
      by_cases c2 : i < x - (neq + 1)
      · rw [if_neg (by omega)] at e1
        subst e1
        exact .inl (h.cr i' j' c2 (by omega) (by omega))
      · rw [if_pos (by omega)] at e1
        have := h.tl j' i' (by omega) (by omega) (by omega)
        omega
  · obtain ⟨i', ⟨k1, _⟩, e1⟩ := mir_at (i := x - (neq + 1)) hx i
    rw [k1]
    by_cases c2 : i < x - (neq + 1)
    · rw [if_neg (by omega)] at e1
      subst e1
      have := h.cr i' (x - 1) c2 (by omega) (by omega)
      omega
    · rw [if_pos (by omega)] at e1
      by_cases c3 : i' = x - 1
      · rw [c3]; exact Int.le_refl _
      · have := h.tl i' (x - 1) (by omega) (by omega) (by omega)
        omega
  · obtain ⟨k', ⟨k1, _⟩, e1⟩ := mir_at (i := x - (neq + 1)) hx k
    rw [if_neg (by omega)] at e1
    rw [k1, e1]
theorem Fl.plain {xs : Array Keyed} {x : Nat} (h : Fl a₀ xs x 0) : Dn xs x ∧ (∀ i, i < x → K xs (x - 1) ≤ K xs i) := by
  have hf := h.few
  refine ⟨fun i j hij hj => ?_, fun i hi => ?_⟩
  · by_cases c1 : j < x - (0 + 1)
    · exact h.hd i j hij c1
    · exact .inl (h.cr i j (by omega) (by omega) hj)
  · by_cases c3 : i = x - 1
    · rw [c3]; exact Int.le_refl _
    · have := h.cr i (x - 1) (by omega) (by omega) (by omega)
      omega
theorem Fl.next {xs : Array Keyed} {x : Nat} (hd : Dn xs x) (hk : ∀ i, i < x → K xs x < K xs i) (hl : Lat a₀ xs x) : Fl a₀ xs (x + 1) 0 :=
  ⟨by omega, fun i j h1 h2 => hd i j h1 (by omega), fun i j h1 h2 h3 => by
    have e : j = x := by omega
    subst e
    exact hk i (by omega), fun i j h1 h2 h3 => by omega, hl.mono (by omega)⟩
theorem desc {st : SortSt} {n nrem : Nat} {Q : DescSt → SortSt → Prop} (h0 : IntKeys a₀) (hn : nrem ≤ a₀.size) (hnn : n ≤ nrem) (hB : SBase a₀ st) (hs : Fl a₀ (arrOf st) n 0)
    (h : ∀ m neq st', SBase a₀ st' → n ≤ m → m ≤ nrem → Fl a₀ (arrOf st') m neq → Q (none, m, neq) st') : wpS (model prog w) A E s (descLoop n nrem) Q st := by
  unfold descLoop
  refine wpS_forRange (I := fun x c st' => ∃ neq, c = (none, x, neq) ∧ SBase a₀ st' ∧ Fl a₀ (arrOf st') x neq) ?turn ?over ⟨0, rfl, hB, hs⟩
  case over =>
    rintro c st' ⟨neq, rfl, hB', f⟩
    rw [show max n nrem = nrem by omega] at f ⊢
    exact h nrem neq st' hB' hnn (Nat.le_refl _) f
  case turn =>
    rintro x c st' hax hxn ⟨neq, rfl, hB', f⟩
    dsimp only
    have few := f.few
    have sz : x ≤ (arrOf st').size := by rw [hB'.size]; omega
    refine wpS_bind (wpS_ltK hB' h0 (by omega) (by omega) ?_)
    by_cases c1 : K (arrOf st') x < K (arrOf st') (x - 1)
    · simp only [c1, decide_true, if_true]
      by_cases c2 : neq > 0
      · rw [if_pos c2]
        obtain ⟨d1, d2, d3, d4⟩ := f.turned sz
        refine wpS_bind (wpS_reverse (wpS_pure ⟨0, rfl, hB'.setArr (mirror_perm _ _ _ _), Fl.next d1 (fun i hi => ?_) d3⟩))
        have := d2 i hi
        have e := d4 x (Nat.le_refl _)
        show K (mirror (arrOf st') _ _ _) x < K (mirror (arrOf st') _ _ _) i
        omega
      · rw [if_neg c2]
        have e : neq = 0 := by omega
        subst e
        obtain ⟨d1, d2⟩ := f.plain
        exact wpS_pure ⟨0, rfl, hB', Fl.next d1 (fun i hi => by have := d2 i hi; omega) f.lat⟩
    · simp only [c1, decide_false, Bool.false_eq_true, if_false]
      refine wpS_bind (wpS_ltK hB' h0 (by omega) (by omega) ?_)
      by_cases c2 : K (arrOf st') (x - 1) < K (arrOf st') x
      · simp only [c2, decide_true, if_true]
        exact wpS_pure (h x neq st' hB' hax (by omega) f)
      · simp only [c2, decide_false, Bool.false_eq_true, if_false]
        have ek : K (arrOf st') x = K (arrOf st') (x - 1) := by omega
        refine wpS_pure ⟨neq + 1, rfl, hB', ⟨by omega, ?_, ?_, ?_, f.lat.mono (by omega)⟩⟩
        · rw [show x + 1 - (neq + 1 + 1) = x - (neq + 1) by omega]
          exact f.hd
        · rw [show x + 1 - (neq + 1 + 1) = x - (neq + 1) by omega]
          intro i j h1 h2 h3
          by_cases c3 : j < x
          · exact f.cr i j h1 h2 c3
          · have e : j = x := by omega
            subst e
            rw [ek]
            exact f.cr i (j - 1) h1 (by omega) (by omega)
        · rw [show x + 1 - (neq + 1 + 1) = x - (neq + 1) by omega]
          intro i j h1 h2 h3
          by_cases c3 : j < x
          · exact f.tl i j h1 h2 c3
          · have e : j = x := by omega
            subst e
            refine ⟨?_, f.lat i j h2 (Nat.le_refl _) (by omega)⟩
            rw [ek]
            by_cases c4 : i = j - 1
            · rw [c4]
            · exact (f.tl i (j - 1) h1 (by omega) (by omega)).1
theorem falls {st : SortSt} {n nrem : Nat} {Q : Option Nat → SortSt → Prop} (h0 : IntKeys a₀) (hn : nrem ≤ a₀.size) (hnn : n + 1 ≤ nrem) (hB : SBase a₀ st) (hs : Fl a₀ (arrOf st) (n + 1) 0)
    (h : ∀ m st', SBase a₀ st' → 1 ≤ m → m ≤ nrem → Up (arrOf st') m → Lat a₀ (arrOf st') m → Q (some m) st') : wpS (model prog w) A E s (descPart n nrem) Q st := by
  unfold descPart
  refine wpS_bind (wpS_lift (wpAny_rule ⟨rfl, ?_⟩))
  refine wpS_bind (desc h0 hn hnn hB hs fun m neq st' hB' hm1 hm2 f => ?_)
  dsimp only
  have sz : m ≤ (arrOf st').size := by rw [hB'.size]; omega
  by_cases c2 : neq > 0
  · rw [if_pos c2]
    obtain ⟨d1, _, d3, _⟩ := f.turned sz
    exact wpS_bind (wpS_reverse (tail h0 hn (by omega) hm2 (hB'.setArr (mirror_perm _ _ _ _)) d1 d3 h))
  · rw [if_neg c2]
    have e : neq = 0 := by omega
    subst e
    exact tail h0 hn (by omega) hm2 hB' f.plain.1 f.lat h
theorem count {st : SortSt} {nrem : Nat} {Q : Option Nat → SortSt → Prop} (h0 : IntKeys a₀) (hn : nrem ≤ a₀.size) (h1 : 1 ≤ nrem) (hB : SBase a₀ st) (hl : Lat a₀ (arrOf st) 1)
    (h : ∀ m st', SBase a₀ st' → 1 ≤ m → m ≤ nrem → Up (arrOf st') m → Lat a₀ (arrOf st') m → Q (some m) st') : wpS (model prog w) A E s (countRun' 0 nrem) Q st := by
  rw [countRun0_eq]
  refine wpS_bind (asc h0 hn (Nat.le_refl 1) h1 hB (fun i j hij hj => by omega) hl fun n hn1 hn2 hu hor => ?_)
  dsimp only
  by_cases c1 : n = nrem
  · rw [if_pos (by simpa using c1)]
    exact wpS_pure (h n st hB hn1 hn2 hu (hl.mono hn1))
  · rw [if_neg (by simpa using c1)]
    have lt : K (arrOf st) n < K (arrOf st) (n - 1) := hor.resolve_left c1
    by_cases c2 : n > 1
    · rw [if_pos c2]
      refine wpS_bind (wpS_ltK hB h0 (by omega) (by omega) ?_)
      by_cases c3 : K (arrOf st) 0 < K (arrOf st) (n - 1)
      · simp only [c3, decide_true, if_true]
        exact wpS_pure (h n st hB hn1 hn2 hu (hl.mono hn1))
      · simp only [c3, decide_false, Bool.false_eq_true, if_false]
        have sz : n ≤ (arrOf st).size := by rw [hB.size]; omega
        have same : ∀ i, i < n → K (arrOf st) i = K (arrOf st) (n - 1) := fun i hi => by
          by_cases z : i = 0
          · subst z
            have := (hu 0 (n - 1) (by omega) (by omega)).le
            omega
          · have a1 := (hu 0 i (by omega) hi).le
            by_cases z2 : i = n - 1
            · rw [z2]
            · have a2 := (hu i (n - 1) (by omega) (by omega)).le
              omega
        refine wpS_bind (wpS_reverse (falls h0 hn (by omega) (hB.setArr (mirror_perm _ _ _ _)) (Fl.next (fun i j hij hj => ?_) (fun i hi => ?_) (lat_mir sz (Nat.le_refl _) (hl.mono hn1))) h))
        · show Lx (mirror (arrOf st) 0 n ((n - 0) / 2)) j i
          obtain ⟨i', ⟨k1, t1⟩, e1⟩ := mir_at (i := 0) sz i
          obtain ⟨j', ⟨k2, t2⟩, e2⟩ := mir_at (i := 0) sz j
          rw [if_pos (by omega)] at e1 e2
          have := hu j' i' (by omega) (by omega)
          unfold Lx at this ⊢
          rw [k1, k2, t1, t2]
          exact this
        · show K (mirror (arrOf st) 0 n ((n - 0) / 2)) n < K (mirror (arrOf st) 0 n ((n - 0) / 2)) i
          obtain ⟨i', ⟨k1, _⟩, e1⟩ := mir_at (i := 0) sz i
          obtain ⟨n', ⟨k2, _⟩, e2⟩ := mir_at (i := 0) sz n
          rw [if_pos (by omega)] at e1
          rw [if_neg (by omega)] at e2
          subst e2
          rw [k1, k2, same i' (by omega)]
          exact lt
    · rw [if_neg c2]
      have e : n = 1 := by omega
      subst e
      refine falls h0 hn (by omega) hB (Fl.next (fun i j hij hj => by omega) (fun i hi => ?_) hl) h
      have z : i = 0 := by omega
      subst z
      exact lt
theorem insert {st : SortSt} {n ok : Nat} {Q : Bool → SortSt → Prop} (h0 : IntKeys a₀) (hn : n ≤ a₀.size) (h1 : 1 ≤ ok) (hok : ok ≤ n) (hB : SBase a₀ st) (hs : Up (arrOf st) ok) (hl : Lat a₀ (arrOf st) ok)
    (h : ∀ st', SBase a₀ st' → Up (arrOf st') n → Q true st') : wpS (model prog w) A E s (binarySort' 0 n ok) Q st := by
  rw [binarySort'_eq]
  simp only [Nat.zero_add]
  refine wpS_bind (wpS_mono (wpS_forRange (I := fun k c st' => c = (none, ()) ∧ SBase a₀ st' ∧ Up (arrOf st') (min k n) ∧ Lat a₀ (arrOf st') (min k n)) (Q := fun c st' => c = (none, ()) ∧ SBase a₀ st' ∧ Up (arrOf st') n) ?turn ?over ?begin) ?behind)
  case behind =>
    rintro c st' ⟨rfl, hB', hu⟩
    exact wpS_pure (h st' hB' hu)
  case begin =>
    rw [show max ok 1 = ok by omega, show min ok n = ok by omega]
    exact ⟨rfl, hB, hs, hl⟩
  case over =>
    rintro c st' ⟨hc, hB', hu, _⟩
    refine ⟨hc, hB', ?_⟩
    rwa [show min (max (max ok 1) n) n = n by omega] at hu
  case turn =>
    rintro k c st' hak hkn ⟨rfl, hB', hu, hla⟩
    rw [show min k n = k by omega] at hu hla
    have hk : k < a₀.size := by omega
    refine wpS_bind (wpS_mono (wpS_forRange (I := fun x c st'' => st'' = st' ∧ ∃ l r, c = (none, l, r) ∧ l ≤ r ∧ r ≤ k ∧ r - l ≤ k - x ∧ (∀ i, i < l → K (arrOf st') i ≤ K (arrOf st') k) ∧ (∀ i, r ≤ i → i < k → K (arrOf st') k < K (arrOf st') i))
      (Q := fun c st'' => st'' = st' ∧ ∃ l r, c = (none, l, r) ∧ l ≤ k ∧ (∀ i, i < l → K (arrOf st') i ≤ K (arrOf st') k) ∧ (∀ i, l ≤ i → i < k → K (arrOf st') k < K (arrOf st') i)) ?turn2 ?over2 ?begin2) ?behind2)
    case begin2 => exact ⟨rfl, 0, k, rfl, by omega, by omega, by omega, fun i hi => by omega, fun i a b => by omega⟩
    case over2 =>
      rintro c st'' ⟨rfl, l, r, rfl, hlr, hrk, hm, lo, hi⟩
      have e : l = r := by omega
      subst e
      exact ⟨rfl, l, l, rfl, hrk, lo, hi⟩
    case turn2 =>
      rintro x c st'' _ hxk ⟨rfl, l, r, rfl, hlr, hrk, hm, lo, hi⟩
      dsimp only
      by_cases c1 : l ≥ r
      · rw [if_pos c1]
        have e : l = r := by omega
        subst e
        exact wpS_pure ⟨rfl, l, l, rfl, hrk, lo, hi⟩
      · rw [if_neg c1]
        refine wpS_bind (wpS_ltK hB' h0 hk (by omega) ?_)
        by_cases c2 : K (arrOf st'') k < K (arrOf st'') ((l + r) / 2)
        · simp only [c2, decide_true, if_true]
          refine wpS_pure ⟨rfl, l, (l + r) / 2, rfl, by omega, by omega, by omega, lo, fun i a b => ?_⟩
          by_cases z : i = (l + r) / 2
          · rw [z]; exact c2
          · exact Int.lt_of_lt_of_le c2 (hu _ _ (by omega) b).le
        · simp only [c2, decide_false, Bool.false_eq_true, if_false]
          refine wpS_pure ⟨rfl, (l + r) / 2 + 1, r, rfl, by omega, by omega, by omega, fun i a => ?_, hi⟩
          by_cases z : i = (l + r) / 2
          · rw [z]; omega
          · exact Int.le_trans (hu i ((l + r) / 2) (by omega) (by omega)).le (Int.not_lt.mp c2)
    case behind2 =>
      rintro c st'' ⟨rfl, l, r, rfl, hlk, lo, hi⟩
      show wpS _ _ _ _ (do moveDown' k l; pure (ForInStep.yield (none, ()))) _ _
      rw [moveDown'_eq]
      have hks : k < (arrOf st'').size := by rw [hB'.size]; exact hk
      refine wpS_bind (wpS_modify (wpS_pure ⟨rfl, hB'.setArr (bubble_perm _ _ _), ?_, ?_⟩))
      · rw [show min (k + 1) n = k + 1 by omega]
        intro i j hij hj
        show Lx (bubble (arrOf st'') k (k - l)) i j
        obtain ⟨i', ⟨k1, t1⟩, e1⟩ := bub_at hks (show k - l ≤ k by omega) i
        obtain ⟨j', ⟨k2, t2⟩, e2⟩ := bub_at hks (show k - l ≤ k by omega) j
        rw [show k - (k - l) = l by omega] at e1 e2
        unfold Lx
        rw [k1, k2, t1, t2]
        by_cases z1 : i = l
        · rw [if_pos z1] at e1
          rw [if_neg (by omega), if_pos (by omega)] at e2
          subst e1
          exact .inl (hi j' (by omega) (by omega))
        · rw [if_neg z1] at e1
          by_cases z2 : j = l
          · rw [if_pos z2] at e2
            rw [if_neg (by omega)] at e1
            subst e2
            have a1 := lo i' (by omega)
            have a2 := hla i' j' (by omega) (Nat.le_refl _) hk
            omega
          · rw [if_neg z2] at e2
            refine hu i' j' ?_ ?_
            · rw [e1, e2]
              repeat' split
              all_goals omega
            · rw [e2]
              split <;> omega
      · rw [show min (k + 1) n = k + 1 by omega]
        intro a b hab hkb hb
        show T (bubble (arrOf st'') k (k - l)) a < T (bubble (arrOf st'') k (k - l)) b
        obtain ⟨a', ⟨_, t1⟩, e1⟩ := bub_at hks (show k - l ≤ k by omega) a
        obtain ⟨b', ⟨_, t2⟩, e2⟩ := bub_at hks (show k - l ≤ k by omega) b
        rw [show k - (k - l) = l by omega] at e1 e2
        rw [if_neg (by omega), if_neg (by omega)] at e2
        subst e2
        rw [t1, t2]
        refine hla a' b' ?_ (by omega) hb
        rw [e1]
        repeat' split
        all_goals omega
def Done (a₀ : Array Keyed) (st : SortSt) : Prop := (arrOf st).Perm a₀ ∧ failedOf st = none ∧ pendingOf st = #[(0, a₀.size, 0)] ∧ Up (arrOf st) a₀.size
theorem done {st : SortSt} (hB : SBase a₀ st) (hu : Up (arrOf st) a₀.size) : Done a₀ (setPending st ((pendingOf st).push (0, a₀.size, 0))) := ⟨hB.perm, hB.failed, by show (pendingOf st).push _ = _; rw [hB.pend]; rfl, hu⟩
theorem runs {st : SortSt} {Q : Unit → SortSt → Prop} (h0 : IntKeys a₀) (hB : SBase a₀ st) (h2 : 2 ≤ a₀.size) (h64 : a₀.size < 64) (hl : Lat a₀ (arrOf st) 1)
    (h : ∀ st', (arrOf st').Perm a₀ → failedOf st' = none → Up (arrOf st') a₀.size → Q () st') : wpS (model prog w) A E s sortRuns' Q st := by
  rw [sortRuns'_eq]
  refine wpS_bind (wpS_get ?_)
  dsimp only
  have mr : minRun' a₀.size a₀.size 0 = a₀.size := by
    obtain ⟨f, hf⟩ : ∃ f, a₀.size = f + 1 := ⟨a₀.size - 1, by omega⟩
    have z : minRun' (f + 1) a₀.size 0 = a₀.size := by rw [minRun'_succ, if_pos h64]; rfl
    rwa [← hf] at z
  simp only [hB.size, mr]
  refine wpS_bind (wpS_mono (wpS_forRange (I := fun x c st' => (x = 0 ∧ c = (none, 0) ∧ st' = st) ∨ (1 ≤ x ∧ c = (none, a₀.size) ∧ Done a₀ st')) (Q := fun c st' => c = (none, a₀.size) ∧ Done a₀ st') ?turn ?over (.inl ⟨rfl, rfl, rfl⟩)) ?behind)
  case over =>
    rintro c st' (⟨hx, _, _⟩ | ⟨_, hc, hD⟩)
    · omega
    · exact ⟨hc, hD⟩
  case turn =>
    rintro x c st' _ hx (⟨rfl, rfl, rfl⟩ | ⟨hx1, rfl, hD⟩)
    · dsimp only
      rw [if_neg (by omega)]
      simp only [Nat.sub_zero, Nat.min_self, Nat.zero_add]
      refine wpS_bind (count h0 (Nat.le_refl _) (by omega) hB hl fun m st2 hB2 hm1 hm2 hu2 hl2 => ?_)
      dsimp only
      by_cases c1 : m < a₀.size
      · rw [if_pos c1]
        refine wpS_bind (wpS_lift (wpAny_rule ⟨rfl, ?_⟩))
        refine wpS_bind (insert h0 (Nat.le_refl _) hm1 hm2 hB2 hu2 hl2 fun st3 hB3 hu3 => ?_)
        simp only [Bool.not_true, Bool.false_eq_true, if_false]
        refine wpS_bind (wpS_get ?_)
        have hb : (pendingOf st3).back? = none := by rw [hB3.pend]; rfl
        rw [hb]
        dsimp only
        exact wpS_bind (wpS_modify (wpS_pure (.inr ⟨by omega, rfl, done hB3 hu3⟩)))
      · rw [if_neg c1]
        have e : m = a₀.size := by omega
        subst e
        refine wpS_bind (wpS_get ?_)
        have hb : (pendingOf st2).back? = none := by rw [hB2.pend]; rfl
        rw [hb]
        dsimp only
        exact wpS_bind (wpS_modify (wpS_pure (.inr ⟨by omega, rfl, done hB2 hu2⟩)))
    · dsimp only
      rw [if_pos (Nat.le_refl _)]
      exact wpS_pure ⟨rfl, hD⟩
  case behind =>
    rintro c st' ⟨rfl, hD⟩
    dsimp only
    refine wpS_bind (wpS_mono (wpS_forRange (I := fun _ c st'' => st'' = st' ∧ c = (none, ())) (Q := fun c st'' => st'' = st' ∧ c = (none, ())) ?_ (fun _ _ z => z) ⟨rfl, rfl⟩) ?_)
    · rintro x c st'' _ _ ⟨rfl, rfl⟩
      refine wpS_bind (wpS_get ?_)
      rw [if_pos (by rw [hD.2.2.1]; exact Nat.le_refl 1)]
      exact wpS_pure ⟨rfl, rfl⟩
    · rintro c st'' ⟨rfl, rfl⟩
      exact wpS_pure (h _ hD.1 hD.2.1 hD.2.2.2)
end
end Stb
namespace Stb
open PySem PyProof.Rows
structure SJ (J : Shared → Prop) (n0 : Nat) : Prop where
  sz : ∀ s, J s → n0 ≤ s.heap.objs.size
  push : ∀ s c xs n, J s → J { s with heap := s.heap.push (seqObj c xs n) }
  upd : ∀ s b g, J s → n0 ≤ b → J { s with heap := s.heap.update b (Obj.mapSeq g) }
def Tells (J : Shared → Prop) (n0 : Nat) (k : Int) (s : Shared) (v : Value) (s' : Shared) : Prop := (∃ t, v = .int k t) ∧ J s' ∧ ∀ b o, n0 ≤ b → s.heap.get? b = some o → s'.heap.get? b = some o
def Rows (keys : Array Value) (vs : List Value) (out : Array Value) : Prop := ∃ xs : Array Keyed, xs.Perm (keys.zip vs.toArray) ∧ Up xs xs.size ∧ out = xs.map (·.2)
section
variable {prog : Program} {w : World} {A : Around} {E : Value → Shared → Prop} {s : Shared} {J : Shared → Prop} {n0 : Nat} {a kS : Addr} {vs : List Value} {kz : List Int} {keys : Array Value} {e e1 : Nat} {P : PySem.Fin → Shared → Prop}
theorem tailK (S : SJ J n0) (hJ : J s) (hk : s.heap.get? kS = some (seqObj "list" keys e)) (ha : s.heap.get? a = some (seqObj "list" #[] e1)) (ne : kS ≠ a) (nk : n0 ≤ kS) (na : n0 ≤ a) {st : SortSt} (hz : keys.size ≤ 64) (hp : (arrOf st).Perm (keys.zip vs.toArray)) (hu : Up (arrOf st) (arrOf st).size)
    (hf : failedOf st = none) (hv : vs.length ≤ 64) (h : ∀ h' out c, J { s with heap := h' } → h'.get? a = some (seqObj "list" out c) → Rows keys vs out → P (.done (.ret .none)) { s with heap := h' }) : wpAny (model prog w) A (ksk_tail a false e1 (.ref kS) st) P E s := by
  have sz2 : (arrOf st).size ≤ 64 := by
    have hvs : vs.toArray.size = vs.length := by simp
    rw [hp.size_eq, Array.size_zip]
    omega
  have q1 := Heap.SameBut.update s.heap kS (Obj.mapSeq fun _ => (#[] : Array Value))
  have g1 : (s.heap.update kS (Obj.mapSeq fun _ => (#[] : Array Value))).get? a = some (seqObj "list" #[] e1) := (q1.2 a ne.symm).trans ha
  have J1 := S.upd s kS (fun _ => #[]) hJ nk
  have J2 := S.upd _ a (fun _ => (arrOf st).map (·.2)) J1 na
  unfold ksk_tail
  try dsimp only
  refine wpAny_bind (listUpdate_at hk rfl ?_ (by rw [sizeLine_eq]; omega) (Nat.zero_le _))
  refine wpAny_bind (wpAny_letGo ?_)
  refine wpAny_bind (seqEpoch_at g1 rfl ?_)
  refine wpAny_bind (listUpdate_at g1 rfl ?_ (Nat.zero_le _) (by simp only [Bool.false_eq_true, if_false, Array.size_map]; rw [sizeLine_eq]; omega))
  rw [hf]
  simp only [bne_self_eq_false, Bool.false_eq_true, if_false]
  exact wpAny_pure (h _ _ _ J2 (get?_update_seq g1 fun _ => (arrOf st).map (·.2)) ⟨arrOf st, hp, hu, rfl⟩)
theorem zip_T {keys : Array Value} {vs : List Value} {i : Nat} (hl : keys.size = vs.length) : T (keys.zip vs.toArray) i = match vs[i]? with | some v => numOf v | none => 0 := by
  unfold T
  have hvs : vs.toArray.size = vs.length := by simp
  cases ev : vs[i]? with
  | none =>
    have hi : vs.length ≤ i := List.getElem?_eq_none_iff.mp ev
    have e : (keys.zip vs.toArray)[i]? = none := Array.getElem?_eq_none (by rw [Array.size_zip]; omega)
    rw [e]
  | some v =>
    have hi : i < vs.length := (List.getElem?_eq_some_iff.mp ev).1
    have hz : i < (keys.zip vs.toArray).size := by rw [Array.size_zip]; omega
    have ev' : vs[i] = v := by
      rw [List.getElem?_eq_getElem hi] at ev
      exact Option.some.inj ev
    have e : (keys.zip vs.toArray)[i]? = some (keys[i]'(by omega), vs[i]) := by
      rw [Array.getElem?_eq_getElem hz]
      simp
    rw [e, ev']
theorem endK (S : SJ J n0) (hJ : J s) (hk : s.heap.get? kS = some (seqObj "list" keys e)) (ha : s.heap.get? a = some (seqObj "list" #[] e1)) (ne : kS ≠ a) (nk : n0 ≤ kS) (na : n0 ≤ a) (hi : IntsAre keys.toList kz) (hl : keys.size = vs.length) (h64 : vs.length < 64)
    (up : ∀ (i j : Nat) (x y : Value), i < j → vs[i]? = some x → vs[j]? = some y → numOf x < numOf y)
    (h : ∀ h' out c, J { s with heap := h' } → h'.get? a = some (seqObj "list" out c) → Rows keys vs out → P (.done (.ret .none)) { s with heap := h' }) : wpAny (model prog w) A (ksk_end a false vs.toArray e1 (.ref kS) keys) P E s := by
  have hvs : vs.toArray.size = vs.length := by simp
  have zs : (keys.zip vs.toArray).size = vs.length := by rw [Array.size_zip]; omega
  unfold ksk_end
  try dsimp only
  simp only [Bool.false_eq_true, if_false]
  by_cases h2 : vs.toArray.size < 2
  · rw [if_pos h2, if_pos h2]
    refine wpAny_bind (wpAny_pure ?_)
    rw [StateT.run_pure]
    refine wpAny_bind (wpAny_pure ?_)
    try dsimp only
    refine tailK (st := SortSt.mk' general' (keys.zip vs.toArray) #[] 7 none) S hJ hk ha ne nk na (by omega) (Array.Perm.refl _) ?_ rfl (by omega) h
    intro i j hij hj
    have hj2 : j < (keys.zip vs.toArray).size := hj
    rw [zs] at hj2
    rw [List.size_toArray] at h2
    omega
  · rw [if_neg h2, if_neg h2]
    rw [List.size_toArray] at h2
    rw [ksk_kind hi (by rw [hl]; omega)]
    refine wpAny_bind (wpAny_pure ?_)
    have lat : Lat (keys.zip vs.toArray) (keys.zip vs.toArray) 1 := fun i j hij _ hj => by
      rw [zs] at hj
      rw [zip_T hl, zip_T hl, List.getElem?_eq_getElem (show i < vs.length by omega), List.getElem?_eq_getElem hj]
      exact up i j _ _ hij (List.getElem?_eq_getElem (show i < vs.length by omega)) (List.getElem?_eq_getElem hj)
    refine wpAny_bind (wpAny_mono (runs (a₀ := keys.zip vs.toArray) (st := SortSt.mk' oneType' (keys.zip vs.toArray) #[] 7 none) (Q := fun _ st' => (arrOf st').Perm (keys.zip vs.toArray) ∧ failedOf st' = none ∧ Up (arrOf st') (keys.zip vs.toArray).size)
      (ksk_intKeys hi) ⟨Array.Perm.refl _, rfl, rfl, rfl⟩ (by rw [zs]; omega) (by rw [zs]; exact h64) lat fun st' b1 b2 b3 => ⟨b1, b2, b3⟩) ?_ fun _ _ z => z)
    rintro ⟨⟨⟩, st'⟩ s' ⟨rfl, b1, b2, b3⟩
    try dsimp only
    exact tailK S hJ hk ha ne nk na (by omega) b1 (by rw [b1.size_eq]; exact b3) b2 (by omega) h
theorem restK {f : Value} (S : SJ J n0) (hJ : J s) (hk : s.heap.get? kS = some (seqObj "list" #[] 0)) (ha : s.heap.get? a = some (seqObj "list" #[] e1)) (ne : kS ≠ a) (nk : n0 ≤ kS) (na : n0 ≤ a) (hl : kz.length = vs.length) (h64 : vs.length < 64)
    (up : ∀ (i j : Nat) (x y : Value), i < j → vs[i]? = some x → vs[j]? = some y → numOf x < numOf y)
    (turn : ∀ (i : Nat) (v : Value) (k : Int), vs[i]? = some v → kz[i]? = some k → ∀ s', J s' → wpAny (model prog w) A (call f [v]) (Tells J n0 k s') (fun _ _ => False) s')
    (h : ∀ s' keys out c, J s' → s'.heap.get? a = some (seqObj "list" out c) → IntsAre keys.toList kz → keys.size = vs.length → Rows keys vs out → P (.done (.ret .none)) s') : wpAny (model prog w) A (ksk_rest a f false vs.toArray e1 (.ref kS)) P E s := by
  unfold ksk_rest
  refine wpAny_bind (wpAny_rule ?_)
  first
    | rw [List.forIn_toArray]
    | rw [← Array.forIn_toList]
  refine wpAny_bind (ksk_fold (fun i s' => J s' ∧ ∃ kA e, s'.heap.get? kS = some (seqObj "list" kA e) ∧ s'.heap.get? a = some (seqObj "list" #[] e1) ∧ IntsAre kA.toList (kz.take i)) vs 0 s ⟨hJ, #[], 0, hk, ha, by simpa using IntsAre.nil⟩ ?turnP ?doneP)
  case turnP =>
    rintro j x s' hx ⟨J', kA, e, g1, g2, hi⟩
    simp only [Nat.zero_add] at hi ⊢
    have hj : j < vs.length := (List.getElem?_eq_some_iff.mp hx).1
    obtain ⟨k, ek⟩ : ∃ k, kz[j]? = some k := ⟨_, List.getElem?_eq_getElem (by omega)⟩
    have lz : kA.size ≤ vs.length := by
      have h1 := hi.length
      rw [Array.length_toList, List.length_take] at h1
      omega
    refine wpAny_bind (wpAny_attempt (wpAny_mono (turn j x k hx ek s' J') (fun v s'' hT => ?_) fun _ _ z => z.elim))
    obtain ⟨⟨t, rfl⟩, J2, kp⟩ := hT
    try dsimp only
    have g1' := kp _ _ nk g1
    have g2' := kp _ _ na g2
    have q1 := Heap.SameBut.update s''.heap kS (Obj.mapSeq (·.push (.int k t)))
    refine wpAny_bind (listUpdate_at g1' rfl ?_ (by rw [sizeLine_eq]; omega) (Nat.le_trans (Nat.le_of_eq (Array.size_push ..)) (by rw [sizeLine_eq]; omega)))
    have et : kz.take (j + 1) = kz.take j ++ [k] := by rw [List.take_add_one, ek]; simp
    have ep : (kA.push (Value.int k t)).toList = kA.toList ++ [Value.int k t] := by simp
    exact wpAny_pure ⟨rfl, S.upd _ kS _ J2 nk, kA.push (.int k t), _, get?_update_seq g1' (·.push (.int k t)), (q1.2 a ne.symm).trans g2', by rw [ep, et]; exact ksk_snoc hi⟩
  case doneP =>
    rintro s' ⟨J', kA, e, g1, g2, hi⟩
    have e3 : kz.take (0 + vs.length) = kz := List.take_of_length_le (by omega)
    rw [e3] at hi
    have lk : kA.size = vs.length := by
      have := hi.length
      rw [Array.length_toList] at this
      omega
    try dsimp only
    refine wpAny_bind (listItems_at g1 rfl ?_)
    exact endK S J' g1 g2 ne nk na hi lk h64 up fun h' out c z1 z2 z3 => h _ kA out c z1 z2 hi lk z3
theorem sortK {f : Value} {n : Nat} (S : SJ J n0) (hJ : J s) (ho : s.heap.get? a = some (seqObj "list" vs.toArray n)) (na : n0 ≤ a) (hl : kz.length = vs.length) (h64 : vs.length < 64)
    (up : ∀ (i j : Nat) (x y : Value), i < j → vs[i]? = some x → vs[j]? = some y → numOf x < numOf y)
    (turn : ∀ (i : Nat) (v : Value) (k : Int), vs[i]? = some v → kz[i]? = some k → ∀ s', J s' → wpAny (model prog w) A (call f [v]) (Tells J n0 k s') (fun _ _ => False) s')
    (h : ∀ s' keys out c, J s' → s'.heap.get? a = some (seqObj "list" out c) → IntsAre keys.toList kz → keys.size = vs.length → Rows keys vs out → P (.done (.ret .none)) s') : wpAny (model prog w) A (ksk_tree a f false) P E s := by
  have la : a < s.heap.objs.size := Heap.lt_size ho
  have J1 := S.upd s a (fun _ => #[]) hJ na
  have J2 := S.push _ "tuple" vs.toArray 0 J1
  have J3 := S.push _ "list" #[] 0 J2
  obtain ⟨e1, g1⟩ : ∃ e1, (s.heap.update a (Obj.mapSeq fun _ => (#[] : Array Value))).get? a = some (seqObj "list" #[] e1) := ⟨_, get?_update_seq ho fun _ => #[]⟩
  have sz : ((s.heap.update a (Obj.mapSeq fun _ => (#[] : Array Value))).push (seqObj "tuple" vs.toArray 0)).objs.size = s.heap.objs.size + 1 := by rw [size_push', Heap.size_update]
  have n0s := S.sz s hJ
  unfold ksk_tree
  refine wpAny_bind (listItems_at ho rfl ?_)
  refine wpAny_bind (listUpdate_at ho rfl ?_ (by rw [List.size_toArray, sizeLine_eq]; omega) (Nat.zero_le _))
  refine wpAny_bind (seqEpoch_at g1 rfl ?_)
  refine wpAny_bind (wpAny_newTuple ?_ (by show vs.length ≤ _; rw [sizeLine_eq]; omega))
  refine wpAny_bind (wpAny_newList ?_ (Nat.zero_le _))
  refine wpAny_holding ?_
  refine restK (s := { s with heap := ((s.heap.update a (Obj.mapSeq fun _ => (#[] : Array Value))).push (seqObj "tuple" vs.toArray 0)).push (seqObj "list" #[] 0) }) (kS := ((s.heap.update a (Obj.mapSeq fun _ => (#[] : Array Value))).push (seqObj "tuple" vs.toArray 0)).objs.size)
    S J3 (Heap.get?_push_size _ rfl) (Heap.get?_push_of_some _ (Heap.get?_push_of_some _ g1)) (by rw [sz]; exact Nat.ne_of_gt (Nat.lt_succ_of_lt la)) (by rw [sz]; omega) na hl h64 up turn h
end
section
variable {prog : Program} {w : World} {A : Around} {E : Value → Shared → Prop} {s : Shared} {J : Shared → Prop} {n0 : Nat} {vs : List Value} {kz : List Int} {Q : Value → Shared → Prop}
theorem sortedK {l f : Addr} (S : SJ J n0) (hJ : J s) (hL : s.heap.IsList l vs.toArray) (hl : kz.length = vs.length) (h64 : vs.length < 64)
    (up : ∀ (i j : Nat) (x y : Value), i < j → vs[i]? = some x → vs[j]? = some y → numOf x < numOf y)
    (turn : ∀ (i : Nat) (v : Value) (k : Int), vs[i]? = some v → kz[i]? = some k → ∀ s', J s' → wpAny (model prog w) A.in1.in1 (call (.ref f) [v]) (Tells J n0 k s') (fun _ _ => False) s')
    (h : ∀ s' D keys out c, n0 ≤ D → J s' → s'.heap.get? D = some (seqObj "list" out c) → IntsAre keys.toList kz → keys.size = vs.length → Rows keys vs out → Q (.ref D) s') : wpAny (model prog w) A (call (.builtin "sorted") [.ref l] [(Str.ofString "key", .ref f)]) Q E s := by
  refine call_function_entry_kw kind_sorted plain_sorted entry_sorted (ksk_s1 _ _) ?_
  unfold Builtin.«sorted»
  refine wpAny_bind (m := checkCount "sorted" 1 1 _) (wpAny_pure ?_)
  refine wpAny_bind (collect_list hL ?_ (by rw [sizeLine_eq]; omega))
  refine wpAny_bind (wpAny_newList ?_ (by rw [sizeLine_eq]; omega))
  have n0s := S.sz s hJ
  have J1 := S.push s "list" #[] 0 hJ
  have J2 := S.upd _ s.heap.objs.size (· ++ vs.toArray) J1 n0s
  have J3 := S.push _ "list" vs.toArray 0 J2
  have sz : ((s.heap.push (seqObj "list" #[] 0)).update s.heap.objs.size (Obj.mapSeq (· ++ vs.toArray))).objs.size = s.heap.objs.size + 1 := by rw [Heap.size_update, size_push']
  have g1 : (((s.heap.push (seqObj "list" #[] 0)).update s.heap.objs.size (Obj.mapSeq (· ++ vs.toArray))).push (seqObj "list" vs.toArray 0)).get? (s.heap.objs.size + 1) = some (seqObj "list" vs.toArray 0) := by
    rw [← sz]
    exact Heap.get?_push_size _ rfl
  show wpAny _ _ _ _ _ { s with heap := ((s.heap.push (seqObj "list" #[] 0)).update s.heap.objs.size (Obj.mapSeq (· ++ vs.toArray))).push (seqObj "list" vs.toArray 0) }
  rw [sz]
  refine wpAny_bind (wpAny_holding (wpAny_call_entry_kw slot_list_sort ⟨_, g1, rfl⟩ entry_list_sort ?inner (ksk_l1 _ _)))
  case inner =>
    show wpAny (model prog w) A.in1.in1 (Builtin.«list.sort» ⟨[.ref (s.heap.objs.size + 1)], [(Str.ofString "key", .ref f)]⟩) _ _ _
    rw [ksk_t1]
    refine sortK (s := { s with heap := ((s.heap.push (seqObj "list" #[] 0)).update s.heap.objs.size (Obj.mapSeq (· ++ vs.toArray))).push (seqObj "list" vs.toArray 0) }) S J3 g1 (by omega) hl h64 up turn fun s' keys out c z1 z2 z3 z4 z5 => ⟨_, rfl, ?_⟩
    exact wpAny_pure ⟨_, rfl, h s' _ keys out c (by omega) z1 z2 z3 z4 z5⟩
end
end Stb
namespace L2
open PySem PySem.Spec PyProof.Rows
structure LamScope (X : Cx) (scope : Scope) (x : Str) (N : List Str) (cap : List (Option Nat)) : Prop where
  S : CompScope X scope N (none :: cap)
  hd : N[0]? = some x
  par : scope.names.lookup x = some .local
  co : scope.isCoroutine = false
  gen : scope.isGenerator = false
  nocell : ∀ y ∈ scope.names, y.2 ≠ .cell
abbrev lamEnv (X : Cx) (scope : Scope) (qual : Str) (L f c : Addr) : Env := PySem.W.envX qual scope L f (.ref c) (closL X.env.cells scope.names [])
def cxL (X : Cx) (A : Around) (scope : Scope) (N : List Str) (qual : Str) (f c : Addr) (s : Shared) (H : Hp) : Cx :=
  { X with A := A.deeper (lamEnv X scope qual s.heap.objs.size f c), N := N, s₀ := s, H₀ := H, env := lamEnv X scope qual s.heap.objs.size f c, outer := X.stack, stack := lamEnv X scope qual s.heap.objs.size f c :: X.stack, ex := [], fn := fun _ => false, calm := true, pn := [], xe := fun _ _ => False }
section
variable {X : Cx} {A : Around} {scope : Scope} {x : Str} {N : List Str} {cap : List (Option Nat)} {pins : List (Addr × Obj)} {σ : St} {H : Hp} {s s1 : Shared} {qual : Str} {f c : Addr}
theorem lam_cells (S : LamScope X scope x N cap) (I : Inv X pins σ H s) {y : Str} {a : Addr} (h : (closL X.env.cells scope.names []).lookup y = some a) : X.env.cells.lookup y = some a := by
  rcases closL_of _ _ h with ⟨h1, h2⟩ | h1
  · obtain ⟨a', ea⟩ := I.ok.has y (S.S.free _ h1 rfl)
    rw [ea] at h2
    rw [h2]
    exact ea
  · cases h1
theorem inv_lam (S : LamScope X scope x N cap) (I : Inv X pins σ H s) (hfr : A.frames = some X.stack) (hh : A.handled = none) {v : V} {u : Value} (r : RelV v u) {h1 : Heap} {t : Nat} (hns : h1.Ns s.heap.objs.size fun y => [(x, u)].reverse.lookup y) (hk : ∀ b o, s.heap.get? b = some o → h1.get? b = some o) :
    Inv (cxL X A scope N qual f c s H) [] (some v :: capσ cap σ) H { s with heap := h1, toks := t } := by
  have noA : ∀ b : Addr, b ∉ (cxL X A scope N qual f c s H).ex := fun b z => absurd (show b ∈ ([] : List Addr) from z) (by simp)
  have od : ∀ {y : Str} {a : Addr}, X.env.cells.lookup y = some a → a < s.heap.objs.size := fun {y a} h => let ⟨_, q⟩ := I.cell y a h; q.lt
  refine ⟨⟨I.ok.mod, S.S.kind, rfl, rfl, Nat.le_refl _, fun y z a e1 e2 => I.ok.inj y z a (lam_cells S I e1) (lam_cells S I e2), fun y hy => ?_, fun y a e1 _ => ?_, fun _ => hh, Around.frames_deeper hfr, .inr ⟨rfl, rfl⟩, fun b z => absurd z (noA b), I.bs, Nat.le_trans I.ok.bsz I.sz, fun b _ _ => noA b, fun b z => absurd z (noA b), I.stack, I.stkFree⟩,
    rfl, I.bare, Un.kept hk, ⟨_, hns, fun j y w e1 e2 e3 => ?_⟩, fun y a e => ?_, I.hok.fresh (Nat.le_refl _), fun y a e => I.freeC y a (lam_cells S I e), fun p hp => absurd (show p ∈ ([] : List (Addr × Obj)) from hp) (by simp), I.hok.kept hk, ?_⟩
  · have hy' : scope.names.lookup y = some .cell ∨ scope.names.lookup y = some .free := hy
    rcases hy' with q | q
    · exact absurd rfl (S.nocell _ (PySem.mem_of_lookup q))
    · exact closL_has (cells := X.env.cells) scope.names [] (.inl (PySem.mem_of_lookup q))
  · cases (show false = true from e1)
  · cases j with
    | zero =>
      have ex : y = x := by
        have e1' : N[0]? = some y := e1
        rw [S.hd] at e1'
        exact (Option.some.inj e1').symm
      have ev : w = v := by
        have e2' : some (some v) = some (some w) := e2
        exact (Option.some.inj (Option.some.inj e2')).symm
      subst ex ev
      refine ⟨u, r, .inl ⟨S.par, ?_⟩⟩
      simp
    | succ j =>
      have e2' : (capσ cap σ)[j]? = some (some w) := by simpa using e2
      have e2'' : (cap.map fun o => match o with | some i => (σ[i]?).getD none | none => none)[j]? = some (some w) := e2'
      rw [List.getElem?_map] at e2''
      cases ec : cap[j]? with
      | none => rw [ec] at e2''; cases e2''
      | some oi =>
        rw [ec] at e2''
        cases oi with
        | none => cases e2''
        | some i =>
          have e4 : (σ[i]?).getD none = some w := Option.some.inj e2''
          have e5 : σ[i]? = some (some w) := by
            cases q : σ[i]? with
            | none => rw [q] at e4; cases e4
            | some w' => rw [q] at e4; exact congrArg some e4
          obtain ⟨q1, hf, _⟩ := S.S.cap (j + 1) i y (by simpa using ec) e1
          have hm := PySem.mem_of_lookup hf
          have q2 := S.S.free _ hm rfl
          obtain ⟨mo, _, hl⟩ := I.loc
          obtain ⟨u', ru, lk⟩ := hl i y w q1 e5 (.inr q2)
          refine ⟨u', ru, .inr ⟨.inr hf, ?_⟩⟩
          rcases lk with ⟨k1, _⟩ | ⟨_, a, ea, z⟩
          · have k1' : X.env.scope.names.lookup y = some .local := k1
            rcases q2 with q2 | q2 <;> rw [q2] at k1' <;> cases k1'
          · obtain ⟨a', ea2⟩ := closL_has (cells := X.env.cells) scope.names [] (.inl hm)
            have e6 := lam_cells S I ea2
            rw [ea] at e6
            have e7 : a = a' := Option.some.inj e6
            subst e7
            obtain ⟨oc, ho, hd⟩ := z
            exact ⟨a, ea2, oc, hk _ _ ho, hd⟩
  · obtain ⟨w, oc, ho, hd⟩ := I.cell y a (lam_cells S I e)
    exact ⟨w, oc, hk _ _ ho, hd⟩
  · have := S.S.len
    show (some v :: capσ cap σ).length = N.length
    rw [← this, List.length_cons, List.length_cons]
    unfold capσ
    rw [List.length_map]
theorem lam_call {name : Str} {params : Arguments} {body : Expr} {pm ctv : Value} {te : TE} {v : V} {u : Value} {Q : VK} (S : LamScope X scope x N cap) (I : Inv X pins σ H s) (hfr : A.frames = some X.stack) (hh : A.handled = none) (hdp : A.depth < recursionLimit)
    (ho : s.heap.get? f = some (PySem.W.kla_obj name qual params body scope (closL X.env.cells scope.names []) pm c ctv)) (hcd : s.heap.CodeRec (.ref c) qual)
    (hbind : bindArgs (PySem.W.kla_fn name qual params body scope (closL X.env.cells scope.names []) pm (.ref c) ctv) ⟨[u], []⟩ = pure [(x, u)]) (r : RelV v u) (he : PE (cxL X A scope N qual f c s H) body te) (hq : te (some v :: capσ cap σ) H Q) :
    wpAny (model X.prog X.w) A (call (.ref f) [u]) (fun w' s' => ∃ v' H', Inv X pins σ H' s' ∧ RelV v' w' ∧ Q v' H' ∧ Un (frs X.stack) [] H H' s.heap s'.heap ∧ s.heap.objs.size ≤ s'.heap.objs.size) (fun _ _ => False) s := by
  refine wpAny_call (PySem.W.kla_callFunE hdp ho rfl S.co S.gen rfl hcd ?_)
  rw [hbind]
  refine wpAny_pure (wpAny_newFunctionEnv S.nocell (fun y hy => ?_) (fun h1 hns hsb => ⟨I.nolimit.fresh _ hsb, ?_⟩) S.S.kind)
  · rw [List.mem_singleton] at hy
    subst hy
    exact S.par
  have hk : ∀ b o, s.heap.get? b = some o → h1.get? b = some o := fun b o e => hsb.extBut b o (Nat.ne_of_lt (Heap.lt_size e)) (Heap.get?_push_of_some _ e)
  have J := inv_lam (A := A) (qual := qual) (f := f) (c := c) (t := s.toks + 1) S I hfr hh r hns hk
  refine PySem.W.kla_codeExpr (wpAny_mono (he [] _ _ _ Q J hq) (fun w' s' hw => ?_) fun _ _ z => z.elim)
  obtain ⟨v', H', J', rv, qv⟩ := hw
  exact ⟨v', H', I.call' (ch := []) J'.os J'.base J'.hok J'.bare (fun b hb => by simp at hb), rv, qv, J'.base, J'.sz⟩
end
end L2
namespace L2
open PySem PySem.Spec PyProof.Rows
def CodeO (c : Addr) (qual : Str) : HO := .ext fun h => h.CodeRec (.ref c) qual
def lamQ : Str := "falling_groups.<locals>.<lambda>"
def TbAt (P : Addr) (H : Hp) : Prop := ∃ ps : Array Value, H P = some (.tbl ps) ∧ TriplesOk ps.toList ∧ ∀ pos c, codeAmong pos ps.toList = some c → ∃ c', c = .ref c' ∧ H c' = some (CodeO c' lamQ)
structure Grew (P : Addr) (H H' : Hp) : Prop where
  kp : ∀ b o, b ≠ P → H b = some o → H' b = some o
  tb : TbAt P H'
theorem among_app {pos : Pos} {a b : Int} {c : Value} (l : List Value) (h : TriplesOk l) {x : Value} (e : codeAmong pos (l ++ [rawInt a, rawInt b, c]) = some x) : codeAmong pos l = some x ∨ x = c := by
  fun_induction TriplesOk l with
  | case1 =>
    right
    unfold rawInt codeAmong at e
    simp only [List.nil_append] at e
    split at e
    · exact (Option.some.inj e).symm
    · simp [codeAmong] at e
  | case2 n t m u d rest ih =>
    simp only [List.cons_append, codeAmong] at e ⊢
    split at e
    · left
      rename_i hc
      rw [if_pos hc]
      exact e
    · rename_i hc
      rw [if_neg hc]
      exact ih h e
  | case3 => exact h.elim
def CodeK (K : PySem.W.Frag) (c P : Addr) : Prop :=
  ∃ o vs file tf flags tg inF text tt, K.lookup c = some o ∧ o.cls = .type "code" ∧ o.data = .fields vs ∧ vs[11]? = some (.ref P) ∧ vs.getD 11 .none = .ref P ∧ vs.getD 18 .none = .str file tf ∧ vs.getD 7 .none = .int flags tg ∧ vs.getD 9 .none = .bool inF ∧ vs.getD 10 .none = .int text tt ∧ c ≠ P
theorem CodeK.hd {K : PySem.W.Frag} {c P : Addr} {h : Heap} (x : CodeK K c P) (X : K.In h) : PySem.W.CodeHd h c P := by
  obtain ⟨o, vs, file, tf, flags, tg, inF, text, tt, e, r⟩ := x
  exact ⟨o, vs, file, tf, flags, tg, inF, text, tt, X _ _ e, r⟩
def BltM (mg : Str → Option Value) (base : Heap) : Prop := ∃ bm ob, mg "__builtins__" = some (.ref bm) ∧ bm ≠ builtinsNs ∧ base.get? bm = some ob ∧ ob.cls = .type "module" ∧ ob.dict = some builtinsNs ∧ ob.data = .plain
section
variable {X : Cx} {scope : Scope} {x : Str} {N : List Str} {cap : List (Option Nat)} {pins : List (Addr × Obj)} {σ : St} {H : Hp} {s : Shared} {c0 P : Addr} {params : Arguments} {body : Expr} {lpos : Pos}
theorem lam_make {E : Value → Shared → Prop} {Q : Value → Shared → Prop} (S : LamScope X scope x N cap) (I : Inv X pins σ H s) (hcode : X.env.code = .ref c0) (CK : CodeK X.K c0 P) (hB : BltM X.mg X.base) (TB : TbAt P H) (hq : X.env.qual ++ "<lambda>" = lamQ) (hdef : defaultsOf params X.env = ([], []))
    (h : ∀ (s' : Shared) (H' : Hp) (f c : Addr) (pm ctv : Value), Inv X pins σ H' s' → Grew P H H' → s'.heap.get? f = some (PySem.W.kla_obj "<lambda>" lamQ params body scope (closL X.env.cells scope.names []) pm c ctv) → H' f = none → s.heap.objs.size ≤ f → (∀ b, s.heap.objs.size ≤ b → s'.heap.objs.size ≤ b → H' b = none) → H' c = some (CodeO c lamQ) → Q (.ref f) s') :
    wpAny (model X.prog X.w) X.A (eval (.Lambda params body scope lpos) X.env) Q E s := by
  obtain ⟨ps, eP, ht, hor⟩ := TB
  have hP : s.heap.get? P = some (PySem.W.tabObj ps) := (show ObjOk X.prog X.w H s.heap P (.tbl ps) from I.hok P _ eP)
  have hg := I.mod.glob.keeps I.bk
  have nbP : ∀ b o, X.base.get? b = some o → b ≠ P := fun b o e z => by
    have := (I.bs b o e).2
    rw [z, eP] at this
    cases this
  have hgP : mainGlobals ≠ P := by
    obtain ⟨o, _, _, e, _⟩ := I.mod.glob
    exact nbP _ o e
  have hb : s.heap.BuiltinsAt X.mg P := by
    obtain ⟨bm, ob, b1, b2, b3, b4, b5, b6⟩ := hB
    refine ⟨bm, ob, b1, b2, fun z => ?_, nbP _ ob b3, I.bk _ _ b3, b4, b5, b6⟩
    obtain ⟨o, es, ep, e, hd, _⟩ := I.mod.glob
    rw [← z, b3] at e
    cases e
    rw [b6] at hd
    cases hd
  have CH := CK.hd I.kIn
  refine PySem.W.kla_eval hdef ?_
  rw [hq]
  cases hor' : codeAmong lpos ps.toList with
  | none =>
    have hnf := hor'
    refine PySem.W.kla_makeFunction (mg := X.mg) (comp_clos S.S I) I.ok.glob hg hcode CH hP ht hnf hgP hb fun c' ctv h' tk hx hge hlt hrec htb => ?_
    have hc0 : H c' = none := I.hok.fresh hge
    have nPc : P ≠ c' := ne_of_none eP hc0
    have szP : P < s.heap.objs.size := Heap.lt_size hP
    generalize hob : PySem.W.kla_obj "<lambda>" lamQ params body scope (closL X.env.cells scope.names []) ((X.mg "__name__").getD .none) c' ctv = ob
    have k2 : ∀ b o, b ≠ P → s.heap.get? b = some o → (h'.push ob).get? b = some o := fun b o hbp e => Heap.get?_push_of_some _ (hx b o hbp e)
    have nN : ∀ {b : Addr}, H b = none → b ≠ P := fun {b} n z => by rw [z, eP] at n; cases n
    have at2 : ∀ {b : Addr}, b ≠ P → b ≠ c' → (upd (upd H P (.tbl (ps ++ #[rawInt lpos.line, rawInt lpos.col, .ref c']))) c' (CodeO c' lamQ)) b = H b := fun {b} h1 h2 => by rw [upd_ne h2, upd_ne h1]
    have eP2 : (upd (upd H P (.tbl (ps ++ #[rawInt lpos.line, rawInt lpos.col, .ref c']))) c' (CodeO c' lamQ)) P = some (.tbl (ps ++ #[rawInt lpos.line, rawInt lpos.col, .ref c'])) := by rw [upd_ne nPc, upd_same]
    have ec2 : (upd (upd H P (.tbl (ps ++ #[rawInt lpos.line, rawInt lpos.col, .ref c']))) c' (CodeO c' lamQ)) c' = some (CodeO c' lamQ) := upd_same
    have fresh2 : ∀ b, s.heap.objs.size ≤ b → (h'.push ob).objs.size ≤ b → (upd (upd H P (.tbl (ps ++ #[rawInt lpos.line, rawInt lpos.col, .ref c']))) c' (CodeO c' lamQ)) b = none := fun b h1 h2 => by
      rw [Heap.size_push] at h2
      rw [at2 (Nat.ne_of_gt (Nat.lt_of_lt_of_le szP h1)) (Nat.ne_of_gt (Nat.lt_of_lt_of_le hlt (Nat.le_of_succ_le h2)))]
      exact I.hok.fresh h1
    have ff : (upd (upd H P (.tbl (ps ++ #[rawInt lpos.line, rawInt lpos.col, .ref c']))) c' (CodeO c' lamQ)) h'.objs.size = none := by
      have h1 : s.heap.objs.size ≤ h'.objs.size := Nat.le_trans hge (Nat.le_of_lt hlt)
      rw [at2 (Nat.ne_of_gt (Nat.lt_of_lt_of_le szP h1)) (Nat.ne_of_gt hlt)]
      exact I.hok.fresh h1
    generalize upd (upd H P (.tbl (ps ++ #[rawInt lpos.line, rawInt lpos.col, .ref c']))) c' (CodeO c' lamQ) = H2 at *
    have un : Un X.fs [] H H2 s.heap (h'.push ob) := by
      refine ⟨fun b o e n _ _ => k2 b o (nN n) e, fun b o e n _ _ => ⟨o.slots, k2 b o (nN n) e⟩, fun b o e n _ => ?_, fun b o e _ => ?_, fun b xs e => ?_, fun b o u e => ?_, fun b qs e => ?_⟩
      · rw [at2 (nN n) (Nat.ne_of_lt (Nat.lt_of_lt_of_le (Heap.lt_size e) hge))]
        exact n
      · by_cases hbp : b = P
        · subst hbp
          exact ⟨_, Heap.get?_push_of_some _ htb⟩
        · exact ⟨o, k2 b o hbp e⟩
      · rw [at2 (ne_of e eP (by intro z; cases z)) (ne_of_none e hc0)]
        exact e
      · rw [at2 (ne_of e eP (by intro z; cases z)) (ne_of_none e hc0)]
        exact e
      · by_cases hbp : b = P
        · subst hbp
          rw [eP] at e
          cases e
          exact ⟨_, eP2⟩
        · refine ⟨#[], ?_⟩
          rw [at2 hbp (ne_of_none e hc0), e]
          simp
    have hok2 : HOk X.prog X.w H2 (h'.push ob) := fun b u e => by
      by_cases hbp : b = P
      · subst hbp
        rw [eP2] at e
        cases e
        exact (show (h'.push ob).get? b = some _ from Heap.get?_push_of_some _ htb)
      · by_cases hbc : b = c'
        · subst hbc
          rw [ec2] at e
          cases e
          obtain ⟨cc, oc, vs, t, e1, e2, e3, e4⟩ := hrec
          cases e1
          refine (show ObjOk X.prog X.w H2 (h'.push ob) b (CodeO b lamQ) from ⟨⟨b, oc, vs, t, rfl, Heap.get?_push_of_some _ e2, e3, e4⟩, ⟨oc, Heap.get?_push_of_some _ e2⟩, fun h1 h2 q k => ?_⟩)
          obtain ⟨c3, o3, vs3, t3, z1, z2, z3, z4⟩ := q
          cases z1
          exact ⟨b, o3, vs3, t3, rfl, k _ z2, z3, z4⟩
        · rw [at2 hbp hbc] at e
          have nown : ∀ d y, H d = some (.own y) → d ≠ P ∧ d ≠ c' := fun d y r => ⟨ne_of r eP (by intro z; cases z), ne_of_none r hc0⟩
          refine (I.hok b u e).stay (fun d v hd r => k2 d v ?_ r) (fun d r => by rw [at2 (nown d b r).1 (nown d b r).2]; exact r) fun d xs r => by rw [at2 (ne_of r eP (by intro z; cases z)) (ne_of_none r hc0)]; exact r
          rcases hd with rfl | hd
          · exact hbp
          · exact (nown d b hd).1
    subst hob
    refine h _ H2 h'.objs.size c' _ ctv (I.un (t' := tk) un hok2) ⟨fun b o hbp e => by rw [at2 hbp (ne_of_none e hc0)]; exact e, _, eP2, ?_, fun pos d ed => ?_⟩ (Heap.get?_push_size _ rfl) ff (Nat.le_trans hge (Nat.le_of_lt hlt)) fresh2 ec2
    · have := TriplesOk_snoc lpos.line lpos.col (.ref c') ps.toList ht
      simpa using this
    · have ed' : codeAmong pos (ps.toList ++ [rawInt lpos.line, rawInt lpos.col, .ref c']) = some d := by simpa using ed
      rcases among_app ps.toList ht ed' with z | z
      · obtain ⟨d', rfl, ed2⟩ := hor pos d z
        exact ⟨d', rfl, by rw [at2 (ne_of ed2 eP (by intro z; cases z)) (ne_of_none ed2 hc0)]; exact ed2⟩
      · exact ⟨c', z, ec2⟩
  | some cv =>
    have hf := hor'
    obtain ⟨c', rfl, ec'⟩ := hor lpos cv hf
    refine PySem.W.kla_makeFunctionHit (mg := X.mg) (comp_clos S.S I) I.ok.glob hg hcode CH hP ht hf hb fun ctv h' tk hk hsz => ?_
    have k2 : ∀ b o, s.heap.get? b = some o → (h'.push (PySem.W.kla_obj "<lambda>" lamQ params body scope (closL X.env.cells scope.names []) ((X.mg "__name__").getD .none) c' ctv)).get? b = some o := fun b o e => Heap.get?_push_of_some _ (hk b o e)
    exact h _ H h'.objs.size c' _ ctv (I.kept (t' := tk) k2) ⟨fun b o _ e => e, ps, eP, ht, hor⟩ (Heap.get?_push_size _ rfl) (I.hok.fresh hsz) hsz (fun b h1 _ => I.hok.fresh h1) ec'
end
end L2
namespace L2
open PySem PySem.Spec PyProof.Rows
theorem ints_are : ∀ {ns : List Int} {us : List Value}, Vals (ns.map V.int) us → IntsAre us ns
  | [], _, .nil => .nil
  | n :: ns, _, .cons h t => by
    obtain ⟨tk, rfl⟩ := h
    exact .cons n tk (ints_are t)
theorem vals_are : ∀ {us : List Value} {ns : List Int}, IntsAre us ns → Vals (ns.map V.int) us
  | _, _, .nil => .nil
  | _, _, .cons n t h => .cons ⟨t, rfl⟩ (vals_are h)
theorem rows_num {ns : List Int} {key : Int → Int} {keys : Array Value} {us : List Value} {out : Array Value} (hu : IntsAre us ns) (hk : IntsAre keys.toList (ns.map key)) (hl : keys.size = us.length) (h : Stb.Rows keys us out) :
    ∃ ms : List Int, IntsAre out.toList ms ∧ ms.Perm ns ∧ ms.Pairwise fun a b => key a < key b ∨ (key a = key b ∧ a < b) := by
  obtain ⟨xs, hp, hup, rfl⟩ := h
  have pl : xs.toList.Perm (keys.toList.zip us) := by
    rw [← ksk_zip]
    exact Array.perm_iff_toList_perm.mp hp
  have mem : ∀ p ∈ keys.toList.zip us, p.2 ∈ us ∧ numOf p.1 = key (numOf p.2) := fun p hp => by
    obtain ⟨i, hi, rfl⟩ := List.mem_iff_getElem.mp hp
    have l1 : i < keys.toList.length := by
      rw [List.length_zip] at hi
      omega
    have l2 : i < us.length := by
      rw [List.length_zip] at hi
      omega
    rw [List.getElem_zip]
    refine ⟨List.getElem_mem l2, ?_⟩
    have e1 : (keys.toList.map numOf)[i]? = (ns.map key)[i]? := by rw [hk.nums]
    have e2 : (us.map numOf)[i]? = ns[i]? := by rw [hu.nums]
    rw [List.getElem?_map, List.getElem?_eq_getElem l1, List.getElem?_map] at e1
    rw [List.getElem?_map, List.getElem?_eq_getElem l2] at e2
    rw [← e2] at e1
    exact Option.some.inj e1
  have memx : ∀ p ∈ xs.toList, p.2 ∈ us ∧ numOf p.1 = key (numOf p.2) := fun p hp => mem p (pl.mem_iff.mp hp)
  refine ⟨xs.toList.map fun p => numOf p.2, ?_, ?_, ?_⟩
  · have e : (xs.map (·.2)).toList = xs.toList.map (·.2) := by simp
    rw [e]
    have := intsAre_map (xs.toList.map (·.2)) fun v hv => by
      obtain ⟨p, hp', rfl⟩ := List.mem_map.mp hv
      exact hu.all _ (memx p hp').1
    rw [List.map_map] at this
    exact this
  · have h1 := pl.map (fun p : Keyed => numOf p.2)
    have e2 : (keys.toList.zip us).map (fun p : Keyed => numOf p.2) = ns := by
      have e3 : (keys.toList.zip us).map (fun p : Keyed => numOf p.2) = ((keys.toList.zip us).map Prod.snd).map numOf := by rw [List.map_map]; rfl
      rw [e3, List.map_snd_zip (by have e := Array.length_toList (xs := keys); omega), hu.nums]
    rw [e2] at h1
    exact h1
  · rw [List.pairwise_iff_getElem]
    intro i j hi hj hij
    have hi' : i < xs.size := by simpa using hi
    have hj' : j < xs.size := by simpa using hj
    have q := hup i j hij hj'
    have ki := (memx xs[i] (by simp)).2
    have kj := (memx xs[j] (by simp)).2
    unfold Stb.Lx Stb.T at q
    rw [K_eq hi', K_eq hj', Array.getElem?_eq_getElem hi', Array.getElem?_eq_getElem hj'] at q
    simp only [List.getElem_map, Array.getElem_toList]
    rw [← ki, ← kj]
    exact q
section
variable {X : Cx} {scope : Scope} {x : Str} {N : List Str} {cap : List (Option Nat)} {pins : List (Addr × Obj)} {σ : St} {H : Hp} {s1 : Shared} {f : Addr} {fo : Obj}
def Held (X : Cx) (pins : List (Addr × Obj)) (σ : St) (H : Hp) (n0 : Nat) (f : Addr) (fo : Obj) (s : Shared) : Prop := Inv X pins σ H s ∧ n0 ≤ s.heap.objs.size ∧ s.heap.get? f = some fo
theorem held_sj (I : Inv X pins σ H s1) (hf : f < s1.heap.objs.size) : Stb.SJ (Held X pins σ H s1.heap.objs.size f fo) s1.heap.objs.size where
  sz := fun s h => h.2.1
  push := fun s c xs n h => ⟨h.1.kept (t' := s.toks) fun b o e => Heap.get?_push_of_some _ e, Nat.le_trans h.2.1 (by rw [Heap.size_push]; exact Nat.le_succ _), Heap.get?_push_of_some _ h.2.2⟩
  upd := fun s b g h hb => by
    obtain ⟨q1, q2, q3, q4, q5, q6⟩ := I.fpOk hb (I.hok.fresh hb)
    have sb := Heap.SameBut.update s.heap b (Obj.mapSeq g)
    exact ⟨h.1.turned (t' := s.toks) (it := b) (fun d o hd e => (sb.2 d hd).trans e) q1 q2 q4 q5 q6, by rw [Heap.size_update]; exact h.2.1, (sb.2 f (Nat.ne_of_lt (Nat.lt_of_lt_of_le hf hb))).trans h.2.2⟩
def tSortKey (K : PySem.W.Frag) (P : Addr) (tl : TE) (cap : List (Option Nat)) (te : TE) : TE := fun σ H Q => tl σ H fun v H1 => ∃ (a : Addr) (ns : List Int) (key : Int → Int), v = .ref a ∧ SqL K H1 a (ns.map V.int) ∧ ns.length < 64 ∧ ns.Pairwise (· < ·) ∧ TbAt P H1 ∧ a ≠ P ∧
  (∀ H2, Grew P H1 H2 → ∀ n ∈ ns, te (some (.int n) :: capσ cap σ) H2 fun v H3 => v = .int (key n) ∧ H3 = H2) ∧
  ∀ (H2 : Hp) (l : Addr) (ms : List Int), Grew P H1 H2 → H1 l = none → H2 l = none → ms.Perm ns → (ms.Pairwise fun a b => key a < key b ∨ (key a = key b ∧ a < b)) → Q (.ref l) (upd H2 l (.lst (ms.map V.int)))
theorem b_sorted : bootBuiltins "sorted" = some (.builtin "sorted") := by decide +kernel
theorem Grew.seq {K : PySem.W.Frag} {P : Addr} {H H' : Hp} {a : Addr} {xs : List V} (g : Grew P H H') (ha : a ≠ P) (h : SqL K H a xs) : SqL K H' a xs := by
  rcases h with (h | ⟨o, h⟩) | h
  · exact .inl (.inl (g.kp _ _ ha h))
  · exact .inl (.inr ⟨o, g.kp _ _ ha h⟩)
  · exact .inr h
theorem pe_sortkey {l : Expr} {tl te : TE} {c0 P : Addr} {params : Arguments} {body : Expr} {lpos p pos kpos : Pos} (hl : PE X l tl) (S : LamScope X scope x N cap) (hc : X.calm = true) (hdp : X.A.depth < recursionLimit) (hcode : X.env.code = .ref c0) (CK : CodeK X.K c0 P) (hB : BltM X.mg X.base)
    (hg : Gl X "sorted") (hm : X.mg "sorted" = none) (hbind : ∀ (cl : List (Str × Addr)) (pm : Value) (c : Addr) (ctv u : Value), bindArgs (PySem.W.kla_fn "<lambda>" lamQ params body scope cl pm (.ref c) ctv) ⟨[u], []⟩ = pure [(x, u)])
    (he : ∀ A f c s H, PE (cxL X A scope N lamQ f c s H) body te) (hq : X.env.qual ++ "<lambda>" = lamQ) (hdef : defaultsOf params X.env = ([], []) := by rfl) (s1 : starEach [l] X.env = [(false, eval l X.env)] := by rfl) :
    PE X (.Call (.Name "sorted" p) [l] [⟨some "key", .Lambda params body scope lpos, kpos⟩] pos) (tSortKey X.K P tl cap te) := by
  intro pins s σ H Q I h
  refine wpAny_Call_Name_kw (ld_blt I hg hm b_sorted ?_ (by decide) (by decide))
  refine callWith_kw ?_ (by rw [s1]; rfl) (by rw [s1]; rfl)
  rw [s1]
  refine Calls.spliced_cons (thn (hl pins s σ H _ I h) fun u s3 ⟨v, H1, I1, r1, a, ns, key, ev, hS, h64, hup, TB, haP, hte, q⟩ => Calls.spliced_nil ?_)
  subst ev
  cases r1
  show wpAny _ _ (evalAll ((do let v ← eval (.Lambda params body scope lpos) X.env; standAt pos; pure v) :: [])) _ _ s3
  refine wpAny_evalAll_cons (wpAny_bind (lam_make S I1 hcode CK hB TB hq hdef fun s4 H4 lf c pm ctv I4 G ef ff hsf hfr ec => wpAny_bind (wpAny_standAt (wpAny_pure (wpAny_evalAll_nil ?_)))))
  show wpAny _ _ (call (.builtin "sorted") [.ref a] [(Str.ofString "key", .ref lf)]) _ _ s4
  obtain ⟨its, rv, pl, hz⟩ := I4.list (G.seq haP hS)
  have hi := ints_are rv
  have lu := hi.length
  have lf4 : lf < s4.heap.objs.size := Heap.lt_size ef
  have rising : ∀ (i j : Nat) (y z : Value), i < j → its[i]? = some y → its[j]? = some z → numOf y < numOf z := fun i j y z hij ey ez => by
    have e1 : ns[i]? = some (numOf y) := by rw [← hi.nums, List.getElem?_map, ey]; rfl
    have e2 : ns[j]? = some (numOf z) := by rw [← hi.nums, List.getElem?_map, ez]; rfl
    obtain ⟨l1, q1⟩ := List.getElem?_eq_some_iff.mp e1
    obtain ⟨l2, q2⟩ := List.getElem?_eq_some_iff.mp e2
    have := List.pairwise_iff_getElem.mp hup i j l1 l2 hij
    rw [q1, q2] at this
    exact this
  refine Stb.sortedK (kz := ns.map key) (J := Held X pins σ H4 s4.heap.objs.size lf _) (held_sj I4 lf4) ⟨I4, Nat.le_refl _, ef⟩ pl.isList (by rw [List.length_map, lu]) (by omega) rising (fun i v k ev ek s5 hJ => ?_) fun s5 D keys out cc hD hJ eD hk hkl hR => ?_
  · have en : ns[i]? = some (numOf v) := by rw [← hi.nums, List.getElem?_map, ev]; rfl
    have ek' : k = key (numOf v) := by
      rw [List.getElem?_map, en] at ek
      exact (Option.some.inj ek).symm
    subst ek'
    obtain ⟨n, t, rfl⟩ := hi.all v (List.mem_of_getElem? ev)
    have hcr : s5.heap.CodeRec (.ref c) lamQ := (show ObjOk X.prog X.w H4 s5.heap c (CodeO c lamQ) from hJ.1.hok c _ ec).1
    refine wpAny_mono (lam_call (A := X.A.in1.in1) (v := .int n) (u := .int n t) S hJ.1 I.ok.frames (I.ok.hd hc) hdp hJ.2.2 hcr (hbind _ _ _ _ _) ⟨t, rfl⟩ (he _ _ _ _ _) (hte H4 G n (List.mem_of_getElem? en))) (fun w' s6 hw => ?_) fun _ _ z => z
    obtain ⟨v', H6, I6, rv', ⟨e1, e2⟩, un, sz6⟩ := hw
    subst e1 e2
    have nst : ∀ b, s3.heap.objs.size ≤ b → b ∉ frs X.stack := fun b hb z => absurd (stk_lt I1 z) (Nat.not_lt.mpr hb)
    have s34 : s3.heap.objs.size ≤ s4.heap.objs.size := Nat.le_of_lt (Nat.lt_of_le_of_lt hsf lf4)
    have kp : ∀ b o, s3.heap.objs.size ≤ b → H6 b = none → s5.heap.get? b = some o → s6.heap.get? b = some o := fun b o hb hn e => un.keep b o e hn (nst b hb) (by simp)
    refine ⟨rv', ⟨I6, ?_, kp lf _ hsf ff hJ.2.2⟩, fun b o hb e => kp b o (Nat.le_trans s34 hb) (I4.hok.fresh hb) e⟩
    exact Nat.le_trans hJ.2.1 sz6
  · obtain ⟨ms, m1, m2, m3⟩ := rows_num hi hk (by omega) hR
    have hn : H4 D = none := I4.hok.fresh hD
    have fp := I4.fpOk hD hn
    have h10 : H1 D = none := I1.hok.fresh (Nat.le_trans (Nat.le_of_lt (Nat.lt_of_le_of_lt hsf lf4)) hD)
    have vm := vals_are m1
    have lz : (ms.map V.int).length ≤ sizeLine := by
      rw [List.length_map, m2.length_eq, sizeLine_eq]
      omega
    refine ⟨.ref D, _, hJ.1.adopt (a := D) (o := .lst (ms.map V.int)) fp ?_ ?_, rfl, q H4 D ms G h10 hn m2 m3⟩
    · exact Nat.le_trans I4.sz hD
    · exact (show ObjOk X.prog X.w _ s5.heap D (.lst (ms.map V.int)) from ⟨lz, out.toList, cc, vm, by simpa using eD⟩)
end
end L2
namespace L2
open PySem PySem.Spec PyProof.Rows
def nxo : HO → Bool
  | .ext _ => false
  | _ => true
def NX (H : Hp) (p : Addr) : Prop := ∀ φ, H p ≠ some (.ext φ)
theorem nx {H : Hp} {p : Addr} {o : HO} (h : H p = some o) (n : nxo o = true := by rfl) : NX H p := fun φ z => by
  rw [h] at z
  cases z
  cases n
theorem nx0 {H : Hp} {p : Addr} (h : H p = none) : NX H p := fun φ z => by
  rw [h] at z
  cases z
theorem nx_upd {H : Hp} {p q : Addr} {o : HO} (h : NX H p) (n : nxo o = true := by rfl) : NX (upd H q o) p := fun φ z => by
  by_cases e : p = q
  · subst e
    rw [upd_same] at z
    cases z
    cases n
  · rw [upd_ne e] at z
    exact h φ z
abbrev Ev (H H' : Hp) (b : Addr) (o : HO) : Prop := match o with
  | .tbl _ => (∃ ps, H' b = some (.tbl ps)) ∧ (TbAt b H → TbAt b H')
  | o => H' b = some o
theorem ev_eq {H H' : Hp} {b : Addr} {o : HO} (e : H' b = some o) (t : TbAt b H → TbAt b H') : Ev H H' b o := by
  cases o <;> first | exact e | exact ⟨⟨_, e⟩, t⟩
theorem ev_some {H H' : Hp} {b : Addr} {o : HO} (e : Ev H H' b o) : ∃ o', H' b = some o' := by
  cases o <;> first | exact ⟨_, e⟩ | exact ⟨_, e.1.choose_spec⟩
theorem ev_trans {H H1 H2 : Hp} {b : Addr} {o : HO} (e : Ev H H1 b o) (k : ∀ o, H1 b = some o → Ev H1 H2 b o) : Ev H H2 b o := by
  cases o with
  | tbl ps =>
    obtain ⟨⟨ps1, e1⟩, t1⟩ := e
    obtain ⟨e2, t2⟩ := (show Ev H1 H2 b (.tbl ps1) from k _ e1)
    exact ⟨e2, fun h => t2 (t1 h)⟩
  | _ => exact k _ e
theorem tb_upd {b p : Addr} {H : Hp} {o : HO} (h : TbAt b H) (n : b ≠ p) (hx : NX H p) : TbAt b (upd H p o) := by
  obtain ⟨ps, e, t, hor⟩ := h
  refine ⟨ps, by rw [upd_ne n]; exact e, t, fun pos d ed => ?_⟩
  obtain ⟨c, rfl, z2⟩ := hor pos d ed
  have hc : c ≠ p := fun e => by
    subst e
    exact hx _ z2
  exact ⟨c, rfl, by rw [upd_ne hc]; exact z2⟩
def Same (H H' : Hp) : Prop := ∀ b o, H b = some o → Ev H H' b o
theorem Same.refl (H : Hp) : Same H H := fun _ _ h => ev_eq h fun t => t
theorem Same.trans {H H1 H2 : Hp} (a : Same H H1) (b : Same H1 H2) : Same H H2 := fun c o h => ev_trans (a c o h) fun o' e => b c o' e
theorem Same.free {H H' : Hp} (e : Same H H') {l : Addr} (h : H' l = Option.none) : H l = Option.none := by
  cases q : H l with
  | none => rfl
  | some o =>
    obtain ⟨o', e'⟩ := ev_some (e l o q)
    rw [e'] at h
    cases h
theorem Same.seq {K : PySem.W.Frag} {H H' : Hp} {a : Addr} {xs : List V} (e : Same H H') (h : SqL K H a xs) : SqL K H' a xs := by
  rcases h with (h | ⟨o, h⟩) | h
  · exact .inl (.inl (e _ _ h))
  · exact .inl (.inr ⟨o, e _ _ h⟩)
  · exact .inr h
theorem Same.tb {H H' : Hp} (s : Same H H') {b : Addr} (h : TbAt b H) : TbAt b H' := by
  obtain ⟨ps, e, r⟩ := id h
  exact (show Ev H H' b (.tbl ps) from s b _ e).2 h
theorem Grew.same {P : Addr} {H H' : Hp} (g : Grew P H H') (TB : TbAt P H) : Same H H' := fun b o e => by
  obtain ⟨ps, eP, ht, hor⟩ := TB
  by_cases h : b = P
  · subst h
    rw [eP] at e
    cases e
    obtain ⟨qs, e1, _⟩ := id g.tb
    exact ⟨⟨qs, e1⟩, fun _ => g.tb⟩
  · refine ev_eq (g.kp b o h e) fun t => ?_
    obtain ⟨qs, e1, t1, h1⟩ := t
    refine ⟨qs, g.kp b _ h e1, t1, fun pos d ed => ?_⟩
    obtain ⟨c, rfl, z⟩ := h1 pos d ed
    exact ⟨c, rfl, g.kp c _ (ne_of z eP (by intro z; cases z)) z⟩
end L2
namespace L2
open PySem PySem.Spec PyProof.Rows
def spLawT (K : PySem.W.Frag) (tP : Addr) : Sp := fun vs H Q _ => ∃ (a : Addr) (ns : List Int), vs = [.ref a] ∧ SqL K H a (ns.map V.int) ∧ ns.length ≤ 63 ∧ TbAt tP H ∧ ∀ H', Q (.bl true) H'
theorem lawT_call {P : Program} {w : World} {K : PySem.W.Frag} {mg mb : Str → Option Value} {k : Nat} {fa a tP c0 : Addr} {fd : FuncData} {x : Str} {s₁ : Shared} {vs : List Value} {ns : List Int}
    (KX : K.In s₁.heap) (hns : s₁.heap.Ns mainGlobals mg) (hb : s₁.heap.Ns builtinsNs mb) (hbb : ∀ x : Str, x ≠ "__name__" → mb x = bootBuiltins x) (hlim : s₁.heap.NoLimit) (hg : s₁.gens = #[])
    (ha : s₁.heap.get? a = some { cls := .type "list", data := .seq vs.toArray }) (hi : IntsAre vs ns) (hl : ns.length ≤ 63) (hr : Room k callerA) (hT : s₁.heap.get? tP = some (PySem.W.tabObj #[])) (CK : CodeK K c0 tP) (kT : K.lookup tP = none) (hBM : BltM mg s₁.heap)
    (F : ∀ base : Heap, K.In base → base.Ns mainGlobals mg → BltM mg base → FnOk P w K mg base CX0 k fa fd [x] (spLawT K tP)) (hbind : ∀ (s : Shared) (u : Value), BindsTo s fd ⟨[u], []⟩ [(x, u)]) :
    codeAny (model P w) callerA (.call (.ref fa) ⟨[.ref a], []⟩) (fun r s' => r = .ok (.ret (.bool true)) ∧ OldK s₁.heap s'.heap ∧ s'.os = s₁.os ∧ AllBare s'.gens) s₁ := by
  have rv := vals_ints hi
  have lenV := hi.length
  have hlz : ns.length ≤ sizeLine := Nat.le_trans hl (by decide)
  have nTa : tP ≠ a := fun e => by
    rw [e, ha] at hT
    have := Option.some.inj hT
    injection this with z
    cases z
  have core : ∀ H : Hp, SqL K H a (ns.map V.int) → HOk P w H s₁.heap → H tP = some (.tbl #[]) → (∀ b, b ≠ tP → H b = none ∨ (b = a ∧ ∃ o xs, H b = some (.frz o (.lst xs)))) → (H a ≠ none → K.lookup a = none) →
      codeAny (model P w) callerA (.call (.ref fa) ⟨[.ref a], []⟩) (fun r s' => r = .ok (.ret (.bool true)) ∧ OldK s₁.heap s'.heap ∧ s'.os = s₁.os ∧ AllBare s'.gens) s₁ := by
    intro H hS hok eT hO hK
    have base_of : ∀ {b : Addr} {o : Obj}, s₁.heap.get? b = some o → H b = none → (hidT s₁.heap H).get? b = some o := fun e n => hidT_get e n
    have noT : ∀ {b : Addr} {o : Obj}, s₁.heap.get? b = some o → o.cls ≠ .none → (∀ us n, o.data ≠ .seq us n) → H b = none := fun {b o} e hc hd => by
      by_cases hbT : b = tP
      · rw [hbT, hT] at e
        cases e
        exact absurd rfl hc
      · rcases hO b hbT with z | ⟨z, _⟩
        · exact z
        · rw [z, ha] at e
          cases e
          exact absurd rfl (hd _ _)
    have noA : ∀ {b : Addr} {o : Obj} {es : Array DictEntry} {ep : Nat}, s₁.heap.get? b = some o → o.data = .dict es ep → H b = none := fun {b o es ep} e d => by
      by_cases hbT : b = tP
      · rw [hbT, hT] at e
        cases e
        cases d
      · rcases hO b hbT with z | ⟨z, _⟩
        · exact z
        · rw [z, ha] at e
          cases e
          cases d
    have nsK : ∀ {b : Addr} {m : Str → Option Value}, s₁.heap.Ns b m → (hidT s₁.heap H).Ns b m := fun {b m} ⟨o, es, ep, e, d, r⟩ => ⟨o, es, ep, base_of e (noA e d), d, r⟩
    have hKb : K.In (hidT s₁.heap H) := fun b o e => base_of (KX b o e) (by
      by_cases hbT : b = tP
      · rw [hbT, kT] at e
        cases e
      · rcases hO b hbT with z | ⟨z, o', xs, z2⟩
        · exact z
        · subst z
          rw [hK (by rw [z2]; simp)] at e
          cases e)
    have hM : Mod K mg (hidT s₁.heap H) := ⟨hKb, nsK hns, ⟨mb, nsK hb, hbb⟩, let ⟨mc, h1, h2⟩ := hlim; ⟨mc, nsK h1, h2⟩⟩
    have hBb : BltM mg (hidT s₁.heap H) := by
      obtain ⟨bm, ob, b1, b2, b3, b4, b5, b6⟩ := hBM
      exact ⟨bm, ob, b1, b2, base_of b3 (noT b3 (by rw [b4]; intro z; cases z) (fun us n z => by rw [b6] at z; cases z)), b4, b5, b6⟩
    have e0 : Env0 P w K mg (hidT s₁.heap H) callerA [] s₁ H := ⟨rfl, hM, fun b o e => of_hidT e, Nat.le_of_eq (hidT_size _ _), trivial, fun b hb => absurd (show b ∈ ([] : List Addr) from hb) (by simp), hok, .of_eq hg⟩
    have hsp : spLawT K tP [.ref a] H (fun v _ => v = .bl true) fun _ _ _ => False := ⟨a, ns, rfl, hS, hl, ⟨#[], eT, by trivial, fun pos c e => by cases e⟩, fun _ => rfl⟩
    refine codeAny_mono ((F _ hKb (nsK hns) hBb).run callerA [] s₁ H ⟨[.ref a], []⟩ [.ref a] [.ref a] _ _ hr e0 (hbind s₁ (.ref a)) (.cons rfl .nil) hsp) fun r s' h => ?_
    cases r with
    | error e => exact (show False from h).elim
    | ok fl =>
      cases fl with
      | next => exact False.elim h
      | brk => exact False.elim h
      | cont => exact False.elim h
      | ret u =>
        obtain ⟨v, H', os, bare, un, hok', r', q⟩ := h
        have q' : v = .bl true := q
        subst q'
        obtain rfl : u = Value.bool true := r'
        have kp : ∀ b o, b ≠ tP → s₁.heap.get? b = some o → s'.heap.get? b = some o := fun b o hbT e => by
          rcases hO b hbT with z | ⟨z, o', xs, z2⟩
          · exact un.keep b o e z (fun z => absurd (show b ∈ ([] : List Addr) from z) (by simp)) (by simp)
          · have z3 := un.frzs b o' _ z2
            obtain ⟨e1, _⟩ := hok b _ z2
            obtain ⟨e2, _⟩ := hok' b _ z3
            rw [e] at e1
            cases e1
            exact e2
        obtain ⟨more, eM⟩ := un.tbls tP #[] eT
        have tM : s'.heap.get? tP = some (PySem.W.tabObj (#[] ++ more)) := (show ObjOk P w H' s'.heap tP (.tbl (#[] ++ more)) from hok' tP _ eM)
        refine ⟨rfl, ⟨fun b o e => ?_, fun b o e => ?_⟩, os, bare⟩
        · by_cases hbT : b = tP
          · subst hbT
            rw [hT] at e
            cases e
            obtain ⟨oc, us, _, _, _, _, _, _, _, c1, c2, c3, c4, _⟩ := CK
            exact .inr (.inl ⟨⟨c0, oc, us, KX _ _ c1, c2, c3, c4⟩, rfl, #[], more, rfl, tM⟩)
          · exact .inl (kp b o hbT e)
        · by_cases hbT : b = tP
          · subst hbT
            exact ⟨_, tM⟩
          · exact ⟨o, kp b o hbT e⟩
  cases hk : K.lookup a with
  | some o =>
    have e := KX a o hk
    rw [ha] at e
    cases e
    refine core (fun b => if b = tP then some (.tbl #[]) else none) (.inr ⟨_, vs.toArray, _, hk, rfl, rfl, rfl, by rw [List.size_toArray, lenV]; exact hlz, by simpa using rv⟩) (fun b u z => ?_) (if_pos rfl) (fun b hbT => .inl (if_neg hbT)) fun z => absurd (if_neg nTa.symm) z
    by_cases hbT : b = tP
    · have z' := (if_pos hbT).symm.trans z
      cases z'
      subst hbT
      exact (show s₁.heap.get? b = some _ from hT)
    · have z' := (if_neg hbT).symm.trans z
      cases z'
  | none =>
    refine core (fun b => if b = tP then some (.tbl #[]) else if b = a then some (.frz { cls := .type "list", data := .seq vs.toArray } (.lst (ns.map V.int))) else none) (.inl (.inr ⟨{ cls := .type "list", data := .seq vs.toArray }, by show (if a = tP then _ else _) = _; rw [if_neg nTa.symm, if_pos rfl]⟩)) (fun b u z => ?_) (if_pos rfl) (fun b hbT => ?_) fun _ => hk
    · by_cases hbT : b = tP
      · have z' := (if_pos hbT).symm.trans z
        cases z'
        subst hbT
        exact (show s₁.heap.get? b = some _ from hT)
      · have z1 := (if_neg hbT).symm.trans z
        by_cases hb2 : b = a
        · have z' := (if_pos hb2).symm.trans z1
          cases z'
          subst hb2
          exact ⟨ha, by rw [List.length_map]; exact hlz, vs, _, rv, ha⟩
        · have z' := (if_neg hb2).symm.trans z1
          cases z'
    · by_cases hb2 : b = a
      · exact .inr ⟨hb2, _, _, by show (if b = tP then _ else _) = _; rw [if_neg hbT, if_pos hb2]⟩
      · exact .inl (by show (if b = tP then _ else _) = _; rw [if_neg hbT, if_neg hb2])
theorem walkT_of {l : PySem.W.OpenLaw} {k : Nat} {q : Program} {loose : List Str} {XP : (Str → Option Value) → Heap → Prop} {YP : World → Heap → Prop} {d : DefRec} {K : Params → PySem.W.Frag} {ts : List Addr} {x : Str}
    (hn : l.most = some 63) (hdf : d.params.defaults = []) (hr : Room k callerA) (hY : ∀ (w : World) (h : Heap), YP w h → (K w.params).In h) (hTs : ∀ (w : World) (h : Heap), YP w h → ∀ P ∈ ts, h.get? P = some (PySem.W.tabObj #[]))
    (F : ∀ (w : World) (mg : Str → Option Value) (fa : Addr) (h : Heap), (K w.params).In h → h.Ns mainGlobals mg → mg d.name = some (.ref fa) →
      ∃ (fd : FuncData) (tP c0 : Addr), tP ∈ ts ∧ CodeK (K w.params) c0 tP ∧ (K w.params).lookup tP = none ∧ (∀ (s : Shared) (u : Value), BindsTo s fd ⟨[u], []⟩ [(x, u)]) ∧
        ∀ base : Heap, (K w.params).In base → base.Ns mainGlobals mg → BltM mg base → FnOk l.prog w (K w.params) mg base CX0 k fa fd [x] (spLawT (K w.params) tP)) :
    PySem.W.WalkO q loose XP YP l.row.toRowW d [] (fun f vs => PySem.call f vs) := by
  refine Att.attach_call hn hdf fun w s₀ s₁ mg mb fa o pm cd doc a vs ns G Y ho hd hcd hmg hobj hints hlen hg => ?_
  have KX := hY w _ Y
  obtain ⟨fd, tP, c0, hm, CK, kT, hb, hF⟩ := F w mg fa _ KX G.T.g hmg
  obtain ⟨bm, ob, b1, b2, b3, b4, b5, b6⟩ := G.T.bmain
  exact lawT_call KX G.T.g G.T.b G.T.builtins G.T.nolimit hg hobj hints hlen hr (hTs w _ Y tP hm) CK kT ⟨bm, ob, b1, b2, b3, b4, b5, b6⟩ hF hb
end L2
namespace L2
open PySem PySem.Spec PyProof.Rows
theorem nd1 (x : Str) : ([x] : List Str).Nodup := by simp
def But (x : Addr) (H H' : Hp) : Prop := ∀ b o, b ≠ x → H b = some o → Ev H H' b o
theorem But.trans {x : Addr} {H H1 H2 : Hp} (a : But x H H1) (b : But x H1 H2) : But x H H2 := fun c o n h => ev_trans (a c o n h) fun o' e => b c o' n e
theorem But.same {x : Addr} {H H1 H2 : Hp} (a : But x H H1) (b : Same H1 H2) : But x H H2 := fun c o n h => ev_trans (a c o n h) fun o' e => b c o' e
theorem But.of_same {x : Addr} {H H1 : Hp} (b : Same H H1) : But x H H1 := fun c o _ h => b c o h
theorem But.refl {x : Addr} {H : Hp} : But x H H := fun b o _ h => Same.refl H b o h
theorem but_self {x : Addr} {H : Hp} {o : HO} (hx : NX H x := by first | exact nx upd_same | exact nx (by assumption) | exact nx0 (by assumption) | exact nx_upd (nx upd_same) rfl | exact nx_upd (nx (by assumption)) rfl) : But x H (upd H x o) := fun b u n e => ev_eq (by rw [upd_ne n]; exact e) fun t => tb_upd t n hx
theorem same_new {H : Hp} {p : Addr} {o : HO} (hp : H p = none) : Same H (upd H p o) := fun b u e => ev_eq (by rw [upd_ne (ne_of_none e hp)]; exact e) fun t => tb_upd t (ne_of_none e hp) (nx0 hp)
theorem same_fresh {H H' : Hp} {p : Addr} {o : HO} (hp : H p = none) (s : Same H H') (hx : NX H' p := by first | exact nx (by assumption) | exact nx upd_same | exact nx_upd (nx (by assumption)) rfl | exact nx_upd (nx upd_same) rfl | exact nx_upd (nx0 (by assumption)) rfl | exact nx_upd (nx_upd (nx (by assumption)) rfl) rfl) : Same H (upd H' p o) := fun b u e =>
  ev_trans (s b u e) fun u' e' => ev_eq (by rw [upd_ne (ne_of_none e hp)]; exact e') fun t => tb_upd t (ne_of_none e hp) hx
theorem made_same' {H : Hp} {x dx C : Addr} (hx : H x = none) (nd : H dx = none) : Same H (upd (upd H dx (.own x)) x (.ins C dx [])) := fun b u e => by
  have n1 := ne_of_none e hx
  have n2 := ne_of_none e nd
  exact ev_eq (by rw [upd_ne n1, upd_ne n2]; exact e) fun t => tb_upd (tb_upd t n2 (nx0 nd)) n1 (nx_upd (nx0 hx) rfl)
theorem made_same {H H' : Hp} {x dx C : Addr} (hx : H x = none) (nd : H dx = none) (k : But x (upd (upd H dx (.own x)) x (.ins C dx [])) H') : Same H H' := fun b o e => ev_trans (made_same' (C := C) hx nd b o e) fun o' e' => k b o' (ne_of_none e hx) e'
theorem made_none {H : Hp} {x dx C y : Addr} (h : (upd (upd H dx (.own x)) x (.ins C dx [])) y = none) : H y = none := by
  by_cases e1 : y = x
  · subst e1
    rw [upd_same] at h
    cases h
  · rw [upd_ne e1] at h
    by_cases e2 : y = dx
    · subst e2
      rw [upd_same] at h
      cases h
    · rw [upd_ne e2] at h
      exact h
theorem made_some {H : Hp} {x dx C y : Addr} {o : HO} (nx : H x = none) (nd : H dx = none) (h : H y = some o) : (upd (upd H dx (.own x)) x (.ins C dx [])) y = some o := by
  rw [upd_ne (ne_of_none h nx), upd_ne (ne_of_none h nd)]
  exact h
theorem putF_len {f : Str} {v : V} : ∀ {fs : List (Str × V)} {n : Nat}, fs.length ≤ n → (putF f v fs).length ≤ n + 1
  | [], n, _ => by
    show 1 ≤ n + 1
    omega
  | (g, x) :: r, n, h => by
    show (if g = f then (g, v) :: r else (g, x) :: putF f v r).length ≤ n + 1
    have h' : r.length + 1 ≤ n := h
    split
    · show r.length + 1 ≤ n + 1
      omega
    · show (putF f v r).length + 1 ≤ n + 1
      have := putF_len (f := f) (v := v) (fs := r) (n := n - 1) (by omega)
      omega
theorem few {fs : List (Str × V)} (h : fs.length ≤ 20) : fs.length < 1000 := by omega
theorem ref_at {ns : List Addr} {i : Nat} {x : V} (h : (ns.map V.ref)[i]? = some x) : ∃ z, ns[i]? = some z ∧ x = V.ref z := by
  rw [List.getElem?_map] at h
  cases e : ns[i]? with
  | none => rw [e] at h; cases h
  | some z => rw [e] at h; exact ⟨z, rfl, (Option.some.inj h).symm⟩
theorem map_at {α : Type} {g : α → V} {ns : List α} {i : Nat} {x : V} (h : (ns.map g)[i]? = some x) : ∃ z, ns[i]? = some z ∧ x = g z := by
  rw [List.getElem?_map] at h
  cases e : ns[i]? with
  | none => rw [e] at h; cases h
  | some z => rw [e] at h; exact ⟨z, rfl, (Option.some.inj h).symm⟩
theorem at_lt {α : Type} {xs : List α} {i : Nat} {x : α} (h : xs[i]? = some x) : i < xs.length := (List.getElem?_eq_some_iff.mp h).1
theorem at_of {α : Type} {xs : List α} {i : Nat} (h : i < xs.length) : ∃ x, xs[i]? = some x := ⟨xs[i], by simp [h]⟩
theorem take_at {α : Type} {rs : List α} {i : Nat} {r : α} (h : rs[i]? = some r) : rs.take (i + 1) = rs.take i ++ [r] := by
  rw [List.take_add_one, h]
  rfl
inductive P2 {α β : Type} (R : α → β → Prop) : List α → List β → Prop
  | nil : P2 R [] []
  | cons {a : α} {b : β} {as : List α} {bs : List β} (h : R a b) (t : P2 R as bs) : P2 R (a :: as) (b :: bs)
section
variable {α β : Type} {R R' : α → β → Prop} {as as' : List α} {bs bs' : List β}
theorem P2.of (hl : as.length = bs.length) (h : ∀ (i : Nat) (a : α) (b : β), as[i]? = some a → bs[i]? = some b → R a b) : P2 R as bs := by
  induction as generalizing bs with
  | nil =>
    cases bs with
    | nil => exact .nil
    | cons b bs => cases hl
  | cons a as ih =>
    cases bs with
    | nil => cases hl
    | cons b bs => exact .cons (h 0 a b rfl rfl) (ih (by simpa using hl) fun i x y e1 e2 => h (i + 1) x y (by simpa using e1) (by simpa using e2))
theorem P2.len (h : P2 R as bs) : as.length = bs.length := by
  induction h with
  | nil => rfl
  | cons r t ih => simp [ih]
theorem P2.get (h : P2 R as bs) {i : Nat} {a : α} {b : β} (e1 : as[i]? = some a) (e2 : bs[i]? = some b) : R a b := by
  induction h generalizing i with
  | nil => simp at e1
  | cons r t ih =>
    cases i with
    | zero =>
      simp at e1 e2
      subst e1 e2
      exact r
    | succ i => exact ih (by simpa using e1) (by simpa using e2)
theorem P2.at (h : P2 R as bs) {i : Nat} {a : α} (e1 : as[i]? = some a) : ∃ b, bs[i]? = some b ∧ R a b := by
  obtain ⟨b, e2⟩ := at_of (xs := bs) (i := i) (by rw [← h.len]; exact at_lt e1)
  exact ⟨b, e2, h.get e1 e2⟩
theorem P2.mono (h : P2 R as bs) (k : ∀ a b, R a b → R' a b) : P2 R' as bs := by
  induction h with
  | nil => exact .nil
  | cons r t ih => exact .cons (k _ _ r) ih
theorem P2.append (h : P2 R as bs) (h' : P2 R as' bs') : P2 R (as ++ as') (bs ++ bs') := by
  induction h with
  | nil => exact h'
  | cons r t ih => exact .cons r ih
theorem P2.snoc (h : P2 R as bs) {a : α} {b : β} (r : R a b) : P2 R (as ++ [a]) (bs ++ [b]) := h.append (.cons r .nil)
theorem P2.take (h : P2 R as bs) (k : Nat) : P2 R (as.take k) (bs.take k) := by
  induction h generalizing k with
  | nil => simpa using P2.nil
  | cons r t ih =>
    cases k with
    | zero => exact .nil
    | succ k => exact .cons r (ih k)
theorem P2.drop (h : P2 R as bs) (k : Nat) : P2 R (as.drop k) (bs.drop k) := by
  induction h generalizing k with
  | nil => simpa using P2.nil
  | cons r t ih =>
    cases k with
    | zero => exact .cons r t
    | succ k => exact ih k
theorem P2.reverse (h : P2 R as bs) : P2 R as.reverse bs.reverse := by
  induction h with
  | nil => exact .nil
  | cons r t ih =>
    rw [List.reverse_cons, List.reverse_cons]
    exact ih.append (.cons r .nil)
end
theorem rep1 (n : Nat) (v : V) : (List.replicate n [v]).flatten = List.replicate n v := by
  induction n with
  | zero => rfl
  | succ n ih => rw [List.replicate_succ, List.flatten_cons, ih, List.replicate_succ]; rfl
theorem rep_map (n : Nat) (z : Int) : List.replicate n (V.int z) = (List.replicate n z).map V.int := by simp
theorem nn_int (k : Int) : (!decide (V.int k = V.non)) = true := by simp
theorem nn_non : (!decide (V.non = V.non)) = false := by simp
def oV : Option Int → V
  | none => .non
  | some z => .int z
structure TxtB (mg : Str → Option Value) : Prop where
  range : mg "range" = none
  len : mg "len" = none
  min : mg "min" = none
  max : mg "max" = none
  isi : mg "isinstance" = none
  bool : mg "bool" = none
  int : mg "int" = none
  list : mg "list" = none
  sum : mg "sum" = none
  enum : mg "enumerate" = none
  any : mg "any" = none
  all : mg "all" = none
  rev : mg "reversed" = none
  zip : mg "zip" = none
  abs : mg "abs" = none
  sorted : mg "sorted" = none
  tuple : mg "tuple" = none
  str : mg "str" = none
structure FunD (K : PySem.W.Frag) (x qual : Str) (st : Stmt) (f : Addr) (fd : FuncData) : Prop where
  ex : ∃ (oc : Value) (od : Option Addr) (dV kV doc pm : Value) (an : Option Addr) (cdv ct : Value) (osl : Array (Option Value)),
    fd = PySem.W.fnOf x qual (defArgs st) (defBody st) (defScope st) dV kV doc pm an cdv ct ∧ K.lookup f = some ⟨oc, od, .func fd, osl⟩ ∧ PySem.W.codeIn K cdv qual = true
  kp : PySem.W.keepIn K (.ref f) = true
theorem FunD.ok {P : Program} {w : World} {K : PySem.W.Frag} {mg : Str → Option Value} {base : Heap} {x qual : Str} {st : Stmt} {f : Addr} {fd : FuncData} {N ps : List Str} {k : Nat} {sp : Sp} (F : FunD K x qual st f fd) (S : FnScope N ps (defScope st)) (len : ∀ vs H Q E, sp vs H Q E → vs.length = ps.length)
    (hbody : ∀ (cdv : Value) (A : Around) (outer : List Env) (s : Shared) (H : Hp) (vs : List V) (Q : VK) (E : XK), Room k (A.deeper (PyProof.Rows.envOfC qual (defScope st) s.heap.objs.size f cdv)) → sp vs H Q E →
      ∃ t, PSs (cxOf CX0 P w K mg base N qual (defScope st) f cdv A outer s H E).nox (defBody st) t ∧ t { nx := fun _ H' => Q .non H', rt := Q } (start N vs) H) : FnOk P w K mg base CX0 (k + 1) f fd ps sp := by
  obtain ⟨oc, od, dV, kV, doc, pm, an, cdv, ct, osl, rfl, lk, hcd⟩ := F.ex
  refine fn_of lk hcd S len fun A outer s H vs Q E hr hsp => ?_
  obtain ⟨t, h, q⟩ := hbody cdv A outer s H vs Q E hr hsp
  exact ⟨t, h.nox, q⟩
theorem FunD.okC {P : Program} {w : World} {K : PySem.W.Frag} {mg : Str → Option Value} {base : Heap} {x qual : Str} {st : Stmt} {f : Addr} {fd : FuncData} {N ps : List Str} {k : Nat} {sp : Sp} (F : FunD K x qual st f fd) (S : FnScope N ps (defScope st)) (len : ∀ vs H Q E, sp vs H Q E → vs.length = ps.length)
    (hbody : ∀ (A : Around) (outer : List Env) (s : Shared) (H : Hp) (vs : List V) (Q : VK) (E : XK), Room k (A.deeper (PyProof.Rows.envOfC qual (defScope st) s.heap.objs.size f fd.code)) → sp vs H Q E →
      ∃ t, PSs (cxOf CX0 P w K mg base N qual (defScope st) f fd.code A outer s H E).nox (defBody st) t ∧ t { nx := fun _ H' => Q .non H', rt := Q } (start N vs) H) : FnOk P w K mg base CX0 (k + 1) f fd ps sp := by
  obtain ⟨oc, od, dV, kV, doc, pm, an, cdv, ct, osl, rfl, lk, hcd⟩ := F.ex
  refine fn_of lk hcd S len fun A outer s H vs Q E hr hsp => ?_
  obtain ⟨t, h, q⟩ := hbody A outer s H vs Q E hr hsp
  exact ⟨t, h.nox, q⟩
theorem fund_mk {K : PySem.W.Frag} {x qual : Str} {st : Stmt} {f : Addr} {oc : Value} {od an : Option Addr} {osl : Array (Option Value)} {dV kV doc pm cdv ct : Value} (l : K.lookup f = some ⟨oc, od, .func (PySem.W.fnOf x qual (defArgs st) (defBody st) (defScope st) dV kV doc pm an cdv ct), osl⟩)
    (c : PySem.W.codeIn K cdv qual = true) (k : PySem.W.keepIn K (.ref f) = true) : FunD K x qual st f (PySem.W.fnOf x qual (defArgs st) (defBody st) (defScope st) dV kV doc pm an cdv ct) := ⟨⟨oc, od, dV, kV, doc, pm, an, cdv, ct, osl, rfl, l, c⟩, k⟩
structure Dn (K : PySem.W.Frag) (mg : Str → Option Value) (x : Str) (st : Stmt) (ps : List Str) (f : Addr) (fd : FuncData) : Prop where
  F : FunD K x x st f fd
  b : Binds K fd ps []
  m : mg x = some (.ref f)
structure Isi (K : PySem.W.Frag) (C : Addr) : Prop where
  ha : PySem.W.findIn K (.ref C) "__class__" = some (some (.builtin "object.__class__"))
  hn : PySem.W.specialIn K (.builtin "object.__class__") "__get__" = some (some (.builtin "getset_descriptor.__get__"))
  ht : PySem.W.takesIn K (.builtin "object.__class__") = some true
  hm : PySem.W.mroIn K C (.type "object") = some true
theorem kit_pair {K : PySem.W.Frag} {A B : Addr} {b : Bool} (mA : PySem.W.mroIn K A (.ref B) = some b) (ob : PySem.W.mroIn K B (.type "object") = some true) (ty : PySem.W.typeIn K (.ref B) = some (.type "type")) (ne : A ≠ B) : PySem.W.kitOne K (.ref A) (.ref B) = some b := by
  have e : (Value.ref A == Value.ref B) = false := beq_eq_false_iff_ne.mpr fun z => ne (by injection z)
  obtain ⟨cd, a, _⟩ := Option.bind_eq_some_iff.mp ob
  unfold PySem.W.kitOne PySem.W.kitCls PySem.W.subIn
  rw [e, if_neg Bool.false_ne_true]
  show (if ((PySem.W.clsIn K B).isSome && PySem.W.typeIn K (.ref B) == some (.type "type")) = true then PySem.W.mroIn K A (.ref B) else none) = some b
  rw [a, ty, mA, if_pos (by simp)]
theorem cls_ne {K : PySem.W.Frag} {A B : Addr} (h : PySem.W.mroIn K A (.ref B) = some false) (hA : PySem.W.mroIn K A (.ref A) = some true) : A ≠ B := fun e => by
  rw [← e, hA] at h
  cases h
structure ClsT (K : PySem.W.Frag) (mg : Str → Option Value) (nm : Str) (C : Addr) : Prop where
  cl : Cls K C
  m : mg nm = some (.ref C)
  isi : Isi K C
  self : PySem.W.mroIn K C (.ref C) = some true
  ty : PySem.W.typeIn K (.ref C) = some (.type "type")
  makes : PySem.W.makesIn K C = true
  kp : PySem.W.keepIn K (.ref C) = true
structure MthT (K : PySem.W.Frag) (C : Addr) (m qual : Str) (st : Stmt) (ps : List Str) (f : Addr) (fd : FuncData) : Prop where
  at_ : PySem.W.findIn K (.ref C) m = some (some (.ref f))
  fn : PySem.W.isFn K (.ref f) = true
  F : FunD K m qual st f fd
  b : Binds K fd ps []
theorem MthT.mk' {K : PySem.W.Frag} {mg : Str → Option Value} {C : Addr} {nm qual : Str} {st : Stmt} {ps : List Str} {f : Addr} {fd : FuncData} (h : MthT K C "__init__" qual st ps f fd) (c : ClsT K mg nm C) : Mk K C f := ⟨c.makes, h.at_, h.fn, c.kp⟩
end L2
namespace War
structure Row where
  kd : Int
  pr : Int
  mn : Int
  ex : Option Int
structure Row.Ok (r : Row) : Prop where
  pr0 : 0 ≤ r.pr
  pr1 : r.pr ≤ 1000000000000
  mn0 : 0 ≤ r.mn
  mn1 : r.mn ≤ 60
  ex0 : ∀ z, r.ex = some z → 0 ≤ z ∧ z ≤ 1000000000000
def prc (m : Bool) (r : Row) : Int := if m = true then r.ex.getD r.pr else r.pr
def own (rs : List Row) : List Int := (rs.zipIdx.map fun p => List.replicate p.1.mn.toNat (p.2 : Int)).flatten
def prs (m : Bool) (rs : List Row) : List Int := (rs.map fun r => List.replicate r.mn.toNat (prc m r)).flatten
def cost (m : Bool) (rs : List Row) : Int := (rs.map fun r => prc m r * r.mn).sum
theorem own_snoc (rs : List Row) (r : Row) : own (rs ++ [r]) = own rs ++ List.replicate r.mn.toNat (rs.length : Int) := by
  unfold own
  rw [List.zipIdx_append, List.map_append, List.flatten_append]
  simp
theorem prs_snoc (m : Bool) (rs : List Row) (r : Row) : prs m (rs ++ [r]) = prs m rs ++ List.replicate r.mn.toNat (prc m r) := by
  unfold prs
  rw [List.map_append, List.flatten_append]
  simp
theorem own_len' : ∀ (rs : List Row) (k : Nat), (∀ r ∈ rs, r.Ok) → ((rs.zipIdx k).map fun p => List.replicate p.1.mn.toNat (p.2 : Int)).flatten.length ≤ 60 * rs.length
  | [], _, _ => by simp
  | r :: rs, k, h => by
    have h1 := own_len' rs (k + 1) fun x hx => h x (List.mem_cons_of_mem _ hx)
    have h2 := (h r List.mem_cons_self).mn1
    rw [List.zipIdx_cons, List.map_cons, List.flatten_cons, List.length_append, List.length_replicate, List.length_cons]
    show r.mn.toNat + _ ≤ _
    omega
theorem own_len (rs : List Row) (h : ∀ r ∈ rs, r.Ok) : (own rs).length ≤ 60 * rs.length := own_len' rs 0 h
theorem prs_len (m : Bool) : ∀ (rs : List Row), (∀ r ∈ rs, r.Ok) → (prs m rs).length ≤ 60 * rs.length
  | [], _ => by simp [prs]
  | r :: rs, h => by
    have h1 := prs_len m rs fun x hx => h x (List.mem_cons_of_mem _ hx)
    have h2 := (h r List.mem_cons_self).mn1
    unfold prs at h1 ⊢
    rw [List.map_cons, List.flatten_cons, List.length_append, List.length_replicate, List.length_cons]
    omega
theorem prc_ok {m : Bool} {r : Row} (h : r.Ok) : 0 ≤ prc m r ∧ prc m r ≤ 1000000000000 := by
  unfold prc
  split
  · cases e : r.ex with
    | none => exact ⟨h.pr0, h.pr1⟩
    | some z => exact h.ex0 z e
  · exact ⟨h.pr0, h.pr1⟩
theorem take_snoc {α : Type} {rs : List α} {i : Nat} {r : α} (h : rs[i]? = some r) : rs.take (i + 1) = rs.take i ++ [r] := by
  rw [List.take_add_one, h]
  rfl
end War
namespace Kin
def Good (ps : List (Option Nat)) : Prop := ∀ (i k : Nat), ps[i]? = some (some k) → k < i
def anc (ps : List (Option Nat)) : Nat → Nat → List Nat
  | 0, _ => []
  | f + 1, i => i :: (match ps[i]? with | some (some k) => anc ps f k | _ => [])
def up (ps : List (Option Nat)) (i : Nat) : List Nat := anc ps (i + 1) i
theorem anc_fuel {ps : List (Option Nat)} (g : Good ps) : ∀ (f f' i : Nat), i < f → i < f' → anc ps f i = anc ps f' i := by
  intro f
  induction f with
  | zero => intro f' i h; omega
  | succ f ih =>
    intro f' i h h'
    cases f' with
    | zero => omega
    | succ f' =>
      show i :: _ = i :: _
      congr 1
      cases e : ps[i]? with
      | none => rfl
      | some o =>
        cases o with
        | none => rfl
        | some k =>
          have hk := g i k e
          exact ih f' k (by omega) (by omega)
theorem up_some {ps : List (Option Nat)} (g : Good ps) {i k : Nat} (e : ps[i]? = some (some k)) : up ps i = i :: up ps k := by
  have hk := g i k e
  show i :: _ = _
  rw [e]
  show i :: anc ps i k = i :: up ps k
  rw [anc_fuel g i (k + 1) k hk (by omega)]
  rfl
theorem up_none {ps : List (Option Nat)} {i : Nat} (e : ps[i]? = some none) : up ps i = [i] := by
  show i :: _ = _
  rw [e]
def rest (ps : List (Option Nat)) : Option Nat → List Nat
  | none => []
  | some k => up ps k
def left : Option Nat → Nat
  | none => 0
  | some k => k + 1
theorem up_eq {ps : List (Option Nat)} (g : Good ps) {i : Nat} {o : Option Nat} (e : ps[i]? = some o) : up ps i = i :: rest ps o := by
  cases o with
  | none => exact up_none e
  | some k => exact up_some g e
theorem good_nil : Good [] := fun i k e => by simp at e
theorem good_snoc {ps : List (Option Nat)} (g : Good ps) {o : Option Nat} (h : ∀ k, o = some k → k < ps.length) : Good (ps ++ [o]) := by
  intro i k e
  rcases Nat.lt_trichotomy i ps.length with hi | hi | hi
  · rw [List.getElem?_append_left hi] at e
    exact g i k e
  · subst hi
    rw [List.getElem?_append_right (Nat.le_refl _)] at e
    simp at e
    exact h k e
  · rw [List.getElem?_append_right (by omega)] at e
    have : (i - ps.length) ≠ 0 := by omega
    cases q : i - ps.length with
    | zero => omega
    | succ n => rw [q] at e; simp at e
end Kin
namespace Kin
end Kin
namespace Deal
def pre (ws : List Int) (k : Nat) : Int := (ws.take k).sum
def part (c : Int) (ws : List Int) (j : Nat) : Int := c * pre ws (j + 1) / ws.sum - c * pre ws j / ws.sum
def dl (c : Int) (ws : List Int) : List Int := if ws.sum = 0 then ws.map (fun _ => 0) else (List.range ws.length).map (part c ws)
theorem pre_zero (ws : List Int) : pre ws 0 = 0 := by simp [pre]
theorem pre_len (ws : List Int) : pre ws ws.length = ws.sum := by simp [pre]
theorem pre_succ {ws : List Int} {i : Nat} {w : Int} (h : ws[i]? = some w) : pre ws (i + 1) = pre ws i + w := by
  unfold pre
  rw [List.take_add_one, h]
  simp
theorem dl_len (c : Int) (ws : List Int) : (dl c ws).length = ws.length := by
  unfold dl
  split <;> simp
theorem dl_at {c : Int} {ws : List Int} (h : ¬ ws.sum = 0) {j : Nat} (hj : j < ws.length) : (dl c ws)[j]? = some (part c ws j) := by
  unfold dl
  rw [if_neg h]
  simp [hj]
theorem dl_at0 {c : Int} {ws : List Int} (h : ws.sum = 0) {j : Nat} (hj : j < ws.length) : (dl c ws)[j]? = some 0 := by
  unfold dl
  rw [if_pos h]
  simp [hj]
def Nn (ws : List Int) : Prop := ∀ w ∈ ws, 0 ≤ w
theorem sum_nn : ∀ {ws : List Int}, Nn ws → 0 ≤ ws.sum
  | [], _ => by simp
  | w :: ws, h => by
    have := sum_nn (ws := ws) fun x hx => h x (List.mem_cons_of_mem _ hx)
    have h1 := h w List.mem_cons_self
    simp
    omega
theorem pre_nn {ws : List Int} (h : Nn ws) (k : Nat) : 0 ≤ pre ws k := sum_nn fun w hw => h w (List.mem_of_mem_take hw)
theorem pre_le {ws : List Int} (h : Nn ws) (k : Nat) : pre ws k ≤ ws.sum := by
  have e : ws.sum = pre ws k + (ws.drop k).sum := by
    unfold pre
    rw [← List.sum_append, List.take_append_drop]
  have := sum_nn (ws := ws.drop k) fun w hw => h w (List.mem_of_mem_drop hw)
  omega
theorem part_even {c s A w : Int} (hs : 0 < s) (hc : 0 ≤ c) (hcs : c ≤ s) (hw : 0 ≤ w) : 0 ≤ c * (A + w) / s - c * A / s ∧ c * (A + w) / s - c * A / s ≤ w ∧
    (c * (A + w) / s - c * A / s) * s - c * w < s ∧ -s < (c * (A + w) / s - c * A / s) * s - c * w := by
  have e : c * (A + w) = c * A + c * w := Int.mul_add ..
  rw [e]
  generalize hx : c * A = x
  have h1 : 0 ≤ c * w := Int.mul_nonneg hc hw
  have h2 : c * w ≤ w * s := by
    rw [Int.mul_comm w s]
    exact Int.mul_le_mul_of_nonneg_right hcs hw
  generalize hy : c * w = y at h1 h2
  have m1 : x / s ≤ (x + y) / s := Int.ediv_le_ediv hs (by omega)
  have m2 : (x + y) / s ≤ (x + w * s) / s := Int.ediv_le_ediv hs (by omega)
  rw [Int.add_mul_ediv_right _ _ (by omega)] at m2
  have d1 := Int.emod_add_mul_ediv x s
  have d2 := Int.emod_add_mul_ediv (x + y) s
  have r1 := Int.emod_nonneg x (show s ≠ 0 by omega)
  have r2 := Int.emod_lt_of_pos x hs
  have r3 := Int.emod_nonneg (x + y) (show s ≠ 0 by omega)
  have r4 := Int.emod_lt_of_pos (x + y) hs
  have e3 : ((x + y) / s - x / s) * s = s * ((x + y) / s) - s * (x / s) := by
    rw [Int.sub_mul, Int.mul_comm, Int.mul_comm (x / s)]
  rw [e3]
  refine ⟨by omega, by omega, by omega, by omega⟩
end Deal
namespace Vs
open Kin Deal
structure Mks where
  kind : Option Nat
  needs : Int
  most : Option Int
  member : Bool
  once : Bool
  lone : Bool
inductive Srt
  | off (a : Int)
  | share (s : Int) (b : Bool)
  | cheap (n : Int)
  | bund (n p : Int)
  | carr
structure Vch where
  so : Srt
  ms : Mks
structure Stnd where
  ow : List Nat
  pr : List Int
  cg : Int
  mkd : List Bool
def kHit (ps : List (Option Nat)) (kind : Option Nat) (kd : Nat) : Bool := match kind with
  | none => true
  | some k => decide (k ∈ up ps kd)
def hits (ps : List (Option Nat)) (kds : List Nat) (kind : Option Nat) (lone : Bool) (mkd : List Bool) (l : Nat) : Bool :=
  kHit ps kind (kds.getD l 0) && (!lone || !(mkd.getD l false))
def abt (ps : List (Option Nat)) (kds : List Nat) (kind : Option Nat) (lone : Bool) (S : Stnd) : List Nat :=
  (List.range S.ow.length).filter fun i => hits ps kds kind lone S.mkd (S.ow.getD i 0)
theorem abt_lt {ps : List (Option Nat)} {kds : List Nat} {kind : Option Nat} {lone : Bool} {S : Stnd} {i : Nat} (h : i ∈ abt ps kds kind lone S) : i < S.ow.length := by
  have := (List.mem_filter.mp h).1
  simpa using this
theorem abt_nodup (ps : List (Option Nat)) (kds : List Nat) (kind : Option Nat) (lone : Bool) (S : Stnd) : (abt ps kds kind lone S).Nodup := List.Pairwise.filter _ List.nodup_range
theorem abt_len (ps : List (Option Nat)) (kds : List Nat) (kind : Option Nat) (lone : Bool) (S : Stnd) : (abt ps kds kind lone S).length ≤ S.ow.length := by
  have := List.length_filter_le (fun i => hits ps kds kind lone S.mkd (S.ow.getD i 0)) (List.range S.ow.length)
  simpa [abt] using this
def qs (pr : List Int) (is : List Nat) : List Int := is.map fun i => pr.getD i 0
theorem qs_len (pr : List Int) (is : List Nat) : (qs pr is).length = is.length := by simp [qs]
def spr (n : Nat) (is : List Nat) (vs : List Int) : List Int := (List.range n).map fun i => ((is.zip vs).lookup i).getD 0
theorem spr_len (n : Nat) (is : List Nat) (vs : List Int) : (spr n is vs).length = n := by simp [spr]
theorem spr_nil (n : Nat) (vs : List Int) : spr n [] vs = List.replicate n 0 := by
  unfold spr
  apply List.ext_getElem
  · simp
  · intro i h1 h2
    simp
theorem lookup_snoc {l : List (Nat × Int)} {i j : Nat} {v : Int} (h : ∀ p ∈ l, p.1 ≠ i) : (l ++ [(i, v)]).lookup j = if j = i then some v else l.lookup j := by
  induction l with
  | nil =>
    simp only [List.nil_append, List.lookup_cons, List.lookup_nil]
    by_cases e : j = i
    · subst e; simp
    · have : (j == i) = false := beq_eq_false_iff_ne.mpr e
      simp [this, e]
  | cons p l ih =>
    obtain ⟨k, w⟩ := p
    have ih' := ih fun q hq => h q (List.mem_cons_of_mem _ hq)
    have hk : k ≠ i := h (k, w) List.mem_cons_self
    simp only [List.cons_append, List.lookup_cons]
    by_cases e : j = k
    · subst e
      simp [hk]
    · have : (j == k) = false := beq_eq_false_iff_ne.mpr e
      simp only [this]
      exact ih'
theorem spr_set {n : Nat} {is : List Nat} {vs : List Int} (hn : is.Nodup) {k i : Nat} {v : Int} (h1 : is[k]? = some i) (h2 : vs[k]? = some v) (hi : i < n) :
    (spr n (is.take k) (vs.take k)).set i v = spr n (is.take (k + 1)) (vs.take (k + 1)) := by
  have e1 : is.take (k + 1) = is.take k ++ [i] := by rw [List.take_add_one, h1]; rfl
  have e2 : vs.take (k + 1) = vs.take k ++ [v] := by rw [List.take_add_one, h2]; rfl
  have hk1 : k < is.length := (List.getElem?_eq_some_iff.mp h1).1
  have hk2 : k < vs.length := (List.getElem?_eq_some_iff.mp h2).1
  have ez : (is.take (k + 1)).zip (vs.take (k + 1)) = (is.take k).zip (vs.take k) ++ [(i, v)] := by
    rw [e1, e2, List.zip_append (by simp; omega)]
    rfl
  have hne : ∀ p ∈ (is.take k).zip (vs.take k), p.1 ≠ i := fun p hp e => by
    have hm : p.1 ∈ is.take k := (List.of_mem_zip hp).1
    rw [e] at hm
    obtain ⟨j, hj, ej⟩ := List.getElem_of_mem hm
    rw [List.length_take] at hj
    rw [List.getElem_take] at ej
    have e3 : is[k] = i := by
      obtain ⟨_, q⟩ := List.getElem?_eq_some_iff.mp h1
      exact q
    exact List.pairwise_iff_getElem.mp hn j k (by omega) hk1 (by omega) (by rw [ej, e3])
  apply List.ext_getElem
  · simp [spr]
  · intro j h3 h4
    have hj : j < n := by simpa [spr] using h4
    rw [List.getElem_set]
    simp only [spr, List.getElem_map, List.getElem_range]
    rw [ez, lookup_snoc hne]
    by_cases e : i = j
    · subst e; simp
    · have : ¬ j = i := fun z => e z.symm
      simp [e, this]
theorem spr_full {n : Nat} {is : List Nat} {vs : List Int} {m : Nat} (h1 : is.length ≤ m) (h2 : vs.length ≤ m) : spr n (is.take m) (vs.take m) = spr n is vs := by
  rw [List.take_of_length_le h1, List.take_of_length_le h2]
def bef (q : List Int) (a b : Nat) : Prop := q.getD b 0 < q.getD a 0 ∨ (q.getD a 0 = q.getD b 0 ∧ a < b)
def Fall (q : List Int) (r : List Nat) : Prop := r.Perm (List.range q.length) ∧ r.Pairwise (bef q)
theorem bef_asym {q : List Int} {a b : Nat} (h : bef q a b) (h' : bef q b a) : False := by
  unfold bef at h h'
  omega
theorem pw_unique {R : Nat → Nat → Prop} (asym : ∀ a b, R a b → R b a → False) : ∀ {l l' : List Nat}, l.Perm l' → l.Pairwise R → l'.Pairwise R → l = l'
  | [], l', p, _, _ => (List.nil_perm.mp p).symm
  | a :: l, l', p, h, h' => by
    cases l' with
    | nil => exact absurd p.length_eq (by simp)
    | cons b l' =>
      have hab : a = b := by
        rcases Classical.em (a = b) with e | e
        · exact e
        · have ha : a ∈ b :: l' := p.mem_iff.mp List.mem_cons_self
          have hb : b ∈ a :: l := p.mem_iff.mpr List.mem_cons_self
          rcases List.mem_cons.mp ha with e1 | ha
          · exact absurd e1 e
          · rcases List.mem_cons.mp hb with e2 | hb
            · exact absurd e2.symm e
            · exact (asym a b ((List.pairwise_cons.mp h).1 b hb) ((List.pairwise_cons.mp h').1 a ha)).elim
      subst hab
      congr 1
      exact pw_unique asym (List.Perm.cons_inv p) (List.pairwise_cons.mp h).2 (List.pairwise_cons.mp h').2
theorem fall_unique {q : List Int} {r r' : List Nat} (h : Fall q r) (h' : Fall q r') : r = r' :=
  pw_unique (fun _ _ a b => bef_asym a b) (h.1.trans h'.1.symm) h.2 h'.2
def grp (n : Nat) (r : List Nat) : List (List Nat) := (List.range (r.length / n)).map fun g => (r.drop (g * n)).take n
end Vs
namespace Vs
open Kin Deal
def Le2 (xs ys : List Int) : Prop := xs.length = ys.length ∧ ∀ (j : Nat) (v w : Int), xs[j]? = some v → ys[j]? = some w → 0 ≤ v ∧ v ≤ w
theorem Le2.nil : Le2 [] [] := ⟨rfl, fun j v w e => by simp at e⟩
theorem Le2.self {xs : List Int} (h : Nn xs) : Le2 xs xs := ⟨rfl, fun j v w e1 e2 => by
  rw [e1] at e2
  cases e2
  exact ⟨h v (List.mem_of_getElem? e1), Int.le_refl _⟩⟩
theorem Le2.nn {xs ys : List Int} (h : Le2 xs ys) : Nn xs := fun v hv => by
  obtain ⟨j, hj, e⟩ := List.getElem_of_mem hv
  exact (h.2 j v (ys[j]'(by rw [← h.1]; exact hj)) (by simp [hj, e]) (by simp [show j < ys.length by rw [← h.1]; exact hj])).1
theorem Le2.trans {xs ys zs : List Int} (h : Le2 xs ys) (h' : Le2 ys zs) : Le2 xs zs := ⟨h.1.trans h'.1, fun j v w e1 e2 => by
  have hj : j < xs.length := (List.getElem?_eq_some_iff.mp e1).1
  have e3 : ys[j]? = some (ys[j]'(by rw [← h.1]; exact hj)) := by simp [show j < ys.length by rw [← h.1]; exact hj]
  have a := h.2 j v _ e1 e3
  have b := h'.2 j _ w e3 e2
  omega⟩
theorem Le2.append {xs ys xs' ys' : List Int} (h : Le2 xs ys) (h' : Le2 xs' ys') : Le2 (xs ++ xs') (ys ++ ys') := by
  refine ⟨by simp [h.1, h'.1], fun j v w e1 e2 => ?_⟩
  have hl := h.1
  rcases Nat.lt_or_ge j xs.length with hj | hj
  · rw [List.getElem?_append_left hj] at e1
    rw [List.getElem?_append_left (by omega)] at e2
    exact h.2 j v w e1 e2
  · rw [List.getElem?_append_right hj] at e1
    rw [List.getElem?_append_right (by omega), ← hl] at e2
    exact h'.2 _ v w e1 e2
theorem Le2.sum : ∀ {xs ys : List Int}, Le2 xs ys → 0 ≤ xs.sum ∧ xs.sum ≤ ys.sum
  | [], [], _ => by simp
  | [], _ :: _, h => by have := h.1; simp at this
  | _ :: _, [], h => by have := h.1; simp at this
  | x :: xs, y :: ys, h => by
    have h0 := h.2 0 x y rfl rfl
    have h1 : Le2 xs ys := ⟨by simpa using h.1, fun j v w e1 e2 => h.2 (j + 1) v w (by simpa using e1) (by simpa using e2)⟩
    have h2 := Le2.sum h1
    simp
    omega
theorem dl_le {c : Int} {ws : List Int} (hn : Nn ws) (h0 : 0 ≤ c) (h1 : c ≤ ws.sum) : Le2 (dl c ws) ws := by
  refine ⟨dl_len c ws, fun j v w e1 e2 => ?_⟩
  have hj : j < ws.length := (List.getElem?_eq_some_iff.mp e2).1
  have hw := hn w (List.mem_of_getElem? e2)
  by_cases hs : ws.sum = 0
  · rw [dl_at0 hs hj] at e1
    cases e1
    exact ⟨Int.le_refl _, hw⟩
  · rw [dl_at hs hj] at e1
    cases e1
    have hp : 0 < ws.sum := by
      have := sum_nn hn
      omega
    have q := part_even (A := pre ws j) hp h0 h1 hw
    unfold part
    rw [pre_succ e2]
    exact ⟨q.1, q.2.1⟩
theorem lookup_zip {is : List Nat} {vs : List Int} {i : Nat} {v : Int} (h : (is.zip vs).lookup i = some v) : ∃ k : Nat, is[k]? = some i ∧ vs[k]? = some v := by
  induction is generalizing vs with
  | nil => simp at h
  | cons a is ih =>
    cases vs with
    | nil => simp at h
    | cons b vs =>
      simp only [List.zip_cons_cons, List.lookup_cons] at h
      by_cases e : i = a
      · subst e
        simp at h
        exact ⟨0, rfl, by simp [h]⟩
      · have : (i == a) = false := beq_eq_false_iff_ne.mpr e
        rw [this] at h
        obtain ⟨k, h1, h2⟩ := ih h
        exact ⟨k + 1, by simpa using h1, by simpa using h2⟩
theorem spr_le {pr : List Int} {is : List Nat} {vs : List Int} (hn : Nn pr) (hv : Le2 vs (qs pr is)) : Le2 (spr pr.length is vs) pr := by
  refine ⟨spr_len _ _ _, fun j v w e1 e2 => ?_⟩
  have hj : j < pr.length := (List.getElem?_eq_some_iff.mp e2).1
  have hw := hn w (List.mem_of_getElem? e2)
  have e3 : v = ((is.zip vs).lookup j).getD 0 := by
    simp [spr, hj] at e1
    exact e1.symm
  cases e4 : (is.zip vs).lookup j with
  | none =>
    rw [e4] at e3
    subst e3
    exact ⟨Int.le_refl _, hw⟩
  | some u =>
    rw [e4] at e3
    have e3' : v = u := e3
    subst e3'
    obtain ⟨k, h1, h2⟩ := lookup_zip e4
    refine hv.2 k v w h2 ?_
    simp only [qs, List.getElem?_map, h1, Option.map_some]
    rw [List.getD_eq_getElem?_getD, e2]
    rfl
theorem qs_nn {pr : List Int} (hn : Nn pr) (is : List Nat) : Nn (qs pr is) := fun v hv => by
  obtain ⟨i, _, rfl⟩ := List.mem_map.mp hv
  rw [List.getD_eq_getElem?_getD]
  cases e : pr[i]? with
  | none => exact Int.le_refl _
  | some w => exact hn w (List.mem_of_getElem? e)
def leQ (q : List Int) (a b : Nat) : Bool := decide (q.getD b 0 < q.getD a 0 ∨ (q.getD a 0 = q.getD b 0 ∧ a ≤ b))
def ordQ (q : List Int) : List Nat := (List.range q.length).mergeSort (leQ q)
theorem ordQ_perm (q : List Int) : (ordQ q).Perm (List.range q.length) := List.mergeSort_perm _ _
theorem ordQ_fall (q : List Int) : Fall q (ordQ q) := by
  refine ⟨ordQ_perm q, ?_⟩
  have h1 : (ordQ q).Pairwise (fun a b => leQ q a b = true) := List.pairwise_mergeSort (le := leQ q) (fun a b c h h' => by simp only [leQ, decide_eq_true_eq] at *; omega) (fun a b => by simp only [leQ, Bool.or_eq_true, decide_eq_true_eq]; omega) _
  have h2 : (ordQ q).Nodup := (ordQ_perm q).nodup_iff.mpr List.nodup_range
  refine (h1.and h2).imp fun {a b} h => ?_
  have h3 := h.1
  have h4 : a ≠ b := h.2
  simp only [leQ, decide_eq_true_eq] at h3
  unfold bef
  omega
def gdl (cut : Int → Int) (gs : List (List Nat)) (q : List Int) : List Int := spr q.length gs.flatten ((gs.map fun g => dl (cut (qs q g).sum) (qs q g)).flatten)
theorem qs_append (q : List Int) (a b : List Nat) : qs q (a ++ b) = qs q a ++ qs q b := by simp [qs]
theorem gdl_le {cut : Int → Int} {gs : List (List Nat)} {q : List Int} (hn : Nn q) (hc : ∀ s, 0 ≤ s → 0 ≤ cut s ∧ cut s ≤ s) : Le2 (gdl cut gs q) q := by
  refine spr_le hn ?_
  induction gs with
  | nil => exact Le2.nil
  | cons g gs ih =>
    rw [List.map_cons, List.flatten_cons, List.flatten_cons, qs_append]
    have h := hc _ (sum_nn (qs_nn hn g))
    exact (dl_le (qs_nn hn g) h.1 h.2).append ih
def byLine (n : Nat) (lines : List Nat) : List (List Nat) := (List.range n).map fun l => (List.range lines.length).filter fun k => lines.getD k 0 == l
def lasts (gs : List (List Nat)) : List Nat := gs.map fun g => g.getLastD 0
def want (so : Srt) (n : Nat) (lines : List Nat) (q : List Int) : List Int := match so with
  | .off a => dl (min a q.sum) q
  | .share s false => dl (q.sum * s / 1000) q
  | .share s true => gdl (fun z => z * s / 1000) (byLine n lines) q
  | .cheap m => spr q.length (lasts (grp m.toNat (ordQ q))) (qs q (lasts (grp m.toNat (ordQ q))))
  | .bund m p => gdl (fun z => max 0 (z - p)) (grp m.toNat (ordQ q)) q
  | .carr => List.replicate q.length 0
def fee (so : Srt) (cg : Int) : Int := match so with
  | .carr => cg
  | _ => 0
def SrtOk : Srt → Prop
  | .off a => 0 ≤ a ∧ a ≤ 1000000000000
  | .share s _ => 1 ≤ s ∧ s ≤ 1000
  | .cheap n => 2 ≤ n ∧ n ≤ 20
  | .bund n p => 2 ≤ n ∧ n ≤ 20 ∧ 0 ≤ p ∧ p ≤ 1000000000000
  | .carr => True
theorem share_le {z s : Int} (hz : 0 ≤ z) (h1 : 1 ≤ s) (h2 : s ≤ 1000) : 0 ≤ z * s / 1000 ∧ z * s / 1000 ≤ z := by
  have a : 0 ≤ z * s := Int.mul_nonneg hz (by omega)
  have b : z * s ≤ z * 1000 := Int.mul_le_mul_of_nonneg_left h2 hz
  omega
theorem rep_le {q : List Int} (hn : Nn q) : Le2 (List.replicate q.length 0) q := by
  refine ⟨by simp, fun j v w e1 e2 => ?_⟩
  have : v = 0 := by
    rw [List.getElem?_replicate] at e1
    split at e1
    · exact (Option.some.inj e1).symm
    · cases e1
  subst this
  exact ⟨Int.le_refl _, hn w (List.mem_of_getElem? e2)⟩
theorem want_le_off {a : Int} {n : Nat} {lines : List Nat} {q : List Int} (hn : Nn q) (h0 : 0 ≤ a) : Le2 (want (.off a) n lines q) q := by
  have hs := sum_nn hn
  show Le2 (dl (min a q.sum) q) q
  exact dl_le hn (by omega) (by omega)
theorem want_le_share {s : Int} {e : Bool} {n : Nat} {lines : List Nat} {q : List Int} (hn : Nn q) (h1 : 1 ≤ s) (h2 : s ≤ 1000) : Le2 (want (.share s e) n lines q) q := by
  have hs := sum_nn hn
  cases e with
  | false =>
    show Le2 (dl (q.sum * s / 1000) q) q
    have h := share_le hs h1 h2
    exact dl_le hn h.1 h.2
  | true =>
    show Le2 (gdl (fun z => z * s / 1000) (byLine n lines) q) q
    exact gdl_le hn fun z hz => share_le hz h1 h2
theorem want_le_bund {m p : Int} {n : Nat} {lines : List Nat} {q : List Int} (hn : Nn q) (h0 : 0 ≤ p) : Le2 (want (.bund m p) n lines q) q := by
  show Le2 (gdl (fun z => max 0 (z - p)) (grp m.toNat (ordQ q)) q) q
  exact gdl_le hn fun z hz => ⟨by show 0 ≤ max 0 (z - p); omega, by show max 0 (z - p) ≤ z; omega⟩
theorem want_le_cheap {m : Int} {n : Nat} {lines : List Nat} {q : List Int} (hn : Nn q) : Le2 (want (.cheap m) n lines q) q := by
  show Le2 (spr q.length _ (qs q _)) q
  exact spr_le hn (Le2.self (qs_nn hn _))
theorem want_le_carr {n : Nat} {lines : List Nat} {q : List Int} (hn : Nn q) : Le2 (want .carr n lines q) q := rep_le hn
theorem want_le {so : Srt} {n : Nat} {lines : List Nat} {q : List Int} (hn : Nn q) (ho : SrtOk so) : Le2 (want so n lines q) q := by
  cases so with
  | off a => exact want_le_off hn ho.1
  | share s e => exact want_le_share hn ho.1 ho.2
  | cheap m => exact want_le_cheap hn
  | bund m p => exact want_le_bund hn ho.2.2.1
  | carr => exact want_le_carr hn
def cap (most : Option Int) (w : List Int) (f : Int) : List Int × Int := match most with
  | none => (w, f)
  | some m => if m < w.sum + f then (dl (min m w.sum) w, min f m) else (w, f)
theorem cap_le {most : Option Int} {w q : List Int} {f cg : Int} (h : Le2 w q) (hf : 0 ≤ f ∧ f ≤ cg) (hm : ∀ m, most = some m → 0 ≤ m) : Le2 (cap most w f).1 q ∧ 0 ≤ (cap most w f).2 ∧ (cap most w f).2 ≤ cg := by
  unfold cap
  cases most with
  | none => exact ⟨h, hf⟩
  | some m =>
    have h0 := hm m rfl
    have hs := sum_nn h.nn
    simp only
    split
    · exact ⟨(dl_le h.nn (by omega) (by omega)).trans h, by simp only; omega, by simp only; omega⟩
    · exact ⟨h, hf⟩
def cutM (V : Vch) (ps : List (Option Nat)) (kk : List Nat) (S : Stnd) : List Int × Int :=
  let is := abt ps kk V.ms.kind V.ms.lone S
  let c := cap V.ms.most (want V.so S.mkd.length (is.map fun i => S.ow.getD i 0) (qs S.pr is)) (fee V.so S.cg)
  (spr S.pr.length is c.1, c.2)
theorem cut_le {V : Vch} {ps : List (Option Nat)} {kk : List Nat} {S : Stnd} (hn : Nn S.pr) (hc : 0 ≤ S.cg) (ho : SrtOk V.so) (hm : ∀ m, V.ms.most = some m → 0 ≤ m) : Le2 (cutM V ps kk S).1 S.pr ∧ 0 ≤ (cutM V ps kk S).2 ∧ (cutM V ps kk S).2 ≤ S.cg := by
  have hf : 0 ≤ fee V.so S.cg ∧ fee V.so S.cg ≤ S.cg := by
    unfold fee
    split <;> omega
  have h := cap_le (most := V.ms.most) (want_le (n := S.mkd.length) (lines := (abt ps kk V.ms.kind V.ms.lone S).map fun i => S.ow.getD i 0) (qs_nn hn (abt ps kk V.ms.kind V.ms.lone S)) ho) hf hm
  exact ⟨spr_le hn h.1, h.2⟩
def cutOff (ow : List Nat) (c : List Int) (l : Nat) : Bool := (List.range ow.length).any fun i => ow.getD i 0 == l && decide (0 < c.getD i 0)
def aftM (V : Vch) (ps : List (Option Nat)) (kk : List Nat) (S : Stnd) : Stnd :=
  ⟨S.ow, List.zipWith (· - ·) S.pr (cutM V ps kk S).1, S.cg - (cutM V ps kk S).2, (List.range S.mkd.length).map fun l => S.mkd.getD l false || (V.ms.lone && cutOff S.ow (cutM V ps kk S).1 l)⟩
theorem aft_pr {V : Vch} {ps : List (Option Nat)} {kk : List Nat} {S : Stnd} (hn : Nn S.pr) (hc : 0 ≤ S.cg) (ho : SrtOk V.so) (hm : ∀ m, V.ms.most = some m → 0 ≤ m) : Le2 (aftM V ps kk S).pr S.pr ∧ 0 ≤ (aftM V ps kk S).cg ∧ (aftM V ps kk S).cg ≤ S.cg := by
  have h := cut_le (ps := ps) (kk := kk) hn hc ho hm
  refine ⟨⟨?_, fun j v w e1 e2 => ?_⟩, ?_, ?_⟩
  · show (List.zipWith _ _ _).length = _
    rw [List.length_zipWith, h.1.1]
    omega
  · have hj : j < S.pr.length := (List.getElem?_eq_some_iff.mp e2).1
    have hj2 : j < (cutM V ps kk S).1.length := by rw [h.1.1]; exact hj
    have e3 : (cutM V ps kk S).1[j]? = some ((cutM V ps kk S).1[j]) := by simp [hj2]
    have b := h.1.2 j _ w e3 e2
    have e4 : (List.zipWith (· - ·) S.pr (cutM V ps kk S).1)[j]? = some (w - (cutM V ps kk S).1[j]) := by
      rw [List.getElem?_zipWith, e2, e3]
    have e1' : (List.zipWith (· - ·) S.pr (cutM V ps kk S).1)[j]? = some v := e1
    rw [e4] at e1'
    cases e1'
    omega
  · show 0 ≤ S.cg - _
    have := h.2
    omega
  · show S.cg - _ ≤ S.cg
    have := h.2
    omega
end Vs
namespace Vs
open Kin Deal
structure Sel (q : List Int) (row left : List Nat) : Prop where
  pm : (row ++ left).Perm (List.range q.length)
  inc : left.Pairwise (· < ·)
  pw : row.Pairwise (bef q)
  cr : ∀ r ∈ row, ∀ l ∈ left, bef q r l
theorem Sel.start (q : List Int) : Sel q [] (List.range q.length) := ⟨List.Perm.refl _, List.pairwise_lt_range, .nil, fun r hr => by simp at hr⟩
theorem Sel.lt {q : List Int} {row left : List Nat} (h : Sel q row left) {i : Nat} (hi : i ∈ left) : i < q.length := by
  have := h.pm.mem_iff.mp (List.mem_append_right row hi)
  simpa using this
theorem Sel.len {q : List Int} {row left : List Nat} (h : Sel q row left) : row.length + left.length = q.length := by
  have := h.pm.length_eq
  simpa using this
theorem Sel.fin {q : List Int} {row : List Nat} (h : Sel q row []) : row = ordQ q := by
  refine fall_unique ⟨?_, h.pw⟩ (ordQ_fall q)
  have := h.pm
  rwa [List.append_nil] at this
def TopI (q : List Int) (left : List Nat) (i top : Nat) : Prop := (∃ k, left[k]? = some top ∧ (k < i ∨ k = 0)) ∧ ∀ y ∈ left.take i, y = top ∨ bef q top y
theorem TopI.start {q : List Int} {left : List Nat} {t : Nat} (h : left[0]? = some t) : TopI q left 0 t := ⟨⟨0, h, .inr rfl⟩, fun y hy => by simp at hy⟩
theorem TopI.more {q : List Int} {left : List Nat} {i top x : Nat} (inc : left.Pairwise (· < ·)) (h : TopI q left i top) (hx : left[i]? = some x) : TopI q left (i + 1) (if q.getD top 0 < q.getD x 0 then x else top) := by
  obtain ⟨⟨k, ek, hk⟩, hy⟩ := h
  have et : left.take (i + 1) = left.take i ++ [x] := by rw [List.take_add_one, hx]; rfl
  split
  · rename_i hlt
    refine ⟨⟨i, hx, .inl (by omega)⟩, fun y hm => ?_⟩
    rw [et] at hm
    rcases List.mem_append.mp hm with h1 | h1
    · refine .inr (.inl ?_)
      rcases hy y h1 with rfl | h2
      · exact hlt
      · unfold bef at h2
        omega
    · exact .inl (by simpa using h1)
  · rename_i hge
    refine ⟨⟨k, ek, by omega⟩, fun y hm => ?_⟩
    rw [et] at hm
    rcases List.mem_append.mp hm with h1 | h1
    · exact hy y h1
    · have e : y = x := by simpa using h1
      subst e
      by_cases hki : k = i
      · subst hki
        rw [ek] at hx
        exact .inl (Option.some.inj hx).symm
      · have hlt : top < y := by
          obtain ⟨l1, q1⟩ := List.getElem?_eq_some_iff.mp ek
          obtain ⟨l2, q2⟩ := List.getElem?_eq_some_iff.mp hx
          have := List.pairwise_iff_getElem.mp inc k i l1 l2 (by omega)
          rwa [q1, q2] at this
        refine .inr ?_
        unfold bef
        omega
theorem Sel.step {q : List Int} {row left : List Nat} {top : Nat} (h : Sel q row left) (ht : TopI q left left.length top) : Sel q (row ++ [top]) (left.erase top) ∧ top ∈ left := by
  obtain ⟨⟨k, ek, _⟩, hy⟩ := ht
  have hm := List.mem_of_getElem? ek
  rw [List.take_length] at hy
  have nd : left.Nodup := h.inc.imp fun hlt => Nat.ne_of_lt hlt
  refine ⟨⟨?_, h.inc.sublist (List.erase_sublist), ?_, ?_⟩, hm⟩
  · refine List.Perm.trans ?_ h.pm
    rw [List.append_assoc]
    exact List.Perm.append_left row (List.perm_cons_erase hm).symm
  · exact List.pairwise_append.mpr ⟨h.pw, List.pairwise_singleton _ _, fun r hr t ht => by
      have e : t = top := by simpa using ht
      subst e
      exact h.cr r hr t hm⟩
  · intro r hr l hl
    have hl' := (nd.mem_erase_iff).mp hl
    rcases List.mem_append.mp hr with h1 | h1
    · exact h.cr r h1 l hl'.2
    · have e : r = top := by simpa using h1
      subst e
      rcases hy l hl'.2 with h2 | h2
      · exact absurd h2 hl'.1
      · exact h2
theorem cast_erase : ∀ (l : List Nat) (t : Nat), (l.map fun (i : Nat) => (i : Int)).erase (t : Int) = (l.erase t).map fun (i : Nat) => (i : Int)
  | [], _ => rfl
  | a :: l, t => by
    rw [List.map_cons, List.erase_cons, List.erase_cons]
    by_cases h : a = t
    · subst h
      simp
    · have h1 : ((a : Int) == (t : Int)) = false := by simp; omega
      have h2 : (a == t) = false := by simp [h]
      rw [h1, h2]
      simp [cast_erase l t]
end Vs
namespace Vs
open Kin Deal
theorem grp_at {m : Nat} {r : List Nat} {i : Nat} {g : List Nat} (h : (grp m r)[i]? = some g) : i * m + m ≤ r.length ∧ g.length = m ∧ ∀ j, j < m → g[j]? = r[i * m + j]? := by
  unfold grp at h
  rw [List.getElem?_map] at h
  have hi : i < r.length / m := by
    rcases Nat.lt_or_ge i (r.length / m) with q | q
    · exact q
    · rw [List.getElem?_eq_none (by simpa using q)] at h
      cases h
  rw [List.getElem?_range hi] at h
  cases h
  have hle : i * m + m ≤ r.length := by
    have h1 : (i + 1) * m ≤ r.length / m * m := Nat.mul_le_mul_right m hi
    have h2 := Nat.div_mul_le_self r.length m
    rw [Nat.add_mul, Nat.one_mul] at h1
    omega
  refine ⟨hle, by rw [List.length_take, List.length_drop]; omega, fun j hj => ?_⟩
  rw [List.getElem?_take_of_lt hj, List.getElem?_drop]
theorem last_at {m : Nat} {r : List Nat} {i : Nat} {g : List Nat} (hm : 0 < m) (h : (grp m r)[i]? = some g) : r[i * m + (m - 1)]? = some (g.getLastD 0) := by
  obtain ⟨hle, hl, hg⟩ := grp_at h
  rw [← hg (m - 1) (by omega)]
  cases g with
  | nil => simp at hl; omega
  | cons x xs =>
    have e : (x :: xs).getLastD 0 = (x :: xs).getLast (by simp) := by simp [List.getLastD]
    rw [e, List.getLast_eq_getElem, List.getElem?_eq_some_iff]
    refine ⟨by omega, ?_⟩
    congr 1
    omega
theorem lasts_at {gs : List (List Nat)} {i : Nat} {g : List Nat} (h : gs[i]? = some g) : (lasts gs)[i]? = some (g.getLastD 0) := by
  unfold lasts
  rw [List.getElem?_map, h]
  rfl
theorem lasts_len (gs : List (List Nat)) : (lasts gs).length = gs.length := by simp [lasts]
theorem lasts_nodup {m : Nat} {r : List Nat} (hm : 0 < m) (hr : r.Nodup) : (lasts (grp m r)).Nodup := by
  refine List.pairwise_iff_getElem.mpr fun i j hi hj hij e => ?_
  rw [lasts_len] at hi hj
  have e1 : (grp m r)[i]? = some (grp m r)[i] := by simp [hi]
  have e2 : (grp m r)[j]? = some (grp m r)[j] := by simp [hj]
  have a1 := last_at hm e1
  have a2 := last_at hm e2
  have b1 := lasts_at e1
  have b2 := lasts_at e2
  obtain ⟨_, c1⟩ := List.getElem?_eq_some_iff.mp b1
  obtain ⟨_, c2⟩ := List.getElem?_eq_some_iff.mp b2
  rw [c1, c2] at e
  rw [e] at a1
  obtain ⟨l1, d1⟩ := List.getElem?_eq_some_iff.mp a1
  obtain ⟨l2, d2⟩ := List.getElem?_eq_some_iff.mp a2
  have hlt : i * m + (m - 1) < j * m + (m - 1) := by
    have := Nat.mul_lt_mul_of_pos_right hij hm
    omega
  exact List.pairwise_iff_getElem.mp hr _ _ l1 l2 hlt (by rw [d1, d2])
theorem ordQ_nodup (q : List Int) : (ordQ q).Nodup := (ordQ_perm q).nodup_iff.mpr List.nodup_range
theorem ordQ_lt {q : List Int} {i : Nat} (h : i ∈ ordQ q) : i < q.length := by
  have := (ordQ_perm q).mem_iff.mp h
  simpa using this
end Vs
namespace Vs
open Kin Deal
theorem spr_snoc {n : Nat} {is : List Nat} {vs : List Int} {i : Nat} {v : Int} (hl : is.length = vs.length) (hn : (is ++ [i]).Nodup) (hi : i < n) : (spr n is vs).set i v = spr n (is ++ [i]) (vs ++ [v]) := by
  have h := spr_set (n := n) (is := is ++ [i]) (vs := vs ++ [v]) hn (k := is.length) (i := i) (v := v) (by simp) (by rw [hl]; simp) hi
  rw [List.take_left' rfl, List.take_left' hl.symm, List.take_of_length_le (by simp), List.take_of_length_le (by simp [hl])] at h
  exact h
theorem take_flat_nodup {gs : List (List Nat)} (h : gs.flatten.Nodup) {i k a : Nat} {g : List Nat} (hg : gs[i]? = some g) (hk : g[k]? = some a) : ((gs.take i).flatten ++ g.take k ++ [a]).Nodup := by
  have e : gs = gs.take i ++ g :: gs.drop (i + 1) := by
    obtain ⟨hi, eg⟩ := List.getElem?_eq_some_iff.mp hg
    rw [← eg, List.getElem_cons_drop hi, List.take_append_drop]
  have e2 : g = (g.take k ++ [a]) ++ g.drop (k + 1) := by
    obtain ⟨hk', ek⟩ := List.getElem?_eq_some_iff.mp hk
    rw [List.append_assoc, List.singleton_append, ← ek, List.getElem_cons_drop hk', List.take_append_drop]
  rw [e, List.flatten_append, List.flatten_cons] at h
  rw [List.append_assoc]
  refine h.sublist (List.Sublist.append_left ?_ _)
  refine List.Sublist.trans ?_ (List.sublist_append_left g _)
  conv => rhs; rw [e2]
  exact List.sublist_append_left _ _
theorem grp_flat {m : Nat} (r : List Nat) : (grp m r).flatten = r.take (r.length / m * m) := by
  unfold grp
  have hle : r.length / m * m ≤ r.length := Nat.div_mul_le_self _ _
  generalize r.length / m = c at *
  induction c with
  | zero => simp
  | succ c ih =>
    have h1 : c * m + m ≤ r.length := by rw [← Nat.succ_mul]; exact hle
    rw [List.range_succ, List.map_append, List.flatten_append, ih (by omega)]
    simp only [List.map_cons, List.map_nil, List.flatten_cons, List.flatten_nil, List.append_nil]
    rw [show (c + 1) * m = c * m + m by rw [Nat.add_mul, Nat.one_mul], List.take_add]
theorem grp_nodup {m : Nat} {r : List Nat} (h : r.Nodup) : (grp m r).flatten.Nodup := by
  rw [grp_flat]
  exact h.sublist (List.take_sublist _ _)
theorem flat_take_succ {α : Type} {gs : List (List α)} {i : Nat} {g : List α} (h : gs[i]? = some g) : (gs.take (i + 1)).flatten = (gs.take i).flatten ++ g := by
  rw [List.take_add_one, h]
  simp
end Vs
namespace Vs
open Kin Deal
theorem lookup_through {is : List Nat} (hn : is.Nodup) {k i : Nat} (hk : is[k]? = some i) : ∀ (l : List (Nat × Int)), (∀ p ∈ l, p.1 < is.length) → (l.map fun p => (is.getD p.1 0, p.2)).lookup i = l.lookup k
  | [], _ => rfl
  | (j, v) :: l, h => by
    have ih := lookup_through hn hk l fun p hp => h p (List.mem_cons_of_mem _ hp)
    have hj : j < is.length := h (j, v) List.mem_cons_self
    obtain ⟨hk', ek⟩ := List.getElem?_eq_some_iff.mp hk
    have e : is.getD j 0 = is[j] := by rw [List.getD_eq_getElem?_getD]; simp [hj]
    simp only [List.map_cons, List.lookup_cons, e]
    by_cases q : k = j
    · subst q
      simp [ek]
    · have h1 : (k == j) = false := by simp [q]
      have h2 : (i == is[j]) = false := by
        refine beq_eq_false_iff_ne.mpr fun z => q ?_
        exact (List.getElem_inj hn).mp (by rw [ek, z])
      rw [h1, h2]
      exact ih
theorem lookup_none {is : List Nat} {i : Nat} (hi : ∀ k : Nat, is[k]? ≠ some i) : ∀ (l : List (Nat × Int)), (∀ p ∈ l, p.1 < is.length) → (l.map fun p => (is.getD p.1 0, p.2)).lookup i = none
  | [], _ => rfl
  | (j, v) :: l, h => by
    have ih := lookup_none hi l fun p hp => h p (List.mem_cons_of_mem _ hp)
    have hj : j < is.length := h (j, v) List.mem_cons_self
    have e : is.getD j 0 = is[j] := by rw [List.getD_eq_getElem?_getD]; simp [hj]
    have h2 : (i == is[j]) = false := beq_eq_false_iff_ne.mpr fun z => hi j (by rw [z]; simp [hj])
    simp only [List.map_cons, List.lookup_cons, e, h2]
    exact ih
theorem lookup_zipN {is : List Nat} (hn : is.Nodup) {k i : Nat} (hk : is[k]? = some i) : ∀ {vs : List Int}, is.length = vs.length → (is.zip vs).lookup i = vs[k]? := by
  induction is generalizing k with
  | nil => simp at hk
  | cons a is ih =>
    intro vs hl
    cases vs with
    | nil => simp at hl
    | cons v vs =>
      rw [List.zip_cons_cons, List.lookup_cons]
      cases k with
      | zero =>
        have : a = i := by simpa using hk
        subst this
        simp
      | succ k =>
        have hk' : is[k]? = some i := by simpa using hk
        have hh := List.nodup_cons.mp hn
        have hne : (i == a) = false := beq_eq_false_iff_ne.mpr fun z => hh.1 (z ▸ List.mem_of_getElem? hk')
        rw [hne]
        simpa using ih hh.2 hk' (by simpa using hl)
theorem spr_spr {n : Nat} {is js : List Nat} {vs : List Int} (hn : is.Nodup) (hj : ∀ j ∈ js, j < is.length) : spr n is (spr is.length js vs) = spr n (js.map fun j => is.getD j 0) vs := by
  apply List.ext_getElem
  · simp [spr]
  intro i h1 h2
  have ez : (js.map fun j => is.getD j 0).zip vs = (js.zip vs).map fun p => (is.getD p.1 0, p.2) := by rw [List.zip_map_left]; rfl
  have hp : ∀ p ∈ js.zip vs, p.1 < is.length := fun p hp => hj _ (List.of_mem_zip hp).1
  simp only [spr, List.getElem_map, List.getElem_range]
  rw [ez]
  by_cases hk : ∃ k : Nat, is[k]? = some i
  · obtain ⟨k, hk⟩ := hk
    have hkl := (List.getElem?_eq_some_iff.mp hk).1
    rw [lookup_through hn hk _ hp, lookup_zipN hn hk (by simp)]
    simp [hkl]
  · rw [lookup_none (fun k e => hk ⟨k, e⟩) _ hp]
    have : ((is.zip ((List.range is.length).map fun i => ((js.zip vs).lookup i).getD 0)).lookup i) = none := by
      rw [List.lookup_eq_none_iff]
      intro p hp'
      have := (List.of_mem_zip hp').1
      obtain ⟨k, ek⟩ := List.mem_iff_getElem?.mp this
      have hne : i ≠ p.1 := fun z => hk ⟨k, by rw [ek, ← z]⟩
      simpa using hne
    rw [this]
def owns (n : Nat) (ow : List Nat) (is : List Nat) : List (List Nat) := (List.range n).map fun l => is.filter fun i => ow.getD i 0 == l
theorem byLine_owns (n : Nat) (ow is : List Nat) : (byLine n (is.map fun i => ow.getD i 0)).map (fun g => g.map fun j => is.getD j 0) = owns n ow is := by
  unfold byLine owns
  rw [List.map_map]
  refine List.map_congr_left fun l _ => ?_
  show (((List.range _).filter _).map fun j => is.getD j 0) = _
  have e : is = (List.range is.length).map fun j => is.getD j 0 := by
    apply List.ext_getElem
    · simp
    · intro j h1 h2
      simp [List.getD_eq_getElem?_getD, h1]
  conv => rhs; rw [e]
  rw [List.filter_map, List.length_map]
  congr 1
  refine List.filter_congr fun k hk => ?_
  have hk' : k < is.length := by simpa using hk
  simp [List.getD_eq_getElem?_getD, hk']
theorem qs_qs {pr : List Int} {ab g : List Nat} (h : ∀ j ∈ g, j < ab.length) : qs (qs pr ab) g = qs pr (g.map fun j => ab.getD j 0) := by
  unfold qs
  rw [List.map_map]
  refine List.map_congr_left fun j hj => ?_
  have := h j hj
  simp [List.getD_eq_getElem?_getD, this]
theorem byLine_lt {n : Nat} {lines : List Nat} {g : List Nat} (hg : g ∈ byLine n lines) {j : Nat} (hj : j ∈ g) : j < lines.length := by
  obtain ⟨l, _, rfl⟩ := List.mem_map.mp hg
  have := (List.mem_filter.mp hj).1
  simpa using this
theorem by_line_cut {n N : Nat} {ow ab : List Nat} {pr : List Int} (cut : Int → Int) (hn : ab.Nodup) : spr n ab (gdl cut (byLine N (ab.map fun i => ow.getD i 0)) (qs pr ab)) = spr n (owns N ow ab).flatten ((owns N ow ab).map fun o => dl (cut (qs pr o).sum) (qs pr o)).flatten := by
  unfold gdl
  rw [qs_len, spr_spr hn fun j hj => ?_, List.map_flatten, byLine_owns]
  · congr 2
    rw [← byLine_owns, List.map_map]
    refine List.map_congr_left fun g hg => ?_
    have e := qs_qs (pr := pr) (ab := ab) (g := g) fun j hj => by simpa using byLine_lt hg hj
    show dl (cut (qs (qs pr ab) g).sum) (qs (qs pr ab) g) = dl (cut (qs pr (g.map fun j => ab.getD j 0)).sum) (qs pr (g.map fun j => ab.getD j 0))
    rw [e]
  · obtain ⟨g, hg, hj'⟩ := List.mem_flatten.mp hj
    simpa using byLine_lt hg hj'
end Vs
namespace Vs
open Kin Deal
section
variable {p : Nat → Bool} {n : Nat} {w : List Int}
def cnt (p : Nat → Bool) (j : Nat) : Nat := ((List.range j).filter p).length
theorem cnt_yes {j : Nat} (h : p j = true) : cnt p (j + 1) = cnt p j + 1 := by
  unfold cnt
  rw [List.range_succ, List.filter_append, List.length_append]
  simp [h]
theorem cnt_no {j : Nat} (h : p j = false) : cnt p (j + 1) = cnt p j := by
  unfold cnt
  rw [List.range_succ, List.filter_append, List.length_append]
  simp [h]
theorem filter_at : ∀ {n j : Nat}, j < n → p j = true → ((List.range n).filter p)[cnt p j]? = some j
  | 0, j, h, _ => by omega
  | n + 1, j, h, hp => by
    rw [List.range_succ, List.filter_append]
    by_cases hj : j < n
    · have ih := filter_at hj hp
      rw [List.getElem?_append_left (List.getElem?_eq_some_iff.mp ih).1]
      exact ih
    · have e : j = n := by omega
      subst e
      unfold cnt
      rw [List.getElem?_append_right (Nat.le_refl _)]
      simp [hp]
theorem spr_at (hl : w.length = cnt p n) {j : Nat} (hj : j < n) : (spr n ((List.range n).filter p) w)[j]? = some (if p j = true then w.getD (cnt p j) 0 else 0) := by
  unfold spr
  rw [List.getElem?_map, List.getElem?_range hj]
  show some _ = some _
  congr 1
  show (List.lookup j (((List.range n).filter p).zip w)).getD 0 = _
  cases hp : p j with
  | true =>
    rw [lookup_zipN (List.Pairwise.filter _ List.nodup_range) (filter_at hj hp) hl.symm, if_pos rfl, List.getD_eq_getElem?_getD]
  | false =>
    rw [if_neg Bool.false_ne_true]
    cases e : (((List.range n).filter p).zip w).lookup j with
    | none => rw [Option.getD_none]
    | some v =>
      obtain ⟨k, hk, _⟩ := lookup_zip e
      have := (List.mem_filter.mp (List.mem_of_getElem? hk)).2
      rw [hp] at this
      cases this
theorem pre_spr (hl : w.length = cnt p n) : ∀ j, j ≤ n → pre (spr n ((List.range n).filter p) w) j = pre w (cnt p j)
  | 0, _ => by simp [pre, cnt]
  | j + 1, h => by
    have ih := pre_spr hl j (by omega)
    rw [pre_succ (spr_at hl (show j < n by omega)), ih]
    cases hp : p j with
    | true =>
      have hk := (List.getElem?_eq_some_iff.mp (filter_at (show j < n by omega) hp)).1
      have hk' : cnt p j < w.length := by rw [hl]; exact hk
      rw [if_pos rfl, cnt_yes hp, pre_succ (w := w.getD (cnt p j) 0) (by rw [List.getD_eq_getElem?_getD, List.getElem?_eq_getElem hk']; rfl)]
    | false => rw [if_neg Bool.false_ne_true, cnt_no hp, Int.add_zero]
theorem sum_spr (hl : w.length = cnt p n) : (spr n ((List.range n).filter p) w).sum = w.sum := by
  have h := pre_spr hl n (Nat.le_refl _)
  rw [← hl, pre_len] at h
  have e : pre (spr n ((List.range n).filter p) w) n = (spr n ((List.range n).filter p) w).sum := by
    have := pre_len (spr n ((List.range n).filter p) w)
    rw [spr_len] at this
    exact this
  rw [← e, h]
theorem dl_spr (m : Int) (hl : w.length = cnt p n) : dl m (spr n ((List.range n).filter p) w) = spr n ((List.range n).filter p) (dl m w) := by
  have hl2 : (dl m w).length = cnt p n := by rw [dl_len, hl]
  have hs := sum_spr hl
  apply List.ext_getElem?
  intro j
  by_cases hj : j < n
  · rw [spr_at hl2 hj]
    have hjF : j < (spr n ((List.range n).filter p) w).length := by rw [spr_len]; exact hj
    by_cases h0 : w.sum = 0
    · rw [dl_at0 (hs.trans h0) hjF]
      cases hp : p j with
      | false => rw [if_neg Bool.false_ne_true]
      | true =>
        have hk := (List.getElem?_eq_some_iff.mp (filter_at hj hp)).1
        rw [if_pos rfl, List.getD_eq_getElem?_getD, dl_at0 h0 (by rw [hl]; exact hk)]
        rfl
    · rw [dl_at (by rw [hs]; exact h0) hjF]
      unfold part
      rw [hs, pre_spr hl j (by omega), pre_spr hl (j + 1) (by omega)]
      cases hp : p j with
      | false => rw [if_neg Bool.false_ne_true, cnt_no hp, Int.sub_self]
      | true =>
        have hk := (List.getElem?_eq_some_iff.mp (filter_at hj hp)).1
        rw [if_pos rfl, List.getD_eq_getElem?_getD, dl_at h0 (by rw [hl]; exact hk), cnt_yes hp]
        rfl
  · rw [List.getElem?_eq_none (by rw [dl_len, spr_len]; omega), List.getElem?_eq_none (by rw [spr_len]; omega)]
end
theorem dl_zero {c : Int} {n : Nat} : dl c (List.replicate n 0) = List.replicate n 0 := by
  have e : (List.replicate n (0 : Int)).sum = 0 := by simp
  unfold dl
  rw [if_pos e]
  simp
theorem cut_none {V : Vch} {ps : List (Option Nat)} {kk : List Nat} {S : Stnd} (e : V.ms.most = none) :
    (cutM V ps kk S).1 = spr S.pr.length (abt ps kk V.ms.kind V.ms.lone S) (want V.so S.mkd.length ((abt ps kk V.ms.kind V.ms.lone S).map fun i => S.ow.getD i 0) (qs S.pr (abt ps kk V.ms.kind V.ms.lone S))) := by
  unfold cutM cap
  rw [e]
theorem cut_some {V : Vch} {ps : List (Option Nat)} {kk : List Nat} {S : Stnd} (hl : S.pr.length = S.ow.length)
    (hw : Le2 (want V.so S.mkd.length ((abt ps kk V.ms.kind V.ms.lone S).map fun i => S.ow.getD i 0) (qs S.pr (abt ps kk V.ms.kind V.ms.lone S))) (qs S.pr (abt ps kk V.ms.kind V.ms.lone S))) {m : Int} (e : V.ms.most = some m) (h0 : 0 ≤ m) :
    (cutM V ps kk S).1 = if (spr S.pr.length (abt ps kk V.ms.kind V.ms.lone S) (want V.so S.mkd.length ((abt ps kk V.ms.kind V.ms.lone S).map fun i => S.ow.getD i 0) (qs S.pr (abt ps kk V.ms.kind V.ms.lone S)))).sum > m
      then dl m (spr S.pr.length (abt ps kk V.ms.kind V.ms.lone S) (want V.so S.mkd.length ((abt ps kk V.ms.kind V.ms.lone S).map fun i => S.ow.getD i 0) (qs S.pr (abt ps kk V.ms.kind V.ms.lone S))))
      else spr S.pr.length (abt ps kk V.ms.kind V.ms.lone S) (want V.so S.mkd.length ((abt ps kk V.ms.kind V.ms.lone S).map fun i => S.ow.getD i 0) (qs S.pr (abt ps kk V.ms.kind V.ms.lone S))) := by
  have hwl := hw.1
  rw [qs_len] at hwl
  have ea : abt ps kk V.ms.kind V.ms.lone S = (List.range S.pr.length).filter fun i => hits ps kk V.ms.kind V.ms.lone S.mkd (S.ow.getD i 0) := by rw [hl]; rfl
  have ez : V.so = .carr → (want V.so S.mkd.length ((abt ps kk V.ms.kind V.ms.lone S).map fun i => S.ow.getD i 0) (qs S.pr (abt ps kk V.ms.kind V.ms.lone S))) = List.replicate (qs S.pr (abt ps kk V.ms.kind V.ms.lone S)).length 0 := fun z => by rw [z]; rfl
  unfold cutM cap
  rw [e]
  simp only
  generalize want V.so S.mkd.length ((abt ps kk V.ms.kind V.ms.lone S).map fun i => S.ow.getD i 0) (qs S.pr (abt ps kk V.ms.kind V.ms.lone S)) = w at *
  rw [ea] at hwl ⊢
  rw [sum_spr hwl, dl_spr m hwl]
  by_cases hc : V.so = .carr
  · have hz := ez hc
    have hs : w.sum = 0 := by rw [hz]; simp
    rw [if_neg (by omega : ¬ w.sum > m)]
    split
    · simp only
      rw [hz, dl_zero]
    · rfl
  · have hf : fee V.so S.cg = 0 := by
      unfold fee
      split
      · rename_i z
        exact absurd z hc
      · rfl
    rw [hf, Int.add_zero]
    by_cases hm : m < w.sum
    · rw [if_pos hm, if_pos hm]
      simp only
      rw [Int.min_eq_left (by omega)]
    · rw [if_neg hm, if_neg hm]
end Vs
namespace Vs
open Kin Deal
def ins : List (Nat × List Nat) → Nat → Nat → List (Nat × List Nat)
  | [], o, a => [(o, [a])]
  | (l, g) :: G, o, a => if l = o then (l, g ++ [a]) :: G else (l, g) :: ins G o a
def parted (f : Nat → Nat) (is : List Nat) : List (Nat × List Nat) := is.foldl (fun G a => ins G (f a) a) []
theorem parted_snoc (f : Nat → Nat) (is : List Nat) (a : Nat) : parted f (is ++ [a]) = ins (parted f is) (f a) a := by
  unfold parted
  rw [List.foldl_append]
  rfl
theorem ins_keys : ∀ (G : List (Nat × List Nat)) (o a : Nat), (ins G o a).map Prod.fst = if o ∈ G.map Prod.fst then G.map Prod.fst else G.map Prod.fst ++ [o]
  | [], o, a => by simp [ins]
  | (l, g) :: G, o, a => by
    unfold ins
    by_cases h : l = o
    · subst h
      simp
    · rw [if_neg h, List.map_cons, ins_keys G o a]
      show _ = if o ∈ l :: G.map Prod.fst then l :: G.map Prod.fst else (l :: G.map Prod.fst) ++ [o]
      have h' : ¬ o = l := fun z => h z.symm
      by_cases hm : o ∈ G.map Prod.fst
      · rw [if_pos hm, if_pos (List.mem_cons_of_mem _ hm)]
      · rw [if_neg hm, if_neg (by rw [List.mem_cons, not_or]; exact ⟨h', hm⟩)]
        rfl
theorem ins_mem : ∀ {G : List (Nat × List Nat)} {o a l : Nat} {g : List Nat}, (G.map Prod.fst).Nodup → (l, g) ∈ ins G o a → (l ≠ o ∧ (l, g) ∈ G) ∨ (l = o ∧ ((∃ g', (o, g') ∈ G ∧ g = g' ++ [a]) ∨ (o ∉ G.map Prod.fst ∧ g = [a])))
  | [], o, a, l, g, _, h => by
    unfold ins at h
    rw [List.mem_singleton] at h
    cases h
    exact .inr ⟨rfl, .inr ⟨by simp, rfl⟩⟩
  | (k, g0) :: G, o, a, l, g, hn, h => by
    unfold ins at h
    rw [List.map_cons, List.nodup_cons] at hn
    by_cases e : k = o
    · rw [if_pos e] at h
      subst e
      rcases List.mem_cons.mp h with z | z
      · cases z
        exact .inr ⟨rfl, .inl ⟨g0, List.mem_cons_self, rfl⟩⟩
      · refine .inl ⟨fun w => ?_, List.mem_cons_of_mem _ z⟩
        subst w
        exact hn.1 (List.mem_map.mpr ⟨(l, g), z, rfl⟩)
    · rw [if_neg e] at h
      rcases List.mem_cons.mp h with z | z
      · cases z
        exact .inl ⟨e, List.mem_cons_self⟩
      · rcases ins_mem hn.2 z with ⟨w1, w2⟩ | ⟨w1, ⟨g', w2, w3⟩ | ⟨w2, w3⟩⟩
        · exact .inl ⟨w1, List.mem_cons_of_mem _ w2⟩
        · exact .inr ⟨w1, .inl ⟨g', List.mem_cons_of_mem _ w2, w3⟩⟩
        · refine .inr ⟨w1, .inr ⟨?_, w3⟩⟩
          rw [List.map_cons, List.mem_cons, not_or]
          exact ⟨fun z => e z.symm, w2⟩
structure PtOk (f : Nat → Nat) (is : List Nat) (G : List (Nat × List Nat)) : Prop where
  nd : (G.map Prod.fst).Nodup
  gs : ∀ l g, (l, g) ∈ G → g = is.filter fun i => f i == l
  all : ∀ i ∈ is, f i ∈ G.map Prod.fst
theorem parted_ok' (f : Nat → Nat) : ∀ (n : Nat) (is : List Nat), is.length = n → PtOk f is (parted f is)
  | 0, is, h => by
    have e : is = [] := List.eq_nil_of_length_eq_zero h
    subst e
    exact ⟨by simp [parted], fun l g hg => by simp [parted] at hg, fun i hi => by simp at hi⟩
  | n + 1, is, h => by
    have hne : is ≠ [] := by
      intro z
      subst z
      cases h
    obtain ⟨is', a, rfl⟩ : ∃ is' a, is = is' ++ [a] := ⟨is.dropLast, is.getLast hne, (List.dropLast_concat_getLast hne).symm⟩
    have ih := parted_ok' f n is' (by simpa using h)
    rw [parted_snoc]
    refine ⟨?_, fun l g hg => ?_, fun i hi => ?_⟩
    · rw [ins_keys]
      split
      · exact ih.nd
      · rename_i hm
        exact List.nodup_append.mpr ⟨ih.nd, by simp, fun x hx y hy => by
          rw [List.mem_singleton] at hy
          subst hy
          exact fun z => hm (by rw [← z]; exact hx)⟩
    · rw [List.filter_append]
      rcases ins_mem ih.nd hg with ⟨w1, w2⟩ | ⟨w1, ⟨g', w2, w3⟩ | ⟨w2, w3⟩⟩
      · rw [ih.gs l g w2]
        have : (f a == l) = false := by simpa using fun z => w1 z.symm
        simp [this]
      · subst w1 w3
        rw [ih.gs _ g' w2]
        simp
      · subst w1 w3
        have e : is'.filter (fun i => f i == f a) = [] := by
          rw [List.filter_eq_nil_iff]
          intro i hi z
          have z' : f i = f a := by simpa using z
          exact w2 (by rw [← z']; exact ih.all i hi)
        rw [e]
        simp
    · rw [ins_keys]
      rcases List.mem_append.mp hi with hi | hi
      · have := ih.all i hi
        split
        · exact this
        · exact List.mem_append_left _ this
      · rw [List.mem_singleton] at hi
        subst hi
        split
        · assumption
        · exact List.mem_append_right _ (by simp)
theorem parted_ok (f : Nat → Nat) (is : List Nat) : PtOk f is (parted f is) := parted_ok' f is.length is rfl
theorem PtOk.snds {f : Nat → Nat} {is : List Nat} {G : List (Nat × List Nat)} (h : PtOk f is G) : G.map Prod.snd = (G.map Prod.fst).map fun l => is.filter fun i => f i == l := by
  rw [List.map_map]
  refine List.map_congr_left fun p hp => ?_
  exact h.gs p.1 p.2 hp
theorem lookup_app {l l' : List (Nat × Int)} {i : Nat} : (l ++ l').lookup i = (l.lookup i).or (l'.lookup i) := by
  induction l with
  | nil => simp
  | cons p l ih =>
    obtain ⟨a, b⟩ := p
    rw [List.cons_append, List.lookup_cons, List.lookup_cons, ih]
    split <;> rfl
theorem lookup_out {l : List (Nat × Int)} {i : Nat} (h : ∀ p ∈ l, p.1 ≠ i) : l.lookup i = none := by
  induction l with
  | nil => rfl
  | cons p l ih =>
    obtain ⟨a, b⟩ := p
    have h1 : (i == a) = false := by
      have := h (a, b) List.mem_cons_self
      simpa using fun z => this z.symm
    rw [List.lookup_cons, h1]
    exact ih fun q hq => h q (List.mem_cons_of_mem _ hq)
section
variable {f : Nat → Nat} {is : List Nat} {D : List Nat → List Int}
theorem zip_out {l i : Nat} {vs : List Int} (h : f i ≠ l) : ((is.filter fun i => f i == l).zip vs).lookup i = none :=
  lookup_out fun p hp => by
    have h1 := (List.of_mem_zip (show (p.1, p.2) ∈ _ from hp)).1
    have h2 : f p.1 = l := by simpa using (List.mem_filter.mp h1).2
    intro z
    rw [z] at h2
    exact h h2
theorem lookup_parts (hD : ∀ g, (D g).length = g.length) (i : Nat) : ∀ (ks : List Nat), ks.Nodup →
    (((ks.map fun l => is.filter fun i => f i == l).flatten).zip ((ks.map fun l => D (is.filter fun i => f i == l)).flatten)).lookup i = if f i ∈ ks then ((is.filter fun j => f j == f i).zip (D (is.filter fun j => f j == f i))).lookup i else none
  | [], _ => by simp
  | l :: ks, hn => by
    rw [List.nodup_cons] at hn
    have ih := lookup_parts hD i ks hn.2
    rw [List.map_cons, List.map_cons, List.flatten_cons, List.flatten_cons, List.zip_append (hD _).symm, lookup_app, ih]
    by_cases h : f i = l
    · subst h
      rw [if_neg hn.1, if_pos List.mem_cons_self, Option.or_none]
    · rw [zip_out h, Option.none_or]
      by_cases hm : f i ∈ ks
      · rw [if_pos hm, if_pos (List.mem_cons_of_mem _ hm)]
      · rw [if_neg hm, if_neg (by rw [List.mem_cons, not_or]; exact ⟨h, hm⟩)]
theorem parts_same (hD : ∀ g, (D g).length = g.length) {n : Nat} {ks ks' : List Nat} (hn : ks.Nodup) (hn' : ks'.Nodup) (h : ∀ i ∈ is, f i ∈ ks) (h' : ∀ i ∈ is, f i ∈ ks') :
    spr n (ks.map fun l => is.filter fun i => f i == l).flatten (ks.map fun l => D (is.filter fun i => f i == l)).flatten = spr n (ks'.map fun l => is.filter fun i => f i == l).flatten (ks'.map fun l => D (is.filter fun i => f i == l)).flatten := by
  unfold spr
  refine List.map_congr_left fun i _ => ?_
  have key : ∀ ks : List Nat, ks.Nodup → (∀ i ∈ is, f i ∈ ks) → (((ks.map fun l => is.filter fun i => f i == l).flatten).zip ((ks.map fun l => D (is.filter fun i => f i == l)).flatten)).lookup i = ((is.filter fun j => f j == f i).zip (D (is.filter fun j => f j == f i))).lookup i := fun ks hn hk => by
    rw [lookup_parts hD i ks hn]
    by_cases hm : f i ∈ ks
    · rw [if_pos hm]
    · rw [if_neg hm, lookup_out fun p hp => ?_]
      have h1 := (List.of_mem_zip (show (p.1, p.2) ∈ _ from hp)).1
      obtain ⟨h2, h3⟩ := List.mem_filter.mp h1
      exact fun _ => hm (by rw [← (show f p.1 = f i by simpa using h3)]; exact hk _ h2)
  rw [key ks hn h, key ks' hn' h']
theorem parts_nodup (hi : is.Nodup) : ∀ {ks : List Nat}, ks.Nodup → (ks.map fun l => is.filter fun i => f i == l).flatten.Nodup
  | [], _ => by simp
  | l :: ks, hn => by
    rw [List.nodup_cons] at hn
    rw [List.map_cons, List.flatten_cons]
    refine List.nodup_append.mpr ⟨hi.filter _, parts_nodup hi hn.2, fun x hx y hy z => ?_⟩
    subst z
    have h1 : f x = l := by simpa using (List.mem_filter.mp hx).2
    obtain ⟨g, hg, hy⟩ := List.mem_flatten.mp hy
    obtain ⟨l', hl', rfl⟩ := List.mem_map.mp hg
    have h2 : f x = l' := by simpa using (List.mem_filter.mp hy).2
    exact hn.1 (by rw [← h1, h2]; exact hl')
end
theorem parted_cut {n N : Nat} {ow ab : List Nat} {pr : List Int} (cut : Int → Int) (hn : ab.Nodup) (hN : ∀ i ∈ ab, ow.getD i 0 < N) :
    spr n ((parted (fun i => ow.getD i 0) ab).map Prod.snd).flatten (((parted (fun i => ow.getD i 0) ab).map Prod.snd).map fun g => dl (cut (qs pr g).sum) (qs pr g)).flatten = spr n ab (gdl cut (byLine N (ab.map fun i => ow.getD i 0)) (qs pr ab)) := by
  have ok := parted_ok (fun i => ow.getD i 0) ab
  rw [by_line_cut cut hn, ok.snds]
  generalize hks : (parted (fun i => ow.getD i 0) ab).map Prod.fst = ks at *
  have nd : ks.Nodup := by rw [← hks]; exact ok.nd
  have al : ∀ i ∈ ab, ow.getD i 0 ∈ ks := by rw [← hks]; exact ok.all
  unfold owns
  rw [List.map_map, List.map_map]
  exact parts_same (f := fun i => ow.getD i 0) (is := ab) (D := fun g => dl (cut (qs pr g).sum) (qs pr g)) (fun g => by rw [dl_len, qs_len]) nd List.nodup_range al fun i hi => by simpa using hN i hi
theorem parted_len (f : Nat → Nat) : ∀ (is : List Nat), (parted f is).length ≤ is.length := by
  intro is
  have key : ∀ (is : List Nat) (G : List (Nat × List Nat)), (is.foldl (fun G a => ins G (f a) a) G).length ≤ G.length + is.length := by
    intro is
    induction is with
    | nil => intro G; simp
    | cons a is ih =>
      intro G
      have h1 := ih (ins G (f a) a)
      have h2 : (ins G (f a) a).length ≤ G.length + 1 := by
        have := congrArg List.length (ins_keys G (f a) a)
        rw [List.length_map] at this
        rw [this]
        split <;> simp
      rw [List.foldl_cons, List.length_cons]
      omega
  simpa [parted] using key is []
end Vs
namespace Vs
open Kin Deal
def fallP (pr : List Int) (is : List Nat) : List Nat := (ordQ (qs pr is)).map fun j => is.getD j 0
theorem range_getD (is : List Nat) : (List.range is.length).map (fun j => is.getD j 0) = is := by
  apply List.ext_getElem
  · simp
  · intro j h1 h2
    simp [List.getD_eq_getElem?_getD, h2]
theorem fallP_perm (pr : List Int) (is : List Nat) : (fallP pr is).Perm is := by
  have h := (ordQ_perm (qs pr is)).map fun j => is.getD j 0
  rw [qs_len, range_getD] at h
  exact h
def befP (pr : List Int) (a b : Nat) : Prop := pr.getD b 0 < pr.getD a 0 ∨ (pr.getD a 0 = pr.getD b 0 ∧ a < b)
theorem fallP_pw {pr : List Int} {is : List Nat} (hs : is.Pairwise (· < ·)) : (fallP pr is).Pairwise (befP pr) := by
  have h := (ordQ_fall (qs pr is)).2
  have hm := (ordQ_fall (qs pr is)).1
  unfold fallP
  rw [List.pairwise_map]
  refine h.imp_of_mem fun {a b} ha hb hab => ?_
  have la : a < is.length := by simpa [qs_len] using hm.mem_iff.mp ha
  have lb : b < is.length := by simpa [qs_len] using hm.mem_iff.mp hb
  have ea : (qs pr is).getD a 0 = pr.getD (is.getD a 0) 0 := by simp [qs, List.getD_eq_getElem?_getD, la]
  have eb : (qs pr is).getD b 0 = pr.getD (is.getD b 0) 0 := by simp [qs, List.getD_eq_getElem?_getD, lb]
  unfold bef at hab
  unfold befP
  rw [ea, eb] at hab
  rcases hab with z | ⟨z1, z2⟩
  · exact .inl z
  · refine .inr ⟨z1, ?_⟩
    have := List.pairwise_iff_getElem.mp hs a b la lb z2
    simpa [List.getD_eq_getElem?_getD, la, lb] using this
theorem fallP_only {pr : List Int} {is ks : List Nat} (hs : is.Pairwise (· < ·)) (hp : ks.Perm is) (hk : ks.Pairwise (befP pr)) : ks = fallP pr is :=
  pw_unique (R := befP pr) (fun a b h h' => by unfold befP at h h'; omega) (hp.trans (fallP_perm pr is).symm) hk (fallP_pw hs)
theorem grp_map (m : Nat) (f : Nat → Nat) (r : List Nat) : grp m (r.map f) = (grp m r).map fun g => g.map f := by
  unfold grp
  rw [List.length_map, List.map_map]
  refine List.map_congr_left fun g _ => ?_
  show ((r.map f).drop _).take _ = ((r.drop _).take _).map f
  rw [List.map_take, List.map_drop]
theorem grp_mem {m : Nat} {r g : List Nat} (h : g ∈ grp m r) : ∀ j ∈ g, j ∈ r := fun j hj => by
  obtain ⟨i, _, rfl⟩ := List.mem_map.mp h
  exact List.mem_of_mem_drop (List.mem_of_mem_take hj)
theorem group_cut {n : Nat} {ab : List Nat} {pr : List Int} (cut : Int → Int) (hn : ab.Nodup) (gs : List (List Nat)) (hg : ∀ g ∈ gs, ∀ j ∈ g, j < ab.length) :
    spr n ab (gdl cut gs (qs pr ab)) = spr n (gs.map fun g => g.map fun j => ab.getD j 0).flatten ((gs.map fun g => g.map fun j => ab.getD j 0).map fun o => dl (cut (qs pr o).sum) (qs pr o)).flatten := by
  unfold gdl
  rw [qs_len, spr_spr hn fun j hj => ?_, List.map_flatten, List.map_map]
  · congr 2
    refine List.map_congr_left fun g hg' => ?_
    have e := qs_qs (pr := pr) (ab := ab) (g := g) (hg g hg')
    show dl (cut (qs (qs pr ab) g).sum) (qs (qs pr ab) g) = dl (cut (qs pr (g.map fun j => ab.getD j 0)).sum) (qs pr (g.map fun j => ab.getD j 0))
    rw [e]
  · obtain ⟨g, hg', hj'⟩ := List.mem_flatten.mp hj
    exact hg g hg' j hj'
theorem ord_lt {pr : List Int} {is : List Nat} {m : Nat} {g : List Nat} (h : g ∈ grp m (ordQ (qs pr is))) : ∀ j ∈ g, j < is.length := fun j hj => by
  have := ordQ_lt (grp_mem h j hj)
  rwa [qs_len] at this
theorem bund_cut {n m : Nat} {is : List Nat} {pr : List Int} (cut : Int → Int) (hn : is.Nodup) :
    spr n is (gdl cut (grp m (ordQ (qs pr is))) (qs pr is)) = spr n (grp m (fallP pr is)).flatten ((grp m (fallP pr is)).map fun o => dl (cut (qs pr o).sum) (qs pr o)).flatten := by
  rw [group_cut cut hn _ fun g hg => ord_lt hg]
  unfold fallP
  rw [grp_map]
theorem lasts_map {f : Nat → Nat} {gs : List (List Nat)} (h : ∀ g ∈ gs, g ≠ []) : lasts (gs.map fun g => g.map f) = (lasts gs).map f := by
  unfold lasts
  rw [List.map_map, List.map_map]
  refine List.map_congr_left fun g hg => ?_
  show (g.map f).getLastD 0 = f (g.getLastD 0)
  have hne := h g hg
  rw [List.getLastD_eq_getLast?, List.getLastD_eq_getLast?, List.getLast?_map, List.getLast?_eq_some_getLast hne]
  rfl
theorem dl_one (c : Int) : dl c [c] = [c] := by
  unfold dl
  by_cases h : [c].sum = 0
  · rw [if_pos h]
    have : c = 0 := by simpa using h
    simp [this]
  · rw [if_neg h]
    have hc : c ≠ 0 := by simpa using h
    have e : part c [c] 0 = c := by
      unfold part pre
      simp [Int.mul_ediv_cancel _ hc]
    simp [List.range_succ, e]
theorem singles (f : Nat → Int) : ∀ (l : List Nat), (l.map fun i => [i]).flatten = l ∧ (l.map fun i => [f i]).flatten = l.map f
  | [] => ⟨rfl, rfl⟩
  | a :: l => by
    obtain ⟨h1, h2⟩ := singles f l
    simp [h1, h2]
theorem cheap_cut {n m : Nat} {is : List Nat} {pr : List Int} (hm : 0 < m) (hn : is.Nodup) :
    spr n is (spr (qs pr is).length (lasts (grp m (ordQ (qs pr is)))) (qs (qs pr is) (lasts (grp m (ordQ (qs pr is)))))) = spr n (lasts (grp m (fallP pr is))) ((lasts (grp m (fallP pr is))).map fun i => pr.getD i 0) := by
  have ne : ∀ g ∈ grp m (ordQ (qs pr is)), g ≠ [] := fun g hg z => by
    obtain ⟨i, hi⟩ := List.mem_iff_getElem?.mp hg
    have := (grp_at hi).2.1
    rw [z] at this
    simp at this
    omega
  have hl : ∀ j ∈ lasts (grp m (ordQ (qs pr is))), j < is.length := fun j hj => by
    obtain ⟨g, hg, rfl⟩ := List.mem_map.mp hj
    refine ord_lt hg _ ?_
    rw [List.getLastD_eq_getLast?, List.getLast?_eq_some_getLast (ne g hg)]
    exact List.getLast_mem _
  rw [qs_len, spr_spr hn hl, qs_qs hl]
  have e : lasts (grp m (fallP pr is)) = (lasts (grp m (ordQ (qs pr is)))).map fun j => is.getD j 0 := by
    unfold fallP
    rw [grp_map, lasts_map ne]
  rw [e]
  rfl
theorem spr_zero {n k : Nat} {is : List Nat} : spr n is (List.replicate k 0) = List.replicate n 0 := by
  unfold spr
  apply List.ext_getElem
  · simp
  · intro j h1 h2
    simp only [List.getElem_map, List.getElem_range, List.getElem_replicate]
    cases e : (is.zip (List.replicate k (0 : Int))).lookup j with
    | none => rfl
    | some v =>
      obtain ⟨i, _, hv⟩ := lookup_zip e
      have := List.eq_of_mem_replicate (List.mem_of_getElem? hv)
      rw [this]
      rfl
theorem fallP_nodup {pr : List Int} {is : List Nat} (hn : is.Nodup) : (fallP pr is).Nodup := (fallP_perm pr is).nodup_iff.mpr hn
theorem grp_len (m : Nat) (r : List Nat) : (grp m r).length ≤ r.length := by
  unfold grp
  rw [List.length_map, List.length_range]
  exact Nat.div_le_self _ _
end Vs
namespace Vs
open PySem L2
def top (i : Nat) : Stmt := PySem.Challenge.pw_voucherstack_k15_carriage_and_most.main.body.getD i (.Pass ⟨0, 0, 0, 0⟩)
abbrev s_dealt : Stmt := top 2
abbrev s_under : Stmt := top 4
abbrev s_price_of_piece : Stmt := top 16
abbrev s_about : Stmt := top 19
abbrev s_fits : Stmt := top 20
abbrev s_cuts : Stmt := top 21
abbrev s_after : Stmt := top 22
abbrev s_cuts_of_pieces : Stmt := top 23
abbrev s_cut_of_carriage : Stmt := top 24
abbrev s_wanted_cuts : Stmt := top 25
abbrev s_parted_by_line : Stmt := top 26
abbrev s_falling_groups : Stmt := top 27
abbrev s_marked_behind : Stmt := top 28
abbrev s_prices_of : Stmt := top 29
abbrev s_sum_of_prices : Stmt := top 30
abbrev s_at_most : Stmt := top 31
abbrev s__law_whole : Stmt := top 33
abbrev s__law_mix : Stmt := top 34
abbrev s__law_coin : Stmt := top 35
abbrev s__law_parents : Stmt := top 36
abbrev s__law_basket : Stmt := top 37
abbrev s__law_under : Stmt := top 38
abbrev s__law_about : Stmt := top 39
abbrev s__law_dealt : Stmt := top 40
abbrev s__law_cut_is : Stmt := top 41
abbrev s__law_spread : Stmt := top 42
abbrev s__law_right : Stmt := top 43
abbrev s__law_groups : Stmt := top 44
abbrev s__law_wanted : Stmt := top 45
abbrev s__law_sort_by : Stmt := top 46
abbrev s__law_made : Stmt := top 47
abbrev s_law : Stmt := top 48
abbrev s_Marks_init : Stmt := inClass (top 6) 0
abbrev s_Voucher_init : Stmt := inClass (top 7) 0
abbrev s_Off_init : Stmt := inClass (top 8) 0
abbrev s_Share_init : Stmt := inClass (top 9) 0
abbrev s_Cheapest_init : Stmt := inClass (top 10) 0
abbrev s_Bundle_init : Stmt := inClass (top 11) 0
abbrev s_Carriage_init : Stmt := inClass (top 12) 0
abbrev s_Line_init : Stmt := inClass (top 14) 0
abbrev s_Basket_init : Stmt := inClass (top 15) 0
abbrev s_Standing_init : Stmt := inClass (top 17) 0
structure D where
  f_dealt : Addr
  fd_dealt : FuncData
  f_under : Addr
  fd_under : FuncData
  f_price_of_piece : Addr
  fd_price_of_piece : FuncData
  f_about : Addr
  fd_about : FuncData
  f_fits : Addr
  fd_fits : FuncData
  f_cuts : Addr
  fd_cuts : FuncData
  f_after : Addr
  fd_after : FuncData
  f_cuts_of_pieces : Addr
  fd_cuts_of_pieces : FuncData
  f_cut_of_carriage : Addr
  fd_cut_of_carriage : FuncData
  f_wanted_cuts : Addr
  fd_wanted_cuts : FuncData
  f_parted_by_line : Addr
  fd_parted_by_line : FuncData
  f_falling_groups : Addr
  fd_falling_groups : FuncData
  f_marked_behind : Addr
  fd_marked_behind : FuncData
  f_prices_of : Addr
  fd_prices_of : FuncData
  f_sum_of_prices : Addr
  fd_sum_of_prices : FuncData
  f_at_most : Addr
  fd_at_most : FuncData
  f__law_whole : Addr
  fd__law_whole : FuncData
  f__law_mix : Addr
  fd__law_mix : FuncData
  f__law_coin : Addr
  fd__law_coin : FuncData
  f__law_parents : Addr
  fd__law_parents : FuncData
  f__law_basket : Addr
  fd__law_basket : FuncData
  f__law_under : Addr
  fd__law_under : FuncData
  f__law_about : Addr
  fd__law_about : FuncData
  f__law_dealt : Addr
  fd__law_dealt : FuncData
  f__law_cut_is : Addr
  fd__law_cut_is : FuncData
  f__law_spread : Addr
  fd__law_spread : FuncData
  f__law_right : Addr
  fd__law_right : FuncData
  f__law_groups : Addr
  fd__law_groups : FuncData
  f__law_wanted : Addr
  fd__law_wanted : FuncData
  f__law_sort_by : Addr
  fd__law_sort_by : FuncData
  f__law_made : Addr
  fd__law_made : FuncData
  f_law : Addr
  fd_law : FuncData
  c_Marks : Addr
  f_Marks_init : Addr
  fd_Marks_init : FuncData
  tok1_Marks_init : Nat
  c_Voucher : Addr
  f_Voucher_init : Addr
  fd_Voucher_init : FuncData
  c_Off : Addr
  f_Off_init : Addr
  fd_Off_init : FuncData
  c_Share : Addr
  f_Share_init : Addr
  fd_Share_init : FuncData
  c_Cheapest : Addr
  f_Cheapest_init : Addr
  fd_Cheapest_init : FuncData
  c_Bundle : Addr
  f_Bundle_init : Addr
  fd_Bundle_init : FuncData
  c_Carriage : Addr
  f_Carriage_init : Addr
  fd_Carriage_init : FuncData
  c_Line : Addr
  f_Line_init : Addr
  fd_Line_init : FuncData
  c_Basket : Addr
  f_Basket_init : Addr
  fd_Basket_init : FuncData
  tok0_Basket_init : Nat
  c_Standing : Addr
  f_Standing_init : Addr
  fd_Standing_init : FuncData
  cc_falling_groups : Addr
  tP_falling_groups : Addr
structure Wld (K : PySem.W.Frag) (mg : Str → Option Value) (d : D) : Prop where
  B : TxtB mg
  d_dealt : Dn K mg "dealt" s_dealt ["cut", "weights"] d.f_dealt d.fd_dealt
  d_under : Dn K mg "under" s_under ["parents", "one", "other"] d.f_under d.fd_under
  d_price_of_piece : Dn K mg "price_of_piece" s_price_of_piece ["line", "member"] d.f_price_of_piece d.fd_price_of_piece
  d_about : Dn K mg "about" s_about ["voucher", "parents", "basket", "standing"] d.f_about d.fd_about
  d_fits : Dn K mg "fits" s_fits ["marks", "parents", "kind", "marked"] d.f_fits d.fd_fits
  d_cuts : Dn K mg "cuts" s_cuts ["voucher", "parents", "basket", "standing"] d.f_cuts d.fd_cuts
  d_after : Dn K mg "after" s_after ["voucher", "parents", "basket", "standing"] d.f_after d.fd_after
  d_cuts_of_pieces : Dn K mg "cuts_of_pieces" s_cuts_of_pieces ["voucher", "parents", "basket", "standing"] d.f_cuts_of_pieces d.fd_cuts_of_pieces
  d_cut_of_carriage : Dn K mg "cut_of_carriage" s_cut_of_carriage ["voucher", "standing"] d.f_cut_of_carriage d.fd_cut_of_carriage
  d_wanted_cuts : Dn K mg "wanted_cuts" s_wanted_cuts ["voucher", "standing", "pieces"] d.f_wanted_cuts d.fd_wanted_cuts
  d_parted_by_line : Dn K mg "parted_by_line" s_parted_by_line ["standing", "pieces"] d.f_parted_by_line d.fd_parted_by_line
  d_falling_groups : Dn K mg "falling_groups" s_falling_groups ["standing", "pieces", "many"] d.f_falling_groups d.fd_falling_groups
  d_marked_behind : Dn K mg "marked_behind" s_marked_behind ["voucher", "standing", "piece_cuts"] d.f_marked_behind d.fd_marked_behind
  d_prices_of : Dn K mg "prices_of" s_prices_of ["standing", "pieces"] d.f_prices_of d.fd_prices_of
  d_sum_of_prices : Dn K mg "sum_of_prices" s_sum_of_prices ["standing", "pieces"] d.f_sum_of_prices d.fd_sum_of_prices
  d_at_most : Dn K mg "at_most" s_at_most ["most", "number"] d.f_at_most d.fd_at_most
  d__law_whole : Dn K mg "_law_whole" s__law_whole ["_law_found"] d.f__law_whole d.fd__law_whole
  d__law_mix : Dn K mg "_law_mix" s__law_mix ["_law_cell", "_law_factor", "_law_prime"] d.f__law_mix d.fd__law_mix
  d__law_coin : Dn K mg "_law_coin" s__law_coin ["_law_cell"] d.f__law_coin d.fd__law_coin
  d__law_parents : Dn K mg "_law_parents" s__law_parents ["_law_script"] d.f__law_parents d.fd__law_parents
  d__law_basket : Dn K mg "_law_basket" s__law_basket ["_law_script", "_law_kinds"] d.f__law_basket d.fd__law_basket
  d__law_under : Dn K mg "_law_under" s__law_under ["_law_parents_here", "_law_one", "_law_other"] d.f__law_under d.fd__law_under
  d__law_about : Dn K mg "_law_about" s__law_about ["_law_parents_here", "_law_basket_here", "_law_standing", "_law_kind", "_law_lone"] d.f__law_about d.fd__law_about
  d__law_dealt : Dn K mg "_law_dealt" s__law_dealt ["_law_cut", "_law_weights"] d.f__law_dealt d.fd__law_dealt
  d__law_cut_is : Dn K mg "_law_cut_is" s__law_cut_is ["_law_found", "_law_due", "_law_fee"] d.f__law_cut_is d.fd__law_cut_is
  d__law_spread : Dn K mg "_law_spread" s__law_spread ["_law_standing", "_law_pieces", "_law_parts"] d.f__law_spread d.fd__law_spread
  d__law_right : Dn K mg "_law_right" s__law_right ["_law_voucher", "_law_parents_here", "_law_basket_here", "_law_standing", "_law_due", "_law_fee"] d.f__law_right d.fd__law_right
  d__law_groups : Dn K mg "_law_groups" s__law_groups ["_law_prices", "_law_many"] d.f__law_groups d.fd__law_groups
  d__law_wanted : Dn K mg "_law_wanted" s__law_wanted ["_law_sort", "_law_a", "_law_b", "_law_standing", "_law_pieces"] d.f__law_wanted d.fd__law_wanted
  d__law_sort_by : Dn K mg "_law_sort_by" s__law_sort_by ["_law_cell"] d.f__law_sort_by d.fd__law_sort_by
  d__law_made : Dn K mg "_law_made" s__law_made ["_law_sort", "_law_a", "_law_b", "_law_marks"] d.f__law_made d.fd__law_made
  d_law : Dn K mg "law" s_law ["_law_script"] d.f_law d.fd_law
  c_Marks : ClsT K mg "Marks" d.c_Marks
  n_Marks_kind : NoAttr K d.c_Marks "kind"
  n_Marks_needs : NoAttr K d.c_Marks "needs"
  n_Marks_most : NoAttr K d.c_Marks "most"
  n_Marks_member : NoAttr K d.c_Marks "member"
  n_Marks_once : NoAttr K d.c_Marks "once"
  n_Marks_lone : NoAttr K d.c_Marks "lone"
  m_Marks_init : MthT K d.c_Marks "__init__" "Marks.__init__" s_Marks_init ["self", "kind", "needs", "most", "member", "once", "lone"] d.f_Marks_init d.fd_Marks_init
  b1_Marks_init : Binds K d.fd_Marks_init ["self", "kind", "needs", "most", "member", "once", "lone"] [.bool false]
  b2_Marks_init : Binds K d.fd_Marks_init ["self", "kind", "needs", "most", "member", "once", "lone"] [.bool false, .bool false]
  b3_Marks_init : Binds K d.fd_Marks_init ["self", "kind", "needs", "most", "member", "once", "lone"] [.bool false, .bool false, .bool false]
  b4_Marks_init : Binds K d.fd_Marks_init ["self", "kind", "needs", "most", "member", "once", "lone"] [.none, .bool false, .bool false, .bool false]
  b5_Marks_init : Binds K d.fd_Marks_init ["self", "kind", "needs", "most", "member", "once", "lone"] [.int 0 d.tok1_Marks_init, .none, .bool false, .bool false, .bool false]
  b6_Marks_init : Binds K d.fd_Marks_init ["self", "kind", "needs", "most", "member", "once", "lone"] [.none, .int 0 d.tok1_Marks_init, .none, .bool false, .bool false, .bool false]
  c_Voucher : ClsT K mg "Voucher" d.c_Voucher
  m_Voucher_init : MthT K d.c_Voucher "__init__" "Voucher.__init__" s_Voucher_init ["self", "marks"] d.f_Voucher_init d.fd_Voucher_init
  b1_Voucher_init : Binds K d.fd_Voucher_init ["self", "marks"] [.none]
  g_Off : mg "Off" = some (.ref d.c_Off)
  c_Off : ClsT K mg "Off" d.c_Off
  n_Off_amount : NoAttr K d.c_Off "amount"
  n_Off_marks : NoAttr K d.c_Off "marks"
  m_Off_init : MthT K d.c_Off "__init__" "Off.__init__" s_Off_init ["self", "amount", "marks"] d.f_Off_init d.fd_Off_init
  b1_Off_init : Binds K d.fd_Off_init ["self", "amount", "marks"] [.none]
  g_Share : mg "Share" = some (.ref d.c_Share)
  c_Share : ClsT K mg "Share" d.c_Share
  n_Share_share : NoAttr K d.c_Share "share"
  n_Share_by_line : NoAttr K d.c_Share "by_line"
  n_Share_marks : NoAttr K d.c_Share "marks"
  m_Share_init : MthT K d.c_Share "__init__" "Share.__init__" s_Share_init ["self", "share", "by_line", "marks"] d.f_Share_init d.fd_Share_init
  b1_Share_init : Binds K d.fd_Share_init ["self", "share", "by_line", "marks"] [.none]
  b2_Share_init : Binds K d.fd_Share_init ["self", "share", "by_line", "marks"] [.bool false, .none]
  g_Cheapest : mg "Cheapest" = some (.ref d.c_Cheapest)
  c_Cheapest : ClsT K mg "Cheapest" d.c_Cheapest
  n_Cheapest_many : NoAttr K d.c_Cheapest "many"
  n_Cheapest_marks : NoAttr K d.c_Cheapest "marks"
  m_Cheapest_init : MthT K d.c_Cheapest "__init__" "Cheapest.__init__" s_Cheapest_init ["self", "many", "marks"] d.f_Cheapest_init d.fd_Cheapest_init
  b1_Cheapest_init : Binds K d.fd_Cheapest_init ["self", "many", "marks"] [.none]
  g_Bundle : mg "Bundle" = some (.ref d.c_Bundle)
  c_Bundle : ClsT K mg "Bundle" d.c_Bundle
  n_Bundle_many : NoAttr K d.c_Bundle "many"
  n_Bundle_price : NoAttr K d.c_Bundle "price"
  n_Bundle_marks : NoAttr K d.c_Bundle "marks"
  m_Bundle_init : MthT K d.c_Bundle "__init__" "Bundle.__init__" s_Bundle_init ["self", "many", "price", "marks"] d.f_Bundle_init d.fd_Bundle_init
  b1_Bundle_init : Binds K d.fd_Bundle_init ["self", "many", "price", "marks"] [.none]
  g_Carriage : mg "Carriage" = some (.ref d.c_Carriage)
  c_Carriage : ClsT K mg "Carriage" d.c_Carriage
  n_Carriage_marks : NoAttr K d.c_Carriage "marks"
  m_Carriage_init : MthT K d.c_Carriage "__init__" "Carriage.__init__" s_Carriage_init ["self", "marks"] d.f_Carriage_init d.fd_Carriage_init
  b1_Carriage_init : Binds K d.fd_Carriage_init ["self", "marks"] [.none]
  c_Line : ClsT K mg "Line" d.c_Line
  n_Line_kind : NoAttr K d.c_Line "kind"
  n_Line_price : NoAttr K d.c_Line "price"
  n_Line_many : NoAttr K d.c_Line "many"
  n_Line_special : NoAttr K d.c_Line "special"
  m_Line_init : MthT K d.c_Line "__init__" "Line.__init__" s_Line_init ["self", "kind", "price", "many", "special"] d.f_Line_init d.fd_Line_init
  b1_Line_init : Binds K d.fd_Line_init ["self", "kind", "price", "many", "special"] [.none]
  c_Basket : ClsT K mg "Basket" d.c_Basket
  n_Basket_lines : NoAttr K d.c_Basket "lines"
  n_Basket_carriage : NoAttr K d.c_Basket "carriage"
  n_Basket_member : NoAttr K d.c_Basket "member"
  m_Basket_init : MthT K d.c_Basket "__init__" "Basket.__init__" s_Basket_init ["self", "lines", "carriage", "member"] d.f_Basket_init d.fd_Basket_init
  b1_Basket_init : Binds K d.fd_Basket_init ["self", "lines", "carriage", "member"] [.bool false]
  b2_Basket_init : Binds K d.fd_Basket_init ["self", "lines", "carriage", "member"] [.int 0 d.tok0_Basket_init, .bool false]
  c_Standing : ClsT K mg "Standing" d.c_Standing
  n_Standing_owners : NoAttr K d.c_Standing "owners"
  n_Standing_prices : NoAttr K d.c_Standing "prices"
  n_Standing_carriage : NoAttr K d.c_Standing "carriage"
  n_Standing_marked : NoAttr K d.c_Standing "marked"
  m_Standing_init : MthT K d.c_Standing "__init__" "Standing.__init__" s_Standing_init ["self", "basket"] d.f_Standing_init d.fd_Standing_init
  q_Voucher_init : BaseT K d.c_Voucher "__init__" d.f_Voucher_init
  k_Off_Carriage : PySem.W.kitOne K (.ref d.c_Off) (.ref d.c_Carriage) = some false
  k_Share_Carriage : PySem.W.kitOne K (.ref d.c_Share) (.ref d.c_Carriage) = some false
  k_Cheapest_Carriage : PySem.W.kitOne K (.ref d.c_Cheapest) (.ref d.c_Carriage) = some false
  k_Bundle_Carriage : PySem.W.kitOne K (.ref d.c_Bundle) (.ref d.c_Carriage) = some false
  k_Share_Off : PySem.W.kitOne K (.ref d.c_Share) (.ref d.c_Off) = some false
  k_Cheapest_Off : PySem.W.kitOne K (.ref d.c_Cheapest) (.ref d.c_Off) = some false
  k_Bundle_Off : PySem.W.kitOne K (.ref d.c_Bundle) (.ref d.c_Off) = some false
  k_Carriage_Off : PySem.W.kitOne K (.ref d.c_Carriage) (.ref d.c_Off) = some false
  k_Off_Share : PySem.W.kitOne K (.ref d.c_Off) (.ref d.c_Share) = some false
  k_Cheapest_Share : PySem.W.kitOne K (.ref d.c_Cheapest) (.ref d.c_Share) = some false
  k_Bundle_Share : PySem.W.kitOne K (.ref d.c_Bundle) (.ref d.c_Share) = some false
  k_Carriage_Share : PySem.W.kitOne K (.ref d.c_Carriage) (.ref d.c_Share) = some false
  k_Off_Cheapest : PySem.W.kitOne K (.ref d.c_Off) (.ref d.c_Cheapest) = some false
  k_Share_Cheapest : PySem.W.kitOne K (.ref d.c_Share) (.ref d.c_Cheapest) = some false
  k_Bundle_Cheapest : PySem.W.kitOne K (.ref d.c_Bundle) (.ref d.c_Cheapest) = some false
  k_Carriage_Cheapest : PySem.W.kitOne K (.ref d.c_Carriage) (.ref d.c_Cheapest) = some false
  k_Off_Bundle : PySem.W.kitOne K (.ref d.c_Off) (.ref d.c_Bundle) = some false
  k_Share_Bundle : PySem.W.kitOne K (.ref d.c_Share) (.ref d.c_Bundle) = some false
  k_Cheapest_Bundle : PySem.W.kitOne K (.ref d.c_Cheapest) (.ref d.c_Bundle) = some false
  k_Carriage_Bundle : PySem.W.kitOne K (.ref d.c_Carriage) (.ref d.c_Bundle) = some false
  code_falling_groups : d.fd_falling_groups.code = .ref d.cc_falling_groups
  ck_falling_groups : CodeK K d.cc_falling_groups d.tP_falling_groups
structure WB (K : PySem.W.Frag) (mg : Str → Option Value) (d : D) (base : Heap) : Prop extends Wld K mg d where
  blt : BltM mg base
end Vs
namespace Vs
open PySem L2 War Kin Deal
def LineAt (C : Addr) (H : Hp) (x : Addr) (r : Row) : Prop := ∃ (dx : Addr) (fs : List (Str × V)), H x = some (.ins C dx fs) ∧ fs.lookup ("kind" : Str) = some (.int r.kd) ∧ fs.lookup ("price" : Str) = some (.int r.pr) ∧ fs.lookup ("many" : Str) = some (.int r.mn) ∧ fs.lookup ("special" : Str) = some (oV r.ex)
abbrev Lines (C : Addr) (H : Hp) (ls : List Addr) (rs : List Row) : Prop := P2 (LineAt C H) ls rs
def BaskAt (C : Addr) (H : Hp) (b l : Addr) (cg : Int) (m : Bool) : Prop := ∃ (dx : Addr) (fs : List (Str × V)), H b = some (.ins C dx fs) ∧ fs.lookup ("lines" : Str) = some (.ref l) ∧ fs.lookup ("carriage" : Str) = some (.int cg) ∧ fs.lookup ("member" : Str) = some (.bl m)
def StandAt (C : Addr) (H : Hp) (x o p mk : Addr) (cg : Int) : Prop := ∃ (dx : Addr) (fs : List (Str × V)), H x = some (.ins C dx fs) ∧ fs.lookup ("owners" : Str) = some (.ref o) ∧ fs.lookup ("prices" : Str) = some (.ref p) ∧ fs.lookup ("carriage" : Str) = some (.int cg) ∧ fs.lookup ("marked" : Str) = some (.ref mk) ∧ fs.lookup ("whole" : Str) = none
section
variable {C : Addr} {H H' : Hp}
theorem LineAt.same {x : Addr} {r : Row} (s : Same H H') : LineAt C H x r → LineAt C H' x r := fun ⟨dx, fs, h, q⟩ => ⟨dx, fs, s _ _ h, q⟩
theorem Lines.same {ls : List Addr} {rs : List Row} (s : Same H H') (h : Lines C H ls rs) : Lines C H' ls rs := h.mono fun _ _ q => q.same s
theorem BaskAt.same {b l : Addr} {cg : Int} {m : Bool} (s : Same H H') : BaskAt C H b l cg m → BaskAt C H' b l cg m := fun ⟨dx, fs, h, q⟩ => ⟨dx, fs, s _ _ h, q⟩
theorem StandAt.same {x o p mk : Addr} {cg : Int} (s : Same H H') : StandAt C H x o p mk cg → StandAt C H' x o p mk cg := fun ⟨dx, fs, h, q⟩ => ⟨dx, fs, s _ _ h, q⟩
end
section
variable {H : Hp} {hd : Addr} {xs : List V} {o : HO}
theorem BaskAt.set {C b l : Addr} {cg : Int} {m : Bool} (h : H hd = some (.lst xs)) : BaskAt C H b l cg m → BaskAt C (upd H hd o) b l cg m := fun ⟨dx, fs, e, q⟩ => ⟨dx, fs, by rw [upd_ne (ne_of e h (by intro z; cases z))]; exact e, q⟩
theorem StandAt.set {C x a b c : Addr} {cg : Int} (h : H hd = some (.lst xs)) : StandAt C H x a b c cg → StandAt C (upd H hd o) x a b c cg := fun ⟨dx, fs, e, q⟩ => ⟨dx, fs, by rw [upd_ne (ne_of e h (by intro z; cases z))]; exact e, q⟩
theorem LineAt.set {C x : Addr} {r : Row} (h : H hd = some (.lst xs)) : LineAt C H x r → LineAt C (upd H hd o) x r := fun ⟨dx, fs, e, q⟩ => ⟨dx, fs, by rw [upd_ne (ne_of e h (by intro z; cases z))]; exact e, q⟩
theorem Lines.set {C : Addr} {ls : List Addr} {rs : List Row} (h : H hd = some (.lst xs)) (L : Lines C H ls rs) : Lines C (upd H hd o) ls rs := L.mono fun _ _ q => q.set h
end
structure Bask where
  rs : List Row
  cg : Int
  m : Bool
def BaskIs (CL CB : Addr) (H : Hp) (b : Addr) (B : Bask) : Prop := ∃ (l : Addr) (ls : List Addr), BaskAt CB H b l B.cg B.m ∧ H l = some (.lst (ls.map V.ref)) ∧ Lines CL H ls B.rs
theorem BaskIs.same {CL CB : Addr} {H H' : Hp} {b : Addr} {B : Bask} (s : Same H H') : BaskIs CL CB H b B → BaskIs CL CB H' b B := fun ⟨l, ls, h1, h2, h3⟩ => ⟨l, ls, h1.same s, s _ _ h2, h3.same s⟩
def iV (k : Nat) : V := .int (k : Int)
def StndIs (CS : Addr) (H : Hp) (x : Addr) (S : Stnd) : Prop := ∃ o p mk : Addr, StandAt CS H x o p mk S.cg ∧ H o = some (.lst (S.ow.map iV)) ∧ H p = some (.lst (S.pr.map V.int)) ∧ H mk = some (.lst (S.mkd.map V.bl))
theorem StndIs.same {CS : Addr} {H H' : Hp} {x : Addr} {S : Stnd} (s : Same H H') : StndIs CS H x S → StndIs CS H' x S := fun ⟨o, p, mk, h1, h2, h3, h4⟩ => ⟨o, p, mk, h1.same s, s _ _ h2, s _ _ h3, s _ _ h4⟩
theorem flat_iV (ns : List Nat) : (ns.map iV).all flatV = true := by
  rw [List.all_eq_true]
  intro x hx
  obtain ⟨n, _, rfl⟩ := List.mem_map.mp hx
  rfl
def ownN (rs : List Row) : List Nat := (rs.zipIdx.map fun p => List.replicate p.1.mn.toNat p.2).flatten
theorem own_ownN (rs : List Row) : (own rs).map V.int = (ownN rs).map iV := by
  unfold own ownN
  generalize rs.zipIdx = l
  induction l with
  | nil => rfl
  | cons p l ih =>
    rw [List.map_cons, List.flatten_cons, List.map_append, ih, List.map_cons, List.flatten_cons, List.map_append]
    congr 1
    simp [iV]
theorem ownN_lt (rs : List Row) {l : Nat} (h : l ∈ ownN rs) : l < rs.length := by
  unfold ownN at h
  obtain ⟨xs, h1, h2⟩ := List.mem_flatten.mp h
  obtain ⟨p, h3, rfl⟩ := List.mem_map.mp h1
  have e : l = p.2 := (List.mem_replicate.mp h2).2
  have q := List.mem_zipIdx h3
  omega
theorem ownN_len (rs : List Row) (h : ∀ r ∈ rs, r.Ok) : (ownN rs).length ≤ 60 * rs.length := by
  have e : (ownN rs).length = (own rs).length := by
    have := congrArg List.length (own_ownN rs)
    simpa using this.symm
  rw [e]
  exact own_len rs h
def pV : Option Nat → V
  | none => .non
  | some k => .int (k : Int)
theorem eq_int (a b : Nat) : decide (V.int (a : Int) = V.int (b : Int)) = decide (a = b) := by
  by_cases h : a = b
  · subst h; simp
  · have : ¬ (V.int (a : Int) = V.int (b : Int)) := by
      intro e
      injection e with e
      omega
    simp [h, this]
theorem map_zero {c : Int} {ws : List Int} (h : ws.sum = 0) : (dl c ws).map V.int = List.replicate ws.length (V.int 0) := by
  unfold dl
  rw [if_pos h]
  clear h
  induction ws with
  | nil => rfl
  | cons w ws ih => simpa [List.replicate_succ] using ih
theorem map_parts {c : Int} {ws : List Int} (h : ¬ ws.sum = 0) : dl c ws = (List.range ws.length).map (part c ws) := by
  unfold dl
  rw [if_neg h]
def spDealt (K : PySem.W.Frag) : Sp := fun vs H Q _ => ∃ (c : Int) (a : Addr) (ws : List Int), vs = [.int c, .ref a] ∧ SqL K H a (ws.map V.int) ∧ Nn ws ∧ ws.sum < 2 ^ 100 ∧ 0 ≤ c ∧ c < 2 ^ 64 ∧ ws.length ≤ 1000 ∧
  ∀ p, H p = none → Q (.ref p) (upd H p (.lst ((dl c ws).map V.int)))
def spUnder (K : PySem.W.Frag) : Sp := fun vs H Q _ => ∃ (a : Addr) (ps : List (Option Nat)) (one other : Nat), vs = [.ref a, .int one, .int other] ∧ SqL K H a (ps.map pV) ∧ Good ps ∧ one < ps.length ∧ Q (.bl (decide (other ∈ up ps one))) H
def spLineI (C : Addr) : Sp := fun vs H Q _ => ∃ (x dx : Addr) (r : Row), vs = [.ref x, .int r.kd, .int r.pr, .int r.mn, oV r.ex] ∧ H x = some (.ins C dx []) ∧ ∀ H', But x H H' → LineAt C H' x r → Q .non H'
def spBaskI (K : PySem.W.Frag) (C : Addr) : Sp := fun vs H Q _ => ∃ (x dx l : Addr) (cg : Int) (m : Bool) (xs : List V), vs = [.ref x, .ref l, .int cg, .bl m] ∧ H x = some (.ins C dx []) ∧ SqL K H l xs ∧
  ∀ (H' : Hp) (l' : Addr), But x H H' → H l' = none → H' l' = some (.lst xs) → BaskAt C H' x l' cg m → Q .non H'
def spPrice (CL : Addr) : Sp := fun vs H Q _ => ∃ (x : Addr) (m : Bool) (r : Row), vs = [.ref x, .bl m] ∧ LineAt CL H x r ∧ Q (.int (prc m r)) H
def spStandI (CL CB CS : Addr) : Sp := fun vs H Q _ => ∃ (x dx b l : Addr) (cg : Int) (m : Bool) (ls : List Addr) (rs : List Row), vs = [.ref x, .ref b] ∧ H x = some (.ins CS dx []) ∧ BaskAt CB H b l cg m ∧ H l = some (.lst (ls.map V.ref)) ∧ Lines CL H ls rs ∧ rs.length ≤ 12 ∧ (∀ r ∈ rs, r.Ok) ∧
  ∀ (H' : Hp) (o p mk : Addr), But x H H' → H o = none → H p = none → H mk = none → StandAt CS H' x o p mk cg → H' o = some (.lst ((own rs).map V.int)) → H' p = some (.lst ((prs m rs).map V.int)) → H' mk = some (.lst (List.replicate rs.length (.bl false))) → (∃ dx fs, H' x = some (.ins CS dx fs) ∧ fs.length ≤ 10) → Q .non H'
structure S3 (H0 : Hp) (x C dx : Addr) (fs : List (Str × V)) (o p mk : Addr) (a b c : List V) (H : Hp) : Prop where
  bt : But x H0 H
  ob : H x = some (.ins C dx fs)
  ho : H o = some (.lst a)
  hp : H p = some (.lst b)
  hm : H mk = some (.lst c)
structure Ds (H0 : Hp) (x o p mk : Addr) : Prop where
  fo : H0 o = none
  fp : H0 p = none
  fm : H0 mk = none
  ox : o ≠ x
  px : p ≠ x
  mx : mk ≠ x
  op : o ≠ p
  om : o ≠ mk
  pm : p ≠ mk
section
variable {H0 H H' : Hp} {x C dx o p mk : Addr} {fs : List (Str × V)} {a b c d : List V}
theorem S3.same (h : S3 H0 x C dx fs o p mk a b c H) (s : Same H H') : S3 H0 x C dx fs o p mk a b c H' := ⟨h.bt.same s, s _ _ h.ob, s _ _ h.ho, s _ _ h.hp, s _ _ h.hm⟩
theorem S3.setO (h : S3 H0 x C dx fs o p mk a b c H) (D : Ds H0 x o p mk) : S3 H0 x C dx fs o p mk d b c (upd H o (.lst d)) :=
  ⟨fun y u n e => ev_trans (h.bt y u n e) fun u' e' => ev_eq (by rw [upd_ne (ne_of_none e D.fo)]; exact e') fun t => tb_upd t (ne_of_none e D.fo) (nx h.ho), by rw [upd_ne D.ox.symm]; exact h.ob, upd_same, by rw [upd_ne D.op.symm]; exact h.hp, by rw [upd_ne D.om.symm]; exact h.hm⟩
theorem S3.setP (h : S3 H0 x C dx fs o p mk a b c H) (D : Ds H0 x o p mk) : S3 H0 x C dx fs o p mk a d c (upd H p (.lst d)) :=
  ⟨fun y u n e => ev_trans (h.bt y u n e) fun u' e' => ev_eq (by rw [upd_ne (ne_of_none e D.fp)]; exact e') fun t => tb_upd t (ne_of_none e D.fp) (nx h.hp), by rw [upd_ne D.px.symm]; exact h.ob, by rw [upd_ne D.op]; exact h.ho, upd_same, by rw [upd_ne D.pm.symm]; exact h.hm⟩
theorem S3.setM (h : S3 H0 x C dx fs o p mk a b c H) (D : Ds H0 x o p mk) : S3 H0 x C dx fs o p mk a b d (upd H mk (.lst d)) :=
  ⟨fun y u n e => ev_trans (h.bt y u n e) fun u' e' => ev_eq (by rw [upd_ne (ne_of_none e D.fm)]; exact e') fun t => tb_upd t (ne_of_none e D.fm) (nx h.hm), by rw [upd_ne D.mx.symm]; exact h.ob, by rw [upd_ne D.om]; exact h.ho, by rw [upd_ne D.pm]; exact h.hp, upd_same⟩
end
end Vs
namespace Vs
open PySem L2 War Kin Deal
def MksIs (C : Addr) (H : Hp) (x : Addr) (M : Mks) : Prop := ∃ (dx : Addr) (fs : List (Str × V)), H x = some (.ins C dx fs) ∧ fs.lookup ("kind" : Str) = some (pV M.kind) ∧ fs.lookup ("needs" : Str) = some (.int M.needs) ∧ fs.lookup ("most" : Str) = some (oV M.most) ∧ fs.lookup ("member" : Str) = some (.bl M.member) ∧ fs.lookup ("once" : Str) = some (.bl M.once) ∧ fs.lookup ("lone" : Str) = some (.bl M.lone)
theorem MksIs.same {C : Addr} {H H' : Hp} {x : Addr} {M : Mks} (s : Same H H') : MksIs C H x M → MksIs C H' x M := fun ⟨dx, fs, h, q⟩ => ⟨dx, fs, s _ _ h, q⟩
def SrtIs (fs : List (Str × V)) : Srt → Prop
  | .off a => fs.lookup ("amount" : Str) = some (.int a)
  | .share s b => fs.lookup ("share" : Str) = some (.int s) ∧ fs.lookup ("by_line" : Str) = some (.bl b)
  | .cheap n => fs.lookup ("many" : Str) = some (.int n)
  | .bund n p => fs.lookup ("many" : Str) = some (.int n) ∧ fs.lookup ("price" : Str) = some (.int p)
  | .carr => True
def clsOf (d : D) : Srt → Addr
  | .off _ => d.c_Off
  | .share _ _ => d.c_Share
  | .cheap _ => d.c_Cheapest
  | .bund _ _ => d.c_Bundle
  | .carr => d.c_Carriage
def here : Srt → Bool
  | .off _ => true
  | .share _ _ => true
  | .cheap _ => true
  | .bund _ _ => true
  | .carr => true
def ask_Off : Srt → Bool
  | .off _ => true
  | .share _ _ => false
  | .cheap _ => false
  | .bund _ _ => false
  | .carr => false
def ask_Share : Srt → Bool
  | .off _ => false
  | .share _ _ => true
  | .cheap _ => false
  | .bund _ _ => false
  | .carr => false
def ask_Cheapest : Srt → Bool
  | .off _ => false
  | .share _ _ => false
  | .cheap _ => true
  | .bund _ _ => false
  | .carr => false
def ask_Bundle : Srt → Bool
  | .off _ => false
  | .share _ _ => false
  | .cheap _ => false
  | .bund _ _ => true
  | .carr => false
def ask_Carriage : Srt → Bool
  | .off _ => false
  | .share _ _ => false
  | .cheap _ => false
  | .bund _ _ => false
  | .carr => true
def Tbs (d : D) (H : Hp) : Prop := TbAt d.tP_falling_groups H
theorem Tbs.same {d : D} {H H' : Hp} (s : Same H H') (h : Tbs d H) : Tbs d H' := s.tb h
def VchIs (d : D) (H : Hp) (v : Addr) (V : Vch) : Prop := ∃ (mA dx : Addr) (fs : List (Str × L2.V)), H v = some (.ins (clsOf d V.so) dx fs) ∧ fs.lookup ("marks" : Str) = some (.ref mA) ∧ SrtIs fs V.so ∧ MksIs d.c_Marks H mA V.ms ∧ here V.so = true ∧ Tbs d H
theorem VchIs.same {d : D} {H H' : Hp} {v : Addr} {V : Vch} (s : Same H H') : VchIs d H v V → VchIs d H' v V := fun ⟨mA, dx, fs, h1, h2, h3, h4, h5, h6⟩ => ⟨mA, dx, fs, s _ _ h1, h2, h3, h4.same s, h5, h6.same s⟩
def kds (B : Bask) : List Nat := B.rs.map fun r => r.kd.toNat
structure Wf (ps : List (Option Nat)) (B : Bask) (S : Stnd) : Prop where
  good : Good ps
  pl : ps.length ≤ 20
  kd : ∀ r ∈ B.rs, 0 ≤ r.kd ∧ r.kd < (ps.length : Int)
  ok : ∀ r ∈ B.rs, r.Ok
  nl : B.rs.length ≤ 12
  bc : 0 ≤ B.cg ∧ B.cg ≤ 1000000000000
  ow : S.ow = ownN B.rs
  lp : S.pr.length = S.ow.length
  lm : S.mkd.length = B.rs.length
  pr : ∀ z ∈ S.pr, 0 ≤ z ∧ z ≤ 1000000000000
  cg : 0 ≤ S.cg ∧ S.cg ≤ 1000000000000
  n64 : S.ow.length < 64
theorem Wf.np {ps : List (Option Nat)} {B : Bask} {S : Stnd} (W : Wf ps B S) : S.ow.length ≤ 720 := by
  have := ownN_len B.rs W.ok
  have := W.nl
  rw [W.ow]
  omega
theorem Wf.line {ps : List (Option Nat)} {B : Bask} {S : Stnd} (W : Wf ps B S) {i l : Nat} (h : S.ow[i]? = some l) : l < B.rs.length := by
  have hm := List.mem_of_getElem? h
  rw [W.ow] at hm
  exact ownN_lt _ hm
structure MksOk (ps : List (Option Nat)) (M : Mks) : Prop where
  kind : ∀ k, M.kind = some k → k < ps.length
  needs : 0 ≤ M.needs ∧ M.needs ≤ 1000000000000
  most : ∀ m, M.most = some m → 0 ≤ m ∧ m ≤ 1000000000000
def mks0 : Mks := ⟨none, 0, none, false, false, false⟩
def srtArgs : Srt → List V
  | .off a => [.int a]
  | .share s b => [.int s, .bl b]
  | .cheap n => [.int n]
  | .bund n p => [.int n, .int p]
  | .carr => []
def Mrk (CM : Addr) (H : Hp) (mv : V) (H' : Hp) (mA : Addr) : Prop := mv = .ref mA ∨ (mv = .non ∧ H mA = none ∧ MksIs CM H' mA mks0)
theorem MksIs.but {C x mA : Addr} {H H' : Hp} {M : Mks} (n : mA ≠ x) (b : But x H H') : MksIs C H mA M → MksIs C H' mA M := fun ⟨dx, fs, h, q⟩ => ⟨dx, fs, b _ _ n h, q⟩
theorem Mrk.but {CM x mA : Addr} {H H1 H2 : Hp} {mv : V} {o : HO} (hx : H x = some o) (b : But x H1 H2) : Mrk CM H mv H1 mA → Mrk CM H mv H2 mA
  | .inl e => .inl e
  | .inr ⟨e, f, h⟩ => .inr ⟨e, f, h.but (ne_of_none hx f).symm b⟩
def spMarksI (C : Addr) : Sp := fun vs H Q _ => ∃ (x dx : Addr) (M : Mks), vs = [.ref x, pV M.kind, .int M.needs, oV M.most, .bl M.member, .bl M.once, .bl M.lone] ∧ H x = some (.ins C dx []) ∧ ∀ H', But x H H' → MksIs C H' x M → Q .non H'
def spVoucherI (K : PySem.W.Frag) (CM : Addr) : Sp := fun vs H Q _ => ∃ (x C dx : Addr) (fs : List (Str × V)) (mv : V), vs = [.ref x, mv] ∧ H x = some (.ins C dx fs) ∧ Cls K C ∧ NoAttr K C "marks" ∧ fs.length ≤ 5 ∧ (mv = .non ∨ ∃ mA, mv = .ref mA) ∧
  ∀ (H' : Hp) (mA : Addr), But x H H' → Mrk CM H mv H' mA → H' x = some (.ins C dx (putF "marks" (.ref mA) fs)) → Q .non H'
def spSrtI (C CM : Addr) (is : Srt → Prop) : Sp := fun vs H Q _ => ∃ (x dx : Addr) (so : Srt) (mv : V), is so ∧ vs = .ref x :: (srtArgs so ++ [mv]) ∧ H x = some (.ins C dx []) ∧ (mv = .non ∨ ∃ mA, mv = .ref mA) ∧
  ∀ (H' : Hp) (mA : Addr) (fs : List (Str × V)), But x H H' → Mrk CM H mv H' mA → H' x = some (.ins C dx fs) → fs.lookup ("marks" : Str) = some (.ref mA) → SrtIs fs so → Q .non H'
theorem mk_marks {C : Addr} {H : Hp} {M : Mks} {R : Addr → Hp → Prop} {E : XK} (k : ∀ (H' : Hp) (x : Addr), Same H H' → H x = none → MksIs C H' x M → R x H') :
    ∀ x dx, H x = none → H dx = none → dx ≠ x → spMarksI C [.ref x, pV M.kind, .int M.needs, oV M.most, .bl M.member, .bl M.once, .bl M.lone] (upd (upd H dx (.own x)) x (.ins C dx [])) (fun v H2 => v = .non ∧ R x H2) E :=
  fun x dx nx nd _ => ⟨x, dx, M, rfl, upd_same, fun H' b l => ⟨rfl, k H' x (made_same nx nd b) nx l⟩⟩
theorem mk_vch {d : D} {H : Hp} {so : Srt} {mA : Addr} {M : Mks} {is : Srt → Prop} {R : Addr → Hp → Prop} {E : XK} (hi : is so) (hh : here so = true) (hM : MksIs d.c_Marks H mA M) (k : ∀ (H' : Hp) (x : Addr), Same H H' → H x = none → VchIs d H' x ⟨so, M⟩ → R x H') (htb : Tbs d H := by assumption) :
    ∀ x dx, H x = none → H dx = none → dx ≠ x → spSrtI (clsOf d so) d.c_Marks is (.ref x :: (srtArgs so ++ [.ref mA])) (upd (upd H dx (.own x)) x (.ins (clsOf d so) dx [])) (fun v H2 => v = .non ∧ R x H2) E :=
  fun x dx nx nd _ => ⟨x, dx, so, .ref mA, hi, rfl, upd_same, .inr ⟨mA, rfl⟩, fun H' mA' fs b hm h1 h2 h3 => by
    have e : mA' = mA := by
      rcases hm with e | ⟨e, _⟩
      · injection e with e
        exact e.symm
      · cases e
    subst e
    exact ⟨rfl, k H' x (made_same nx nd b) nx ⟨mA', dx, fs, h1, h2, h3, hM.same (made_same nx nd b), hh, htb.same (made_same nx nd b)⟩⟩⟩
theorem mk_carr {K : PySem.W.Frag} {d : D} {H : Hp} {mA : Addr} {M : Mks} {R : Addr → Hp → Prop} {E : XK} (_ : Cls K d.c_Carriage) (_ : NoAttr K d.c_Carriage "marks") (hM : MksIs d.c_Marks H mA M) (k : ∀ (H' : Hp) (x : Addr), Same H H' → H x = none → VchIs d H' x ⟨.carr, M⟩ → R x H') (htb : Tbs d H := by assumption) :
    ∀ x dx, H x = none → H dx = none → dx ≠ x → spSrtI d.c_Carriage d.c_Marks (fun so => so = .carr) [.ref x, .ref mA] (upd (upd H dx (.own x)) x (.ins d.c_Carriage dx [])) (fun v H2 => v = .non ∧ R x H2) E := mk_vch (so := .carr) (is := fun so => so = .carr) rfl rfl hM k htb
def spMix : Sp := fun vs H Q _ => ∃ (c f p : Int), vs = [.int c, .int f, .int p] ∧ (-(2 ^ 64) < f ∧ f < 2 ^ 64) ∧ 0 < p ∧ Q (.int (c * f % p)) H
def spWholeI : Sp := fun vs H Q _ => ∃ n : Int, vs = [.int n] ∧ Q (.bl true) H
def spCoin : Sp := fun vs H Q _ => ∃ c : Int, vs = [.int c] ∧ ∀ (H' : Hp) (z : Int), Same H H' → 0 ≤ z → z ≤ 1000000000000 → Q (.int z) H'
def spPar (K : PySem.W.Frag) : Sp := fun vs H Q _ => ∃ (a : Addr) (ns : List Int), vs = [.ref a] ∧ SqL K H a (ns.map V.int) ∧ ns.length ≤ 63 ∧
  ∀ (H' : Hp) (p : Addr) (ps : List (Option Nat)), Same H H' → H p = none → H' p = some (.lst (ps.map pV)) → Good ps → ps.length ≤ 20 → 0 < ps.length → Q (.ref p) H'
def spBas (K : PySem.W.Frag) (CL CB : Addr) : Sp := fun vs H Q _ => ∃ (a : Addr) (ns : List Int) (n : Nat), vs = [.ref a, .int n] ∧ SqL K H a (ns.map V.int) ∧ ns.length ≤ 63 ∧ 0 < n ∧
  ∀ (H' : Hp) (b : Addr) (B : Bask), Same H H' → H b = none → BaskIs CL CB H' b B → B.rs.length ≤ 12 → (∀ r ∈ B.rs, r.Ok) → (∀ r ∈ B.rs, 0 ≤ r.kd ∧ r.kd < (n : Int)) → 0 ≤ B.cg ∧ B.cg ≤ 1000000000000 → (ownN B.rs).length < 64 → Q (.ref b) H'
def spLAbout (K : PySem.W.Frag) (CL CB CS : Addr) : Sp := fun vs H Q _ => ∃ (a b x : Addr) (ps : List (Option Nat)) (B : Bask) (S : Stnd) (kind : Option Nat) (lone : Bool), vs = [.ref a, .ref b, .ref x, pV kind, .bl lone] ∧ SqL K H a (ps.map pV) ∧ BaskIs CL CB H b B ∧ StndIs CS H x S ∧ Wf ps B S ∧
  ∀ p, H p = none → Q (.ref p) (upd H p (.lst ((abt ps (kds B) kind lone S).map iV)))
end Vs
namespace Vs
open PySem L2 War Kin Deal
theorem mk_line {CL : Addr} {H : Hp} {r : Row} {R : Addr → Hp → Prop} {E : XK} (k : ∀ (H' : Hp) (x : Addr), Same H H' → H x = none → LineAt CL H' x r → R x H') :
    ∀ x dx, H x = none → H dx = none → dx ≠ x → spLineI CL [.ref x, .int r.kd, .int r.pr, .int r.mn, oV r.ex] (upd (upd H dx (.own x)) x (.ins CL dx [])) (fun v H2 => v = .non ∧ R x H2) E :=
  fun x dx nx nd _ => ⟨x, dx, r, rfl, upd_same, fun H' b l => ⟨rfl, k H' x (made_same nx nd b) nx l⟩⟩
theorem mk_bask {K : PySem.W.Frag} {CB : Addr} {H : Hp} {l : Addr} {cg : Int} {m : Bool} {xs : List V} {R : Addr → Hp → Prop} {E : XK} (hl : SqL K H l xs) (k : ∀ (H' : Hp) (x l' : Addr), Same H H' → H x = none → H l' = none → H' l' = some (.lst xs) → BaskAt CB H' x l' cg m → R x H') :
    ∀ x dx, H x = none → H dx = none → dx ≠ x → spBaskI K CB [.ref x, .ref l, .int cg, .bl m] (upd (upd H dx (.own x)) x (.ins CB dx [])) (fun v H2 => v = .non ∧ R x H2) E :=
  fun x dx nx nd _ => ⟨x, dx, l, cg, m, xs, rfl, upd_same, (made_same' nx nd).seq hl, fun H' l' b n h1 h2 => ⟨rfl, k H' x l' (made_same nx nd b) nx (made_none n) h1 h2⟩⟩
theorem mk_stand {CL CB CS : Addr} {H : Hp} {b l : Addr} {cg : Int} {m : Bool} {ls : List Addr} {rs : List Row} {R : Addr → Hp → Prop} {E : XK} (hb : BaskAt CB H b l cg m) (hl : H l = some (.lst (ls.map V.ref))) (hL : Lines CL H ls rs) (hn : rs.length ≤ 12) (hok : ∀ r ∈ rs, r.Ok)
    (k : ∀ (H' : Hp) (x o p mk : Addr), Same H H' → H x = none → H o = none → H p = none → H mk = none → StandAt CS H' x o p mk cg → H' o = some (.lst ((own rs).map V.int)) → H' p = some (.lst ((prs m rs).map V.int)) → H' mk = some (.lst (List.replicate rs.length (.bl false))) → R x H') :
    ∀ x dx, H x = none → H dx = none → dx ≠ x → spStandI CL CB CS [.ref x, .ref b] (upd (upd H dx (.own x)) x (.ins CS dx [])) (fun v H2 => v = .non ∧ R x H2) E :=
  fun x dx nx nd _ => ⟨x, dx, b, l, cg, m, ls, rs, rfl, upd_same, hb.same (made_same' nx nd), made_some nx nd hl, hL.same (made_same' nx nd), hn, hok, fun H' o p mk bt n1 n2 n3 S h1 h2 h3 _ => ⟨rfl, k H' x o p mk (made_same nx nd bt) nx (made_none n1) (made_none n2) (made_none n3) S h1 h2 h3⟩⟩
structure VchOk (ps : List (Option Nat)) (V : Vch) : Prop where
  so : SrtOk V.so
  ms : MksOk ps V.ms
def stnd0 (B : Bask) : Stnd := ⟨ownN B.rs, prs B.m B.rs, B.cg, List.replicate B.rs.length false⟩
theorem mk_stnd {CL CB CS : Addr} {H : Hp} {b : Addr} {B : Bask} {R : Addr → Hp → Prop} {E : XK} (hb : BaskIs CL CB H b B) (hn : B.rs.length ≤ 12) (hok : ∀ r ∈ B.rs, r.Ok) (k : ∀ (H' : Hp) (x : Addr), Same H H' → H x = none → StndIs CS H' x (stnd0 B) → R x H') :
    ∀ x dx, H x = none → H dx = none → dx ≠ x → spStandI CL CB CS [.ref x, .ref b] (upd (upd H dx (.own x)) x (.ins CS dx [])) (fun v H2 => v = .non ∧ R x H2) E := by
  obtain ⟨l, ls, h1, h2, h3⟩ := hb
  refine mk_stand h1 h2 h3 hn hok fun H' x o p mk s f1 _ _ _ hS ho hp hm => k H' x s f1 ⟨o, p, mk, hS, ?_, hp, ?_⟩
  · rw [ho, own_ownN]
    rfl
  · rw [hm]
    show _ = some (HO.lst ((List.replicate B.rs.length false).map V.bl))
    rw [List.map_replicate]
theorem prc_ok {m : Bool} {r : Row} (h : r.Ok) : 0 ≤ prc m r ∧ prc m r ≤ 1000000000000 := by
  unfold prc
  split
  · cases e : r.ex with
    | none => exact ⟨h.pr0, h.pr1⟩
    | some z => exact h.ex0 z e
  · exact ⟨h.pr0, h.pr1⟩
theorem prs_own' (m : Bool) : ∀ (rs : List Row) (k : Nat), (rs.map fun r => List.replicate r.mn.toNat (prc m r)).flatten.length = ((rs.zipIdx k).map fun p => List.replicate p.1.mn.toNat (p.2 : Int)).flatten.length
  | [], _ => by simp
  | r :: rs, k => by
    rw [List.zipIdx_cons, List.map_cons, List.flatten_cons, List.length_append, List.length_replicate, List.map_cons, List.flatten_cons, List.length_append, List.length_replicate, prs_own' m rs (k + 1)]
theorem prs_own (m : Bool) (rs : List Row) : (prs m rs).length = (ownN rs).length := by
  have e : (ownN rs).length = (own rs).length := by
    have := congrArg List.length (own_ownN rs)
    simpa using this.symm
  rw [e]
  exact prs_own' m rs 0
theorem Wf.start {ps : List (Option Nat)} {B : Bask} (g : Good ps) (pl : ps.length ≤ 20) (kd : ∀ r ∈ B.rs, 0 ≤ r.kd ∧ r.kd < (ps.length : Int)) (ok : ∀ r ∈ B.rs, r.Ok) (nl : B.rs.length ≤ 12) (bc : 0 ≤ B.cg ∧ B.cg ≤ 1000000000000) (n64 : (ownN B.rs).length < 64) : Wf ps B (stnd0 B) := by
  refine ⟨g, pl, kd, ok, nl, bc, rfl, prs_own _ _, by simp [stnd0], fun z hz => ?_, bc, n64⟩
  obtain ⟨xs, h1, h2⟩ := List.mem_flatten.mp hz
  obtain ⟨r, hr, rfl⟩ := List.mem_map.mp h1
  rw [(List.mem_replicate.mp h2).2]
  exact prc_ok (ok r hr)
theorem Wf.nn {ps : List (Option Nat)} {B : Bask} {S : Stnd} (W : Wf ps B S) : Nn S.pr := fun z hz => (W.pr z hz).1
theorem Wf.after {ps : List (Option Nat)} {B : Bask} {S : Stnd} {V : Vch} (W : Wf ps B S) (O : VchOk ps V) : Wf ps B (aftM V ps (kds B) S) := by
  have h := aft_pr (V := V) (ps := ps) (kk := kds B) W.nn W.cg.1 O.so fun m e => (O.ms.most m e).1
  refine ⟨W.good, W.pl, W.kd, W.ok, W.nl, W.bc, W.ow, h.1.1.trans W.lp, by rw [← W.lm]; simp [aftM], fun z hz => ?_, ⟨h.2.1, Int.le_trans h.2.2 W.cg.2⟩, W.n64⟩
  obtain ⟨j, e1⟩ := List.mem_iff_getElem?.mp hz
  have hj : j < S.pr.length := by
    rw [← h.1.1]
    exact (List.getElem?_eq_some_iff.mp e1).1
  have e2 : S.pr[j]? = some S.pr[j] := by simp [hj]
  have b := h.1.2 j z _ e1 e2
  have c := W.pr _ (List.mem_of_getElem? e2)
  exact ⟨b.1, Int.le_trans b.2 c.2⟩
def spAbout (K : PySem.W.Frag) (d : D) : Sp := fun vs H Q _ => ∃ (v a b x : Addr) (V : Vch) (ps : List (Option Nat)) (B : Bask) (S : Stnd), vs = [.ref v, .ref a, .ref b, .ref x] ∧ VchIs d H v V ∧ SqL K H a (ps.map pV) ∧ BaskIs d.c_Line d.c_Basket H b B ∧ StndIs d.c_Standing H x S ∧ Wf ps B S ∧ VchOk ps V ∧
  ∀ (H' : Hp) (p : Addr), Same H H' → H p = none → H' p = some (.lst ((abt ps (kds B) V.ms.kind V.ms.lone S).map iV)) → Q (.ref p) H'
def spCuts (K : PySem.W.Frag) (d : D) : Sp := fun vs H Q _ => ∃ (v a b x : Addr) (V : Vch) (ps : List (Option Nat)) (B : Bask) (S : Stnd), vs = [.ref v, .ref a, .ref b, .ref x] ∧ VchIs d H v V ∧ SqL K H a (ps.map pV) ∧ BaskIs d.c_Line d.c_Basket H b B ∧ StndIs d.c_Standing H x S ∧ Wf ps B S ∧ VchOk ps V ∧
  ∀ (H' : Hp) (t p : Addr), Same H H' → H t = none → H p = none → H' t = some (.tup [.ref p, .int (cutM V ps (kds B) S).2]) → H' p = some (.lst ((cutM V ps (kds B) S).1.map L2.V.int)) → Q (.ref t) H'
def spAfter (K : PySem.W.Frag) (d : D) : Sp := fun vs H Q _ => ∃ (v a b x : Addr) (V : Vch) (ps : List (Option Nat)) (B : Bask) (S : Stnd), vs = [.ref v, .ref a, .ref b, .ref x] ∧ VchIs d H v V ∧ SqL K H a (ps.map pV) ∧ BaskIs d.c_Line d.c_Basket H b B ∧ StndIs d.c_Standing H x S ∧ Wf ps B S ∧ VchOk ps V ∧
  ∀ (H' : Hp) (x' : Addr), Same H H' → H x' = none → StndIs d.c_Standing H' x' (aftM V ps (kds B) S) → Q (.ref x') H'
theorem cl_of {K : PySem.W.Frag} {mg : Str → Option Value} {d : D} {base : Heap} (W : WB K mg d base) : ∀ {so : Srt}, here so = true → Cls K (clsOf d so)
  | .off _, h => W.c_Off.cl
  | .share _ _, h => W.c_Share.cl
  | .cheap _, h => W.c_Cheapest.cl
  | .bund _ _, h => W.c_Bundle.cl
  | .carr, h => W.c_Carriage.cl
theorem na_of {K : PySem.W.Frag} {mg : Str → Option Value} {d : D} {base : Heap} (W : WB K mg d base) : ∀ {so : Srt}, here so = true → NoAttr K (clsOf d so) "marks"
  | .off _, h => W.n_Off_marks
  | .share _ _, h => W.n_Share_marks
  | .cheap _, h => W.n_Cheapest_marks
  | .bund _ _, h => W.n_Bundle_marks
  | .carr, h => W.n_Carriage_marks
theorem isi_of {K : PySem.W.Frag} {mg : Str → Option Value} {d : D} {base : Heap} (W : WB K mg d base) : ∀ {so : Srt}, here so = true → Isi K (clsOf d so)
  | .off _, h => W.c_Off.isi
  | .share _ _, h => W.c_Share.isi
  | .cheap _, h => W.c_Cheapest.isi
  | .bund _ _, h => W.c_Bundle.isi
  | .carr, h => W.c_Carriage.isi
theorem kit_Carriage {K : PySem.W.Frag} {mg : Str → Option Value} {d : D} {base : Heap} (W : WB K mg d base) : ∀ {so : Srt}, here so = true → PySem.W.kitOne K (.ref (clsOf d so)) (.ref d.c_Carriage) = some (ask_Carriage so)
  | .off _, h => W.k_Off_Carriage
  | .share _ _, h => W.k_Share_Carriage
  | .cheap _, h => W.k_Cheapest_Carriage
  | .bund _ _, h => W.k_Bundle_Carriage
  | .carr, h => kit_same _ _
theorem kit_Off {K : PySem.W.Frag} {mg : Str → Option Value} {d : D} {base : Heap} (W : WB K mg d base) : ∀ {so : Srt}, here so = true → PySem.W.kitOne K (.ref (clsOf d so)) (.ref d.c_Off) = some (ask_Off so)
  | .off _, h => kit_same _ _
  | .share _ _, h => W.k_Share_Off
  | .cheap _, h => W.k_Cheapest_Off
  | .bund _ _, h => W.k_Bundle_Off
  | .carr, h => W.k_Carriage_Off
theorem kit_Share {K : PySem.W.Frag} {mg : Str → Option Value} {d : D} {base : Heap} (W : WB K mg d base) : ∀ {so : Srt}, here so = true → PySem.W.kitOne K (.ref (clsOf d so)) (.ref d.c_Share) = some (ask_Share so)
  | .off _, h => W.k_Off_Share
  | .share _ _, h => kit_same _ _
  | .cheap _, h => W.k_Cheapest_Share
  | .bund _ _, h => W.k_Bundle_Share
  | .carr, h => W.k_Carriage_Share
theorem kit_Cheapest {K : PySem.W.Frag} {mg : Str → Option Value} {d : D} {base : Heap} (W : WB K mg d base) : ∀ {so : Srt}, here so = true → PySem.W.kitOne K (.ref (clsOf d so)) (.ref d.c_Cheapest) = some (ask_Cheapest so)
  | .off _, h => W.k_Off_Cheapest
  | .share _ _, h => W.k_Share_Cheapest
  | .cheap _, h => kit_same _ _
  | .bund _ _, h => W.k_Bundle_Cheapest
  | .carr, h => W.k_Carriage_Cheapest
theorem kit_Bundle {K : PySem.W.Frag} {mg : Str → Option Value} {d : D} {base : Heap} (W : WB K mg d base) : ∀ {so : Srt}, here so = true → PySem.W.kitOne K (.ref (clsOf d so)) (.ref d.c_Bundle) = some (ask_Bundle so)
  | .off _, h => W.k_Off_Bundle
  | .share _ _, h => W.k_Share_Bundle
  | .cheap _, h => W.k_Cheapest_Bundle
  | .bund _ _, h => kit_same _ _
  | .carr, h => W.k_Carriage_Bundle
theorem flat_bls (bs : List Bool) : (bs.map V.bl).all flatV = true := by
  rw [List.all_eq_true]
  intro x hx
  obtain ⟨n, _, rfl⟩ := List.mem_map.mp hx
  rfl
theorem flat_zs (bs : List Int) : (bs.map V.int).all flatV = true := by
  rw [List.all_eq_true]
  intro x hx
  obtain ⟨n, _, rfl⟩ := List.mem_map.mp hx
  rfl
theorem deq4 {K : PySem.W.Frag} {H : Hp} {n : Nat} {a b c e a' b' c' e' : V} (h1 : DEq K H n a a') (h2 : DEq K H n b b') (h3 : DEq K H n c c') (h4 : DEq K H n e e') :
    ∀ (i : Nat) (x y : V), ([a, b, c, e] : List V)[i]? = some x → ([a', b', c', e'] : List V)[i]? = some y → DEq K H n x y
  | 0, x, y, e1, e2 => by cases e1; cases e2; exact h1
  | 1, x, y, e1, e2 => by cases e1; cases e2; exact h2
  | 2, x, y, e1, e2 => by cases e1; cases e2; exact h3
  | 3, x, y, e1, e2 => by cases e1; cases e2; exact h4
  | i + 4, x, y, e1, e2 => by simp at e1
def spSpread (CS : Addr) : Sp := fun vs H Q _ => ∃ (x a b : Addr) (S : Stnd) (is : List Nat) (ws : List Int), vs = [.ref x, .ref a, .ref b] ∧ StndIs CS H x S ∧ H a = some (.lst (is.map iV)) ∧ H b = some (.lst (ws.map V.int)) ∧ is.length = ws.length ∧ is.Nodup ∧ (∀ i ∈ is, i < S.pr.length) ∧ S.pr.length ≤ 720 ∧
  ∀ (H' : Hp) (p : Addr), Same H H' → H p = none → H' p = some (.lst ((spr S.pr.length is ws).map V.int)) → Q (.ref p) H'
def spCutIs : Sp := fun vs H Q _ => ∃ (t p b : Addr) (ws : List Int) (f : Int), vs = [.ref t, .ref b, .int f] ∧ H t = some (.tup [.ref p, .int f]) ∧ H p = some (.lst (ws.map V.int)) ∧ H b = some (.lst (ws.map V.int)) ∧ Q (.bl true) H
theorem len_sub : ∀ {is L : List Nat}, is.Nodup → (∀ i ∈ is, i ∈ L) → is.length ≤ L.length
  | [], _, _, _ => Nat.zero_le _
  | a :: is, L, h, hs => by
    have ha := hs a List.mem_cons_self
    have hh := List.nodup_cons.mp h
    have h1 : is.length ≤ (L.erase a).length := len_sub hh.2 fun i hi => (List.mem_erase_of_ne (fun e : i = a => hh.1 (by rw [← e]; exact hi))).mpr (hs i (List.mem_cons_of_mem _ hi))
    rw [List.length_erase_of_mem ha] at h1
    have := List.length_pos_of_mem ha
    simp only [List.length_cons]
    omega
theorem nodup_len {is : List Nat} {n : Nat} (h : is.Nodup) (hl : ∀ i ∈ is, i < n) : is.length ≤ n := by
  have := len_sub (L := List.range n) h fun i hi => List.mem_range.mpr (hl i hi)
  simpa using this
def spRight (K : PySem.W.Frag) (d : D) : Sp := fun vs H Q _ => ∃ (v a b x du : Addr) (V : Vch) (ps : List (Option Nat)) (B : Bask) (S : Stnd), vs = [.ref v, .ref a, .ref b, .ref x, .ref du, .int (cutM V ps (kds B) S).2] ∧ VchIs d H v V ∧ SqL K H a (ps.map pV) ∧ BaskIs d.c_Line d.c_Basket H b B ∧ StndIs d.c_Standing H x S ∧ Wf ps B S ∧ VchOk ps V ∧ H du = some (.lst ((cutM V ps (kds B) S).1.map L2.V.int)) ∧
  ∀ (H' : Hp), Same H H' → Q (.bl true) H'
theorem kd_mod {n : Nat} {z : Int} (h : 0 < n) : ∃ kd : Option Nat, V.int (z % (n : Int)) = pV kd ∧ ∀ k, kd = some k → k < n := by
  have h1 := Int.emod_nonneg z (show (n : Int) ≠ 0 by omega)
  have h2 := Int.emod_lt_of_pos z (show (0 : Int) < n by omega)
  refine ⟨some (z % (n : Int)).toNat, ?_, fun k e => ?_⟩
  · show V.int _ = V.int _
    rw [Int.toNat_of_nonneg h1]
  · cases e
    omega
theorem pickI {zs : List Int} {m : Int} (h0 : 0 ≤ m) (h1 : m < (zs.length : Int)) : ∃ z, atI (zs.map V.int) m = some (.int z) ∧ z ∈ zs := by
  obtain ⟨j, rfl⟩ := Int.eq_ofNat_of_zero_le h0
  obtain ⟨z, ez⟩ := at_of (xs := zs) (i := j) (by omega)
  exact ⟨z, atI_nat (by rw [List.getElem?_map, ez]; rfl), List.mem_of_getElem? ez⟩
theorem sum_le_len {b : Int} : ∀ {q : List Int}, (∀ z ∈ q, z ≤ b) → q.sum ≤ b * q.length
  | [], _ => by simp
  | z :: q, h => by
    have h1 := h z List.mem_cons_self
    have h2 := sum_le_len (q := q) fun x hx => h x (List.mem_cons_of_mem _ hx)
    rw [List.sum_cons, List.length_cons]
    have e : b * ((q.length + 1 : Nat) : Int) = b * q.length + b := by rw [Int.natCast_add, Int.mul_add]; simp
    omega
theorem qs_sum {ps : List (Option Nat)} {B : Bask} {S : Stnd} (wf : Wf ps B S) {ab : List Nat} (hl : ab.length ≤ 720) (hb : ∀ i ∈ ab, i < S.pr.length) : (qs S.pr ab).sum ≤ 720000000000000 := by
  have h := sum_le_len (b := 1000000000000) (q := qs S.pr ab) fun z hz => by
    obtain ⟨i, hi, rfl⟩ := List.mem_map.mp hz
    obtain ⟨w, ew⟩ := at_of (hb i hi)
    rw [List.getD_eq_getElem?_getD, ew]
    exact (wf.pr w (List.mem_of_getElem? ew)).2
  rw [qs_len] at h
  omega
theorem cut_nat (xs : List V) (i k : Nat) : cutV xs (some (i : Int)) (some ((i + k : Nat) : Int)) = (xs.drop i).take k := by
  unfold cutV
  rw [HT.sIx_nat, HT.sIx_nat]
  by_cases h : i ≤ xs.length
  · rw [Nat.min_eq_left h, List.take_eq_take_iff, List.length_drop]
    omega
  · rw [List.drop_of_length_le (by omega), List.drop_of_length_le (by omega)]
    simp
theorem atI_lastD {α : Type} {xs : List α} {v : α} (h : xs[xs.length - 1]? = some v) (h0 : 0 < xs.length) : atI xs (-1) = some v := by
  unfold atI ixN
  rw [if_neg (by omega), if_pos (by omega)]
  show xs[(-1 + (xs.length : Int)).toNat]? = some v
  rw [show (-1 + (xs.length : Int)).toNat = xs.length - 1 by omega]
  exact h
theorem qs_at {q : List Int} {is : List Nat} {k i : Nat} {z : Int} (h : is[k]? = some i) (hz : q[i]? = some z) : (qs q is)[k]? = some z := by
  unfold qs
  rw [List.getElem?_map, h]
  show some (q.getD i 0) = some z
  rw [List.getD_eq_getElem?_getD, hz]
  rfl
theorem same_but {H0 H1 H2 : Hp} {x : Addr} (f : H0 x = none) (s : Same H0 H1) (b : But x H1 H2) : Same H0 H2 := fun y u e => ev_trans (s y u e) fun u' e' => b y u' (ne_of_none e f) e'
def spGroups (K : PySem.W.Frag) : Sp := fun vs H Q _ => ∃ (a : Addr) (q : List Int) (m : Nat), vs = [.ref a, .int m] ∧ SqL K H a (q.map V.int) ∧ q.length ≤ 720 ∧ 2 ≤ m ∧ m ≤ 20 ∧
  ∀ (H' : Hp) (p : Addr) (gl : List Addr), Same H H' → H p = none → H' p = some (.lst (gl.map V.ref)) → P2 (fun r g => H' r = some (.lst (g.map iV))) gl (grp m (ordQ q)) → (∀ r ∈ gl, H r = none) → Q (.ref p) H'
def atM (m : Option Int) (n : Int) : Int := match m with
  | none => n
  | some m => min m n
theorem none_of {H H' : Hp} (s : Same H H') {p : Addr} (h : H' p = none) : H p = none := s.free h
theorem but_fresh {x : Addr} {H H' : Hp} (b : But x H H') (n : H x = none) : Same H H' := fun y u e => b y u (ne_of_none e n) e
theorem mk_standF {CL CB CS : Addr} {H : Hp} {b l : Addr} {cg : Int} {m : Bool} {ls : List Addr} {rs : List Row} {R : Addr → Hp → Prop} {E : XK} (hb : BaskAt CB H b l cg m) (hl : H l = some (.lst (ls.map V.ref))) (hL : Lines CL H ls rs) (hn : rs.length ≤ 12) (hok : ∀ r ∈ rs, r.Ok)
    (k : ∀ (H' : Hp) (x : Addr), Same H H' → H x = none → ∀ (dx : Addr) (fs : List (Str × V)), H' x = some (.ins CS dx fs) → fs.length ≤ 10 → fs.lookup ("whole" : Str) = none → R x H') :
    ∀ x dx, H x = none → H dx = none → dx ≠ x → spStandI CL CB CS [.ref x, .ref b] (upd (upd H dx (.own x)) x (.ins CS dx [])) (fun v H2 => v = .non ∧ R x H2) E :=
  fun x dx nx nd _ => ⟨x, dx, b, l, cg, m, ls, rs, rfl, upd_same, hb.same (made_same' nx nd), made_some nx nd hl, hL.same (made_same' nx nd), hn, hok, fun H' o p mk bt n1 n2 n3 S h1 h2 h3 fw => by
    obtain ⟨dx', fs, e, hf⟩ := fw
    obtain ⟨dx2, fs2, e2, _, _, _, _, hw⟩ := S
    rw [e] at e2
    injection e2 with e2
    injection e2 with _ e3 e4
    subst e4
    exact ⟨rfl, k H' x (made_same nx nd bt) nx dx' fs e hf hw⟩⟩
theorem fee_cut {V : Vch} {ps : List (Option Nat)} {kk : List Nat} {S : Stnd} (vo : VchOk ps V) : (cutM V ps kk S).2 = if ask_Carriage V.so = true then atM V.ms.most S.cg else 0 := by
  have hm := vo.ms.most
  unfold cutM
  simp only
  cases e : V.ms.most with
  | none =>
    unfold cap atM
    simp only
    unfold fee ask_Carriage
    cases V.so <;> rfl
  | some m =>
    have h0 := (hm m e).1
    unfold cap atM
    simp only
    cases eso : V.so with
    | carr =>
      have hz : (want .carr S.mkd.length ((abt ps kk V.ms.kind V.ms.lone S).map fun i => S.ow.getD i 0) (qs S.pr (abt ps kk V.ms.kind V.ms.lone S))).sum = 0 := by
        unfold want
        simp
      show (if m < _ + S.cg then _ else _ : List Int × Int).2 = min m S.cg
      rw [hz, Int.zero_add]
      split
      · show min S.cg m = _
        omega
      · show S.cg = _
        omega
    | _ =>
      show (if m < _ + 0 then (_, min 0 m) else (_, 0) : List Int × Int).2 = 0
      split
      · show min 0 m = 0
        omega
      · rfl
theorem kds_at {B : Bask} {l : Nat} {r : Row} (h : B.rs[l]? = some r) : (kds B).getD l 0 = r.kd.toNat := by
  unfold kds
  rw [List.getD_eq_getElem?_getD, List.getElem?_map, h]
  rfl
theorem abt_step {ps : List (Option Nat)} {kk : List Nat} {kind : Option Nat} {lone : Bool} {S : Stnd} {i : Nat} :
    (List.range (i + 1)).filter (fun i => hits ps kk kind lone S.mkd (S.ow.getD i 0)) = (List.range i).filter (fun i => hits ps kk kind lone S.mkd (S.ow.getD i 0)) ++ (if hits ps kk kind lone S.mkd (S.ow.getD i 0) = true then [i] else []) := by
  rw [List.range_succ, List.filter_append]
  congr 1
  simp only [List.filter_cons, List.filter_nil]
def GrpAt (H H' : Hp) (pa : Addr) (t : Addr) (q : Int × List Nat) : Prop := ∃ ga, H' t = some (.tup [.int q.1, .ref ga]) ∧ H' ga = some (.lst (q.2.map iV)) ∧ (ga = pa ∨ H ga = none)
def spWanted (d : D) : Sp := fun vs H Q _ => ∃ (v x pa : Addr) (V : Vch) (ps : List (Option Nat)) (B : Bask) (S : Stnd), vs = [.ref v, .ref x, .ref pa] ∧ VchIs d H v V ∧ StndIs d.c_Standing H x S ∧ H pa = some (.lst ((abt ps (kds B) V.ms.kind V.ms.lone S).map iV)) ∧ Wf ps B S ∧ VchOk ps V ∧
  ∀ (H' : Hp) (p : Addr) (tl : List Addr) (gl : List (Int × List Nat)), Same H H' → H p = none → H' p = some (.lst (tl.map L2.V.ref)) → P2 (GrpAt H H' pa) tl gl → (∀ c g, (c, g) ∈ gl → 0 ≤ c ∧ c ≤ (qs S.pr g).sum ∧ g.length ≤ 720) → (gl.map Prod.snd).flatten.Nodup → (∀ i ∈ (gl.map Prod.snd).flatten, i < S.pr.length) → gl.length ≤ 720 →
    spr S.pr.length (gl.map Prod.snd).flatten (gl.map fun p => dl p.1 (qs S.pr p.2)).flatten = spr S.pr.length (abt ps (kds B) V.ms.kind V.ms.lone S) (want V.so S.mkd.length ((abt ps (kds B) V.ms.kind V.ms.lone S).map fun i => S.ow.getD i 0) (qs S.pr (abt ps (kds B) V.ms.kind V.ms.lone S))) → Q (.ref p) H'
section
variable {P : Program} {w : World} {K : PySem.W.Frag} {mg : Str → Option Value} {base : Heap} {d : D}
theorem sc_under : FnScope ["parents", "one", "other", "kind"] ["parents", "one", "other"] (defScope s_under) := ⟨rfl, rfl, rfl, by decide +kernel, rfl, by decide +kernel, by decide +kernel⟩
theorem ok_under (W : WB K mg d base) : FnOk P w K mg base CX0 1 d.f_under d.fd_under ["parents", "one", "other"] (spUnder K) := by
  refine FunD.ok W.d_under.F sc_under (fun vs H Q E h => ?_) (fun cdv A outer s H vs Q E hr h => ?_)
  · obtain ⟨a, ps, one, other, rfl, _⟩ := h
    rfl
  · obtain ⟨a, ps, one, other, rfl, hS, hg, ho, k⟩ := h
    refine ⟨_, pss_cons (ps_set (i := 3) sc_under.nd rfl (Or.inl rfl) (pv 1))
      (pss_cons (ps_while PassesOwn.never (pt_cmpR op_notN (pv 3) pe_non (nomark _))
      (pss_cons (ps_if (pt_cmpR op_eq (pv 3) (pv 2) (nomark _)) (pss_one (ps_ret pe_bl)) (pss_nil))
      (pss_one (ps_set (i := 3) sc_under.nd rfl (Or.inl rfl) (pe_ix (r := rIxL K) ix_list (pv 0) (pv 3) (fun _ _ => rfl))))))
      (pss_one (ps_ret pe_bl))), ?_⟩
    refine ⟨_, rfl, ?_⟩
    refine while_by (fun σ H' => ∃ o : Option Nat, σ = [some (.ref a), some (.int one), some (.int other), some (pV o)] ∧ H' = H ∧ (∀ i, o = some i → i < ps.length) ∧ decide (other ∈ up ps one) = decide (other ∈ rest ps o))
      (fun σ _ => match σ with | [_, _, _, some (.int i)] => i.toNat + 1 | _ => 0) ⟨some one, rfl, rfl, fun i e => by cases e; exact ho, rfl⟩ ?_ ?_
    · rintro σ H' ⟨o, rfl, rfl, hb, he⟩
      refine ⟨_, rfl, rfl, _, rfl, ?_⟩
      cases o with
      | none =>
        show if (!decide (V.non = V.non)) = true then _ else _
        rw [nn_non]
        refine iteF ?_
        show Q (.bl false) _
        have e : decide (other ∈ up ps one) = false := by rw [he]; simp [Kin.rest]
        rw [e] at k
        exact k
      | some i =>
        show if (!decide (V.int i = V.non)) = true then _ else _
        rw [nn_int]
        refine iteT ?_
        have hi := hb i rfl
        refine ⟨_, rfl, _, rfl, rfl, _, rfl, ?_⟩
        show if decide (V.int i = V.int other) = true then _ else _
        rw [eq_int]
        obtain ⟨o, eo⟩ : ∃ o, ps[i]? = some o := ⟨ps[i], by simp [hi]⟩
        refine ite2 (fun h => ?_) (fun h => ?_)
        · have h' : i = other := of_decide_eq_true h
          subst h'
          have e : decide (i ∈ up ps one) = true := by
            rw [he]
            show decide (i ∈ up ps i) = true
            rw [up_eq hg eo]
            simp
          rw [e] at k
          exact k
        · have h' : ¬ i = other := fun z => h (decide_eq_true z)
          refine ⟨_, rfl, _, rfl, a, _, _, pV o, rfl, rfl, hS, atI_nat (by simp [eo]), ?_⟩
          refine ⟨⟨o, rfl, rfl, fun j e => ?_, ?_⟩, ?_⟩
          · subst e
            have := hg i j eo
            omega
          · rw [he]
            show decide (other ∈ up ps i) = _
            rw [up_eq hg eo]
            have : ¬ other = i := fun z => h' z.symm
            simp [this]
          · cases o with
            | none => exact Nat.succ_pos _
            | some j =>
              have := hg i j eo
              show ((j : Int)).toNat + 1 < ((i : Int)).toNat + 1
              omega
    · rintro σ H' Q' Q'' hq ⟨v, h1, h2, h3⟩
      exact ⟨v, h1, h2, by obtain ⟨b, e, q⟩ := h3; exact ⟨b, e, hq _ _ q⟩⟩
theorem sc_dealt : FnScope ["cut", "weights", "total", "parts", "reached", "given", "weight", "share"] ["cut", "weights"] (defScope s_dealt) := ⟨rfl, rfl, rfl, by decide +kernel, rfl, by decide +kernel, by decide +kernel⟩
theorem ok_dealt (W : WB K mg d base) : FnOk P w K mg base CX0 1 d.f_dealt d.fd_dealt ["cut", "weights"] (spDealt K) := by
  refine FunD.ok W.d_dealt.F sc_dealt (fun vs H Q E h => ?_) (fun cdv A outer s H vs Q E hr h => ?_)
  · obtain ⟨c, a, ws, rfl, _⟩ := h
    rfl
  · obtain ⟨c, a, ws, rfl, hS, hn, hs, hc0, hc1, hl, k⟩ := h
    refine ⟨_, pss_cons (ps_set (i := 2) sc_dealt.nd rfl (Or.inl rfl) (pe_callB (call_sum rfl) (by rfl) W.B.sum b_sum (pa_cons (pv 1) pa_nil)))
      (pss_cons (ps_if (pt_cmpR op_eq (pv 2) pe_int (nomark _)) (pss_one (ps_ret (pe_comp (N := ["weight"]) (CompScope.plain rfl (by decide +kernel) (by decide +kernel) (by decide +kernel) (nd1 _)) rfl (pi_list (pv 1)) (fun _ _ _ _ => pg_name (i := 0) (nd1 _) rfl (Or.inl rfl)) (fun _ _ _ _ => pe_int)))) (pss_nil))
      (pss_cons (ps_set (i := 3) sc_dealt.nd rfl (Or.inl rfl) (pe_lst pa_nil))
      (pss_cons (ps_set (i := 4) sc_dealt.nd rfl (Or.inl rfl) pe_int)
      (pss_cons (ps_set (i := 5) sc_dealt.nd rfl (Or.inl rfl) pe_int)
      (pss_cons (ps_for PassesOwn.never rfl (pi_list (pv 1)) (pg_name (i := 6) sc_dealt.nd rfl (Or.inl rfl))
      (pss_cons (ps_aug (i := 4) sc_dealt.nd rfl (Or.inl rfl) (pv 6) ip_add)
      (pss_cons (ps_set (i := 7) sc_dealt.nd rfl (Or.inl rfl) (pe_op op_fdivB (pe_op op_mul (pv 0) (pv 4)) (pv 2)))
      (pss_cons (ps_expr (pe_bm PySem.F.plainAttrs_list PySem.F.slot_list_append PySem.F.type_list_append mt_append (pv 3) (pa_cons (pe_op op_sub (pv 7) (pv 5)) pa_nil)))
      (pss_one (ps_set (i := 5) sc_dealt.nd rfl (Or.inl rfl) (pv 7)))))))
      (pss_one (ps_ret (pv 3)))))))), ?_⟩
    refine ⟨_, rfl, a, ws, rfl, hS, _, rfl, rfl, _, rfl, ?_⟩
    refine ite2 (fun h => ?_) (fun h => ?_)
    · have h0 : ws.sum = 0 := by
        have e : V.int ws.sum = V.int 0 := of_decide_eq_true h
        injection e
      refine ⟨_, rfl, a, rfl, ⟨_, hS⟩, comp_list (xs := ws.map V.int) (fun i σ ys H' => H' = H ∧ ys = List.replicate i (V.int 0) ∧ ∃ v, σ = [v]) ⟨rfl, rfl, none, rfl⟩ ?_ ?_ ?_ ?_⟩
      · rw [List.length_map]
        exact Nat.le_of_lt (small1000 hl)
      · rintro i σ ys H' hi ⟨rfl, rfl, v, rfl⟩
        exact ⟨hS, by simp⟩
      · rintro i x σ ys H' hx ⟨rfl, rfl, v, rfl⟩
        exact ⟨rfl, by rw [List.replicate_succ'], _, rfl⟩
      · rintro σ ys H' ⟨rfl, rfl, v, rfl⟩ D hD
        have := k D hD
        rw [map_zero h0] at this
        rw [List.length_map]
        exact this
    · have h0 : ¬ ws.sum = 0 := fun e => h (by rw [e]; simp)
      have hpos : 0 < ws.sum := by
        have := sum_nn hn
        omega
      refine ⟨by decide, fun p hp => ?_⟩
      have s1 : ∀ o, Same H (upd H p o) := fun o => same_new hp
      refine ⟨_, rfl, a, rfl, ⟨_, (s1 _).seq hS⟩, for_list (K := K) (a := a) (xs := ws.map V.int) (fun i σ H' => H' = upd H p (.lst (((List.range i).map (part c ws)).map V.int)) ∧
        ∃ (v6 v7 : Option V), σ = [some (.int c), some (.ref a), some (.int ws.sum), some (.ref p), some (.int (pre ws i)), some (.int (c * pre ws i / ws.sum)), v6, v7])
        ⟨rfl, none, none, by simp [pre_zero]; rfl⟩ (fun i σ H' _ ⟨e, _⟩ => by rw [e]; exact (s1 _).seq hS) ?_ ?_⟩
      · rintro i x σ H' hi ⟨rfl, v6, v7, rfl⟩
        have hil : i < (ws.map V.int).length := (List.getElem?_eq_some_iff.mp hi).1
        rw [List.length_map] at hil
        obtain ⟨z, ez, rfl⟩ : ∃ z, ws[i]? = some z ∧ x = V.int z := by
          rw [List.getElem?_map] at hi
          cases e : ws[i]? with
          | none => rw [e] at hi; cases hi
          | some z => rw [e] at hi; exact ⟨z, rfl, (Option.some.inj hi).symm⟩
        have ep := pre_succ ez
        refine ⟨_, rfl, _, rfl, _, _, rfl, rfl, ?_⟩
        refine ⟨_, rfl, _, rfl, _, _, rfl, rfl, .inl ⟨by omega, by omega⟩, _, rfl, _, _, rfl, rfl, ⟨hpos, by omega⟩, ?_⟩
        refine ⟨_, rfl, .inl ⟨rfl, _, SqL.of upd_same⟩, _, rfl, _, rfl, _, _, rfl, rfl, p, _, _, rfl, rfl, upd_same, small1000 (by simp; omega), ?_⟩
        refine ⟨_, rfl, ?_, some (.int z), some (.int (c * (pre ws i + z) / ws.sum)), ?_⟩
        · rw [upd_upd, List.range_succ, List.map_append, List.map_append]
          show upd H p (.lst (_ ++ [V.int (c * (pre ws i + z) / ws.sum - c * pre ws i / ws.sum)])) = upd H p (.lst (_ ++ [V.int (part c ws i)]))
          unfold part
          rw [ep]
        · rw [ep]
          rfl
      · rintro σ H' ⟨rfl, v6, v7, rfl⟩
        refine ⟨_, rfl, ?_⟩
        have := k p hp
        rw [map_parts h0] at this
        rw [List.length_map]
        exact this
theorem sc_Marks_init : FnScope ["self", "kind", "needs", "most", "member", "once", "lone"] ["self", "kind", "needs", "most", "member", "once", "lone"] (defScope s_Marks_init) := ⟨rfl, rfl, rfl, by decide +kernel, rfl, by decide +kernel, by decide +kernel⟩
theorem ok_Marks_init (W : WB K mg d base) : FnOk P w K mg base CX0 1 d.f_Marks_init d.fd_Marks_init ["self", "kind", "needs", "most", "member", "once", "lone"] (spMarksI d.c_Marks) := by
  refine FunD.ok W.m_Marks_init.F sc_Marks_init (fun vs H Q E h => ?_) (fun cdv A outer s H vs Q E hr h => ?_)
  · obtain ⟨x, dx, M, rfl, _⟩ := h
    rfl
  · obtain ⟨x, dx, M, rfl, hx, k⟩ := h
    refine ⟨_, pss_cons (ps_fld (pv 0) (pv 1) rfl)
      (pss_cons (ps_fld (pv 0) (pv 2) rfl)
      (pss_cons (ps_fld (pv 0) (pv 3) rfl)
      (pss_cons (ps_fld (pv 0) (pv 4) rfl)
      (pss_cons (ps_fld (pv 0) (pv 5) rfl)
      (pss_one (ps_fld (pv 0) (pv 6) rfl)))))), ?_⟩
    refine ⟨_, rfl, _, rfl, x, d.c_Marks, dx, [], rfl, hx, W.c_Marks.cl, W.n_Marks_kind, by decide, ?_⟩
    refine ⟨_, rfl, _, rfl, x, d.c_Marks, dx, _, rfl, upd_same, W.c_Marks.cl, W.n_Marks_needs, few (Nat.le_trans (putF_len (n := 0) (Nat.le_refl _)) (by decide)), ?_⟩
    refine ⟨_, rfl, _, rfl, x, d.c_Marks, dx, _, rfl, upd_same, W.c_Marks.cl, W.n_Marks_most, few (Nat.le_trans (putF_len (putF_len (n := 0) (Nat.le_refl _))) (by decide)), ?_⟩
    refine ⟨_, rfl, _, rfl, x, d.c_Marks, dx, _, rfl, upd_same, W.c_Marks.cl, W.n_Marks_member, few (Nat.le_trans (putF_len (putF_len (putF_len (n := 0) (Nat.le_refl _)))) (by decide)), ?_⟩
    refine ⟨_, rfl, _, rfl, x, d.c_Marks, dx, _, rfl, upd_same, W.c_Marks.cl, W.n_Marks_once, few (Nat.le_trans (putF_len (putF_len (putF_len (putF_len (n := 0) (Nat.le_refl _))))) (by decide)), ?_⟩
    refine ⟨_, rfl, _, rfl, x, d.c_Marks, dx, _, rfl, upd_same, W.c_Marks.cl, W.n_Marks_lone, few (Nat.le_trans (putF_len (putF_len (putF_len (putF_len (putF_len (n := 0) (Nat.le_refl _)))))) (by decide)), ?_⟩
    refine k _ (But.trans (But.trans (But.trans (But.trans (But.trans but_self but_self) but_self) but_self) but_self) but_self) ⟨dx, _, upd_same, ?_, ?_, ?_, ?_, ?_, ?_⟩ <;> (repeat (first | rw [lookup_putF, if_pos rfl] | rw [lookup_putF, if_neg (by decide +kernel)]))
theorem sc_Voucher_init : FnScope ["self", "marks"] ["self", "marks"] (defScope s_Voucher_init) := ⟨rfl, rfl, rfl, by decide +kernel, rfl, by decide +kernel, by decide +kernel⟩
theorem ok_Voucher_init (W : WB K mg d base) : FnOk P w K mg base CX0 3 d.f_Voucher_init d.fd_Voucher_init ["self", "marks"] (spVoucherI K d.c_Marks) := by
  refine FunD.ok W.m_Voucher_init.F sc_Voucher_init (fun vs H Q E h => ?_) (fun cdv A outer s H vs Q E hr h => ?_)
  · obtain ⟨x, C, dx, fs, mv, rfl, _⟩ := h
    rfl
  · obtain ⟨x, C, dx, fs, mv, rfl, hx, hC, hN, hl, hm, k⟩ := h
    have G_Marks_init := ok_Marks_init (P := P) (w := w) (base := base) W
    refine ⟨_, pss_one (ps_fld (pv 0) (pe_ifExp (pt_cmpR op_isN (pv 1) pe_non (nomark _)) (pe_make0 (W.m_Marks_init.mk' W.c_Marks) G_Marks_init hr rfl W.c_Marks.m W.b6_Marks_init (show Vals [.non, .int 0, .non, .bl false, .bl false, .bl false] [.none, .int 0 d.tok1_Marks_init, .none, .bool false, .bool false, .bool false] from (.cons rfl (.cons ⟨_, rfl⟩ (.cons rfl (.cons rfl (.cons rfl (.cons rfl .nil))))))) pass0) (pv 1)) rfl), ?_⟩
    rcases hm with rfl | ⟨mA, rfl⟩
    · refine ⟨_, rfl, rfl, _, rfl, iteT ?_⟩
      refine mk_marks (M := mks0) fun H1 mA s1 f1 hM => ?_
      refine ⟨_, rfl, x, C, dx, fs, rfl, s1 _ _ hx, hC, hN, by omega, ?_⟩
      have hne : mA ≠ x := (ne_of_none hx f1).symm
      refine k _ mA ((But.of_same s1).trans (but_self (nx (s1 _ _ hx)))) (.inr ⟨rfl, f1, ?_⟩) upd_same
      exact hM.but hne (but_self (nx (s1 _ _ hx)))
    · refine ⟨_, rfl, rfl, _, rfl, iteF ?_⟩
      refine ⟨_, rfl, _, rfl, x, C, dx, fs, rfl, hx, hC, hN, by omega, ?_⟩
      exact k _ mA but_self (.inl rfl) upd_same
theorem sc_Off_init : FnScope ["self", "amount", "marks"] ["self", "amount", "marks"] (defScope s_Off_init) := ⟨rfl, rfl, rfl, by decide +kernel, rfl, by decide +kernel, by decide +kernel⟩
theorem ok_Off_init (W : WB K mg d base) : FnOk P w K mg base CX0 4 d.f_Off_init d.fd_Off_init ["self", "amount", "marks"] (spSrtI d.c_Off d.c_Marks (fun so => ∃ (a : Int), so = .off a)) := by
  refine FunD.ok W.m_Off_init.F sc_Off_init (fun vs H Q E h => ?_) (fun cdv A outer s H vs Q E hr h => ?_)
  · obtain ⟨x, dx, so, mv, ⟨a, rfl⟩, rfl, _⟩ := h
    rfl
  · obtain ⟨x, dx, so, mv, ⟨a, rfl⟩, rfl, hx, hm, k⟩ := h
    have G_Voucher_init := ok_Voucher_init (P := P) (w := w) (base := base) W
    refine ⟨_, pss_cons (ps_expr (pe_base W.q_Voucher_init G_Voucher_init hr rfl W.c_Voucher.m W.m_Voucher_init.F.kp W.m_Voucher_init.b .nil pass0 (pa_cons (pv 0) (pa_cons (pv 2) pa_nil))))
      (pss_one (ps_fld (pv 0) (pv 1) rfl)), ?_⟩
    refine ⟨_, rfl, _, rfl, x, d.c_Off, dx, [], mv, rfl, hx, W.c_Off.cl, W.n_Off_marks, by decide, hm, fun H1 mA b1 hM h1 => ?_⟩
    refine ⟨_, rfl, _, rfl, x, d.c_Off, dx, _, rfl, h1, W.c_Off.cl, W.n_Off_amount, few (Nat.le_trans (putF_len (n := 0) (Nat.le_refl _)) (by decide)), ?_⟩
    refine k _ mA _ (b1.trans but_self) ?_ upd_same ?_ ?_
    · exact hM.but hx but_self
    · (repeat (first | rw [lookup_putF, if_pos rfl] | rw [lookup_putF, if_neg (by decide +kernel)]))
    · show List.lookup _ _ = _
      (repeat (first | rw [lookup_putF, if_pos rfl] | rw [lookup_putF, if_neg (by decide +kernel)]))
theorem sc_Share_init : FnScope ["self", "share", "by_line", "marks"] ["self", "share", "by_line", "marks"] (defScope s_Share_init) := ⟨rfl, rfl, rfl, by decide +kernel, rfl, by decide +kernel, by decide +kernel⟩
theorem ok_Share_init (W : WB K mg d base) : FnOk P w K mg base CX0 4 d.f_Share_init d.fd_Share_init ["self", "share", "by_line", "marks"] (spSrtI d.c_Share d.c_Marks (fun so => ∃ (sh : Int) (bb : Bool), so = .share sh bb)) := by
  refine FunD.ok W.m_Share_init.F sc_Share_init (fun vs H Q E h => ?_) (fun cdv A outer s H vs Q E hr h => ?_)
  · obtain ⟨x, dx, so, mv, ⟨sh, bb, rfl⟩, rfl, _⟩ := h
    rfl
  · obtain ⟨x, dx, so, mv, ⟨sh, bb, rfl⟩, rfl, hx, hm, k⟩ := h
    have G_Voucher_init := ok_Voucher_init (P := P) (w := w) (base := base) W
    refine ⟨_, pss_cons (ps_expr (pe_base W.q_Voucher_init G_Voucher_init hr rfl W.c_Voucher.m W.m_Voucher_init.F.kp W.m_Voucher_init.b .nil pass0 (pa_cons (pv 0) (pa_cons (pv 3) pa_nil))))
      (pss_cons (ps_fld (pv 0) (pv 1) rfl)
      (pss_one (ps_fld (pv 0) (pv 2) rfl))), ?_⟩
    refine ⟨_, rfl, _, rfl, x, d.c_Share, dx, [], mv, rfl, hx, W.c_Share.cl, W.n_Share_marks, by decide, hm, fun H1 mA b1 hM h1 => ?_⟩
    refine ⟨_, rfl, _, rfl, x, d.c_Share, dx, _, rfl, h1, W.c_Share.cl, W.n_Share_share, few (Nat.le_trans (putF_len (n := 0) (Nat.le_refl _)) (by decide)), ?_⟩
    refine ⟨_, rfl, _, rfl, x, d.c_Share, dx, _, rfl, upd_same, W.c_Share.cl, W.n_Share_by_line, few (Nat.le_trans (putF_len (putF_len (n := 0) (Nat.le_refl _))) (by decide)), ?_⟩
    refine k _ mA _ ((b1.trans but_self).trans but_self) ?_ upd_same ?_ ?_
    · exact hM.but hx (But.trans but_self but_self)
    · (repeat (first | rw [lookup_putF, if_pos rfl] | rw [lookup_putF, if_neg (by decide +kernel)]))
    · exact ⟨by (repeat (first | rw [lookup_putF, if_pos rfl] | rw [lookup_putF, if_neg (by decide +kernel)])), by (repeat (first | rw [lookup_putF, if_pos rfl] | rw [lookup_putF, if_neg (by decide +kernel)]))⟩
theorem sc_Cheapest_init : FnScope ["self", "many", "marks"] ["self", "many", "marks"] (defScope s_Cheapest_init) := ⟨rfl, rfl, rfl, by decide +kernel, rfl, by decide +kernel, by decide +kernel⟩
theorem ok_Cheapest_init (W : WB K mg d base) : FnOk P w K mg base CX0 4 d.f_Cheapest_init d.fd_Cheapest_init ["self", "many", "marks"] (spSrtI d.c_Cheapest d.c_Marks (fun so => ∃ (n : Int), so = .cheap n)) := by
  refine FunD.ok W.m_Cheapest_init.F sc_Cheapest_init (fun vs H Q E h => ?_) (fun cdv A outer s H vs Q E hr h => ?_)
  · obtain ⟨x, dx, so, mv, ⟨n, rfl⟩, rfl, _⟩ := h
    rfl
  · obtain ⟨x, dx, so, mv, ⟨n, rfl⟩, rfl, hx, hm, k⟩ := h
    have G_Voucher_init := ok_Voucher_init (P := P) (w := w) (base := base) W
    refine ⟨_, pss_cons (ps_expr (pe_base W.q_Voucher_init G_Voucher_init hr rfl W.c_Voucher.m W.m_Voucher_init.F.kp W.m_Voucher_init.b .nil pass0 (pa_cons (pv 0) (pa_cons (pv 2) pa_nil))))
      (pss_one (ps_fld (pv 0) (pv 1) rfl)), ?_⟩
    refine ⟨_, rfl, _, rfl, x, d.c_Cheapest, dx, [], mv, rfl, hx, W.c_Cheapest.cl, W.n_Cheapest_marks, by decide, hm, fun H1 mA b1 hM h1 => ?_⟩
    refine ⟨_, rfl, _, rfl, x, d.c_Cheapest, dx, _, rfl, h1, W.c_Cheapest.cl, W.n_Cheapest_many, few (Nat.le_trans (putF_len (n := 0) (Nat.le_refl _)) (by decide)), ?_⟩
    refine k _ mA _ (b1.trans but_self) ?_ upd_same ?_ ?_
    · exact hM.but hx but_self
    · (repeat (first | rw [lookup_putF, if_pos rfl] | rw [lookup_putF, if_neg (by decide +kernel)]))
    · show List.lookup _ _ = _
      (repeat (first | rw [lookup_putF, if_pos rfl] | rw [lookup_putF, if_neg (by decide +kernel)]))
theorem sc_Bundle_init : FnScope ["self", "many", "price", "marks"] ["self", "many", "price", "marks"] (defScope s_Bundle_init) := ⟨rfl, rfl, rfl, by decide +kernel, rfl, by decide +kernel, by decide +kernel⟩
theorem ok_Bundle_init (W : WB K mg d base) : FnOk P w K mg base CX0 4 d.f_Bundle_init d.fd_Bundle_init ["self", "many", "price", "marks"] (spSrtI d.c_Bundle d.c_Marks (fun so => ∃ (n : Int) (pp : Int), so = .bund n pp)) := by
  refine FunD.ok W.m_Bundle_init.F sc_Bundle_init (fun vs H Q E h => ?_) (fun cdv A outer s H vs Q E hr h => ?_)
  · obtain ⟨x, dx, so, mv, ⟨n, pp, rfl⟩, rfl, _⟩ := h
    rfl
  · obtain ⟨x, dx, so, mv, ⟨n, pp, rfl⟩, rfl, hx, hm, k⟩ := h
    have G_Voucher_init := ok_Voucher_init (P := P) (w := w) (base := base) W
    refine ⟨_, pss_cons (ps_expr (pe_base W.q_Voucher_init G_Voucher_init hr rfl W.c_Voucher.m W.m_Voucher_init.F.kp W.m_Voucher_init.b .nil pass0 (pa_cons (pv 0) (pa_cons (pv 3) pa_nil))))
      (pss_cons (ps_fld (pv 0) (pv 1) rfl)
      (pss_one (ps_fld (pv 0) (pv 2) rfl))), ?_⟩
    refine ⟨_, rfl, _, rfl, x, d.c_Bundle, dx, [], mv, rfl, hx, W.c_Bundle.cl, W.n_Bundle_marks, by decide, hm, fun H1 mA b1 hM h1 => ?_⟩
    refine ⟨_, rfl, _, rfl, x, d.c_Bundle, dx, _, rfl, h1, W.c_Bundle.cl, W.n_Bundle_many, few (Nat.le_trans (putF_len (n := 0) (Nat.le_refl _)) (by decide)), ?_⟩
    refine ⟨_, rfl, _, rfl, x, d.c_Bundle, dx, _, rfl, upd_same, W.c_Bundle.cl, W.n_Bundle_price, few (Nat.le_trans (putF_len (putF_len (n := 0) (Nat.le_refl _))) (by decide)), ?_⟩
    refine k _ mA _ ((b1.trans but_self).trans but_self) ?_ upd_same ?_ ?_
    · exact hM.but hx (But.trans but_self but_self)
    · (repeat (first | rw [lookup_putF, if_pos rfl] | rw [lookup_putF, if_neg (by decide +kernel)]))
    · exact ⟨by (repeat (first | rw [lookup_putF, if_pos rfl] | rw [lookup_putF, if_neg (by decide +kernel)])), by (repeat (first | rw [lookup_putF, if_pos rfl] | rw [lookup_putF, if_neg (by decide +kernel)]))⟩
theorem sc_Carriage_init : FnScope ["self", "marks"] ["self", "marks"] (defScope s_Carriage_init) := ⟨rfl, rfl, rfl, by decide +kernel, rfl, by decide +kernel, by decide +kernel⟩
theorem ok_Carriage_init (W : WB K mg d base) : FnOk P w K mg base CX0 4 d.f_Carriage_init d.fd_Carriage_init ["self", "marks"] (spSrtI d.c_Carriage d.c_Marks (fun so => so = .carr)) := by
  refine FunD.ok W.m_Carriage_init.F sc_Carriage_init (fun vs H Q E h => ?_) (fun cdv A outer s H vs Q E hr h => ?_)
  · obtain ⟨x, dx, so, mv, rfl, rfl, _⟩ := h
    rfl
  · obtain ⟨x, dx, so, mv, rfl, rfl, hx, hm, k⟩ := h
    have G_Voucher_init := ok_Voucher_init (P := P) (w := w) (base := base) W
    refine ⟨_, pss_one (ps_expr (pe_base W.q_Voucher_init G_Voucher_init hr rfl W.c_Voucher.m W.m_Voucher_init.F.kp W.m_Voucher_init.b .nil pass0 (pa_cons (pv 0) (pa_cons (pv 1) pa_nil)))), ?_⟩
    refine ⟨_, rfl, _, rfl, x, d.c_Carriage, dx, [], mv, rfl, hx, W.c_Carriage.cl, W.n_Carriage_marks, by decide, hm, fun H1 mA b1 hM h1 => ?_⟩
    refine k _ mA _ b1 hM h1 ?_ trivial
    (repeat (first | rw [lookup_putF, if_pos rfl] | rw [lookup_putF, if_neg (by decide +kernel)]))
theorem sc_Line_init : FnScope ["self", "kind", "price", "many", "special"] ["self", "kind", "price", "many", "special"] (defScope s_Line_init) := ⟨rfl, rfl, rfl, by decide +kernel, rfl, by decide +kernel, by decide +kernel⟩
theorem ok_Line_init (W : WB K mg d base) : FnOk P w K mg base CX0 1 d.f_Line_init d.fd_Line_init ["self", "kind", "price", "many", "special"] (spLineI d.c_Line) := by
  refine FunD.ok W.m_Line_init.F sc_Line_init (fun vs H Q E h => ?_) (fun cdv A outer s H vs Q E hr h => ?_)
  · obtain ⟨x, dx, r, rfl, _⟩ := h
    rfl
  · obtain ⟨x, dx, r, rfl, hx, k⟩ := h
    refine ⟨_, pss_cons (ps_fld (pv 0) (pv 1) rfl)
      (pss_cons (ps_fld (pv 0) (pv 2) rfl)
      (pss_cons (ps_fld (pv 0) (pv 3) rfl)
      (pss_one (ps_fld (pv 0) (pv 4) rfl)))), ?_⟩
    refine ⟨_, rfl, _, rfl, x, d.c_Line, dx, [], rfl, hx, W.c_Line.cl, W.n_Line_kind, by decide, ?_⟩
    refine ⟨_, rfl, _, rfl, x, d.c_Line, dx, _, rfl, upd_same, W.c_Line.cl, W.n_Line_price, few (Nat.le_trans (putF_len (n := 0) (Nat.le_refl _)) (by decide)), ?_⟩
    refine ⟨_, rfl, _, rfl, x, d.c_Line, dx, _, rfl, upd_same, W.c_Line.cl, W.n_Line_many, few (Nat.le_trans (putF_len (putF_len (n := 0) (Nat.le_refl _))) (by decide)), ?_⟩
    refine ⟨_, rfl, _, rfl, x, d.c_Line, dx, _, rfl, upd_same, W.c_Line.cl, W.n_Line_special, few (Nat.le_trans (putF_len (putF_len (putF_len (n := 0) (Nat.le_refl _)))) (by decide)), ?_⟩
    refine k _ (But.trans (But.trans (But.trans but_self but_self) but_self) but_self) ⟨dx, _, upd_same, ?_, ?_, ?_, ?_⟩
    · rw [lookup_putF, if_neg (by decide +kernel), lookup_putF, if_neg (by decide +kernel), lookup_putF, if_neg (by decide +kernel), lookup_putF, if_pos rfl]
    · rw [lookup_putF, if_neg (by decide +kernel), lookup_putF, if_neg (by decide +kernel), lookup_putF, if_pos rfl]
    · rw [lookup_putF, if_neg (by decide +kernel), lookup_putF, if_pos rfl]
    · rw [lookup_putF, if_pos rfl]
theorem sc_Basket_init : FnScope ["self", "lines", "carriage", "member"] ["self", "lines", "carriage", "member"] (defScope s_Basket_init) := ⟨rfl, rfl, rfl, by decide +kernel, rfl, by decide +kernel, by decide +kernel⟩
theorem ok_Basket_init (W : WB K mg d base) : FnOk P w K mg base CX0 1 d.f_Basket_init d.fd_Basket_init ["self", "lines", "carriage", "member"] (spBaskI K d.c_Basket) := by
  refine FunD.ok W.m_Basket_init.F sc_Basket_init (fun vs H Q E h => ?_) (fun cdv A outer s H vs Q E hr h => ?_)
  · obtain ⟨x, dx, l, cg, m, xs, rfl, _⟩ := h
    rfl
  · obtain ⟨x, dx, l, cg, m, xs, rfl, hx, hl, k⟩ := h
    refine ⟨_, pss_cons (ps_fld (pv 0) (pe_callTy call_list_of (by rfl) W.B.list b_list (pa_cons (pv 1) pa_nil)) rfl)
      (pss_cons (ps_fld (pv 0) (pv 2) rfl)
      (pss_one (ps_fld (pv 0) (pv 3) rfl))), ?_⟩
    refine ⟨_, rfl, l, _, rfl, .inl hl, fun l' hl' => ?_⟩
    have s1 := same_new (o := .lst xs) hl'
    have nlx : l' ≠ x := fun e => by
      rw [e, hx] at hl'
      cases hl'
    refine ⟨_, rfl, x, d.c_Basket, dx, [], rfl, s1 _ _ hx, W.c_Basket.cl, W.n_Basket_lines, by decide, ?_⟩
    refine ⟨_, rfl, _, rfl, x, d.c_Basket, dx, _, rfl, upd_same, W.c_Basket.cl, W.n_Basket_carriage, few (Nat.le_trans (putF_len (n := 0) (Nat.le_refl _)) (by decide)), ?_⟩
    refine ⟨_, rfl, _, rfl, x, d.c_Basket, dx, _, rfl, upd_same, W.c_Basket.cl, W.n_Basket_member, few (Nat.le_trans (putF_len (putF_len (n := 0) (Nat.le_refl _))) (by decide)), ?_⟩
    refine k _ l' ((((But.of_same s1).trans but_self).trans but_self).trans but_self) hl' ?_ ⟨dx, _, upd_same, ?_, ?_, ?_⟩
    · rw [upd_ne nlx, upd_ne nlx, upd_ne nlx, upd_same]
    · rw [lookup_putF, if_neg (by decide +kernel), lookup_putF, if_neg (by decide +kernel), lookup_putF, if_pos rfl]
    · rw [lookup_putF, if_neg (by decide +kernel), lookup_putF, if_pos rfl]
    · rw [lookup_putF, if_pos rfl]
theorem sc_price_of_piece : FnScope ["line", "member"] ["line", "member"] (defScope s_price_of_piece) := ⟨rfl, rfl, rfl, by decide +kernel, rfl, by decide +kernel, by decide +kernel⟩
theorem ok_price_of_piece (W : WB K mg d base) : FnOk P w K mg base CX0 1 d.f_price_of_piece d.fd_price_of_piece ["line", "member"] (spPrice d.c_Line) := by
  refine FunD.ok W.d_price_of_piece.F sc_price_of_piece (fun vs H Q E h => ?_) (fun cdv A outer s H vs Q E hr h => ?_)
  · obtain ⟨x, m, r, rfl, _⟩ := h
    rfl
  · obtain ⟨x, m, r, rfl, ⟨dx, fs, hx, lk, lp, lm, ls⟩, k⟩ := h
    refine ⟨_, pss_cons (ps_if (PW.pt (pw_and (pt_val (pv 1)) (pw_and1 (pt_cmpR op_notN (pe_fld (pv 0) rfl) pe_non (nomark _))))) (pss_one (ps_ret (pe_fld (pv 0) rfl))) (pss_nil))
      (pss_one (ps_ret (pe_fld (pv 0) rfl))), ?_⟩
    refine ⟨_, rfl, m, rfl, ?_⟩
    cases m with
    | false =>
      refine iteF (iteF ⟨_, rfl, x, d.c_Line, dx, fs, _, rfl, hx, W.c_Line.cl, W.n_Line_price, lp, ?_⟩)
      exact k
    | true =>
      refine iteT ⟨_, rfl, x, d.c_Line, dx, fs, _, rfl, hx, W.c_Line.cl, W.n_Line_special, ls, rfl, _, rfl, ?_⟩
      cases e : r.ex with
      | none =>
        rw [e] at ls
        show if (!decide (V.non = V.non)) = true then _ else _
        rw [show (!decide (V.non = V.non)) = false by simp]
        refine iteF ⟨_, rfl, x, d.c_Line, dx, fs, _, rfl, hx, W.c_Line.cl, W.n_Line_price, lp, ?_⟩
        have ep : prc true r = r.pr := by
          unfold prc
          rw [if_pos rfl, e]
          rfl
        rw [ep] at k
        exact k
      | some z =>
        rw [e] at ls
        show if (!decide (V.int z = V.non)) = true then _ else _
        rw [show (!decide (V.int z = V.non)) = true by simp]
        refine iteT ⟨_, rfl, x, d.c_Line, dx, fs, _, rfl, hx, W.c_Line.cl, W.n_Line_special, ls, ?_⟩
        have ep : prc true r = z := by
          unfold prc
          rw [if_pos rfl, e]
          rfl
        rw [ep] at k
        exact k
theorem sc_Standing_init : FnScope ["self", "basket", "number", "line", "price"] ["self", "basket"] (defScope s_Standing_init) := ⟨rfl, rfl, rfl, by decide +kernel, rfl, by decide +kernel, by decide +kernel⟩
theorem ok_Standing_init (W : WB K mg d base) : FnOk P w K mg base CX0 2 d.f_Standing_init d.fd_Standing_init ["self", "basket"] (spStandI d.c_Line d.c_Basket d.c_Standing) := by
  refine FunD.ok W.m_Standing_init.F sc_Standing_init (fun vs H Q E h => ?_) (fun cdv A outer s H vs Q E hr h => ?_)
  · obtain ⟨x, dx, b, l, cg, m, ls, rs, rfl, _⟩ := h
    rfl
  · obtain ⟨x, dx, b, l, cg, m, ls, rs, rfl, hx, ⟨dxb, fsb, hb, lbl, lbc, lbm⟩, hl, hL, hn, hok, k⟩ := h
    have G_price_of_piece := ok_price_of_piece (P := P) (w := w) (base := base) W
    refine ⟨_, pss_cons (ps_fld (pv 0) (pe_lst pa_nil) rfl)
      (pss_cons (ps_fld (pv 0) (pe_lst pa_nil) rfl)
      (pss_cons (ps_fld (pv 0) (pe_fld (pv 1) rfl) rfl)
      (pss_cons (ps_fld (pv 0) (pe_lst pa_nil) rfl)
      (pss_one (ps_for PassesOwn.never rfl (pi_enum rfl W.B.enum (pa_cons (pe_fld (pv 1) rfl) pa_nil)) (pg_tup rfl (pgs_cons (pg_name (i := 2) sc_Standing_init.nd rfl (Or.inl rfl)) (pgs_cons (pg_name (i := 3) sc_Standing_init.nd rfl (Or.inl rfl)) pgs_nil)))
      (pss_cons (ps_set (i := 4) sc_Standing_init.nd rfl (Or.inl rfl) (pe_call G_price_of_piece hr rfl W.d_price_of_piece.m W.d_price_of_piece.F.kp W.d_price_of_piece.b .nil pass0 (pa_cons (pv 3) (pa_cons (pe_fld (pv 1) rfl) pa_nil))))
      (pss_cons (ps_expr (pe_bm PySem.F.plainAttrs_list PySem.F.slot_list_extend PySem.F.type_list_extend mt_extend (pe_fld (pv 0) rfl) (pa_cons (pe_op op_rep (pe_lst (pa_cons (pv 2) pa_nil)) (pe_fld (pv 3) rfl)) pa_nil)))
      (pss_cons (ps_expr (pe_bm PySem.F.plainAttrs_list PySem.F.slot_list_extend PySem.F.type_list_extend mt_extend (pe_fld (pv 0) rfl) (pa_cons (pe_op op_rep (pe_lst (pa_cons (pv 4) pa_nil)) (pe_fld (pv 3) rfl)) pa_nil)))
      (pss_one (ps_expr (pe_bm PySem.F.plainAttrs_list PySem.F.slot_list_append PySem.F.type_list_append mt_append (pe_fld (pv 0) rfl) (pa_cons pe_bl pa_nil)))))))))))), ?_⟩
    have nbx : b ≠ x := ne_of hb hx (by
      intro z
      injection z with _ _ z
      rw [z] at lbl
      cases lbl)
    have nlx : l ≠ x := ne_of hl hx (by intro z; cases z)
    refine ⟨by decide, fun o ho => ?_⟩
    have nox : o ≠ x := (ne_of_none hx ho).symm
    refine ⟨_, rfl, x, d.c_Standing, dx, [], rfl, same_new ho _ _ hx, W.c_Standing.cl, W.n_Standing_owners, by decide, ?_⟩
    have b1 : But x H (upd (upd H o (.lst [])) x (.ins d.c_Standing dx (putF "owners" (.ref o) []))) := (But.of_same (same_new ho)).trans but_self
    refine ⟨by decide, fun p hp => ?_⟩
    have npx : p ≠ x := fun e => by
      rw [e, upd_same] at hp
      cases hp
    have nop : o ≠ p := fun e => by
      rw [← e, upd_ne nox, upd_same] at hp
      cases hp
    have hp0 : H p = none := by
      cases e : H p with
      | none => rfl
      | some u =>
        obtain ⟨u', e'⟩ := ev_some (b1 p u npx e)
        rw [e'] at hp
        cases hp
    refine ⟨_, rfl, x, d.c_Standing, dx, _, rfl, same_new hp _ _ upd_same, W.c_Standing.cl, W.n_Standing_prices, few (Nat.le_trans (putF_len (n := 0) (Nat.le_refl _)) (by decide)), ?_⟩
    have b2 := (b1.same (same_new (o := .lst []) hp)).trans (but_self (o := .ins d.c_Standing dx (putF "prices" (.ref p) (putF "owners" (.ref o) []))))
    refine ⟨_, rfl, b, d.c_Basket, dxb, fsb, _, rfl, b2 b _ nbx hb, W.c_Basket.cl, W.n_Basket_carriage, lbc, _, rfl, x, d.c_Standing, dx, _, rfl, upd_same, W.c_Standing.cl, W.n_Standing_carriage, few (Nat.le_trans (putF_len (putF_len (n := 0) (Nat.le_refl _))) (by decide)), ?_⟩
    have b3 := b2.trans (but_self (o := .ins d.c_Standing dx (putF "carriage" (.int cg) (putF "prices" (.ref p) (putF "owners" (.ref o) [])))))
    refine ⟨by decide, fun mk hm => ?_⟩
    have nmx : mk ≠ x := fun e => by
      rw [e, upd_same] at hm
      cases hm
    have hm0 : H mk = none := by
      cases e : H mk with
      | none => rfl
      | some u =>
        obtain ⟨u', e'⟩ := ev_some (b3 mk u nmx e)
        rw [e'] at hm
        cases hm
    have nom : o ≠ mk := fun e => by
      rw [← e, upd_ne nox, upd_ne nox, upd_ne nop, upd_ne nox, upd_same] at hm
      cases hm
    have npm : p ≠ mk := fun e => by
      rw [← e, upd_ne npx, upd_ne npx, upd_same] at hm
      cases hm
    refine ⟨_, rfl, x, d.c_Standing, dx, _, rfl, same_new hm _ _ upd_same, W.c_Standing.cl, W.n_Standing_marked, few (Nat.le_trans (putF_len (putF_len (putF_len (n := 0) (Nat.le_refl _)))) (by decide)), ?_⟩
    have b4 := (b3.same (same_new (o := .lst []) hm)).trans (but_self (o := .ins d.c_Standing dx (putF "marked" (.ref mk) (putF "carriage" (.int cg) (putF "prices" (.ref p) (putF "owners" (.ref o) []))))))
    have Di : Ds H x o p mk := ⟨ho, hp0, hm0, nox, npx, nmx, nop, nom, npm⟩
    have Z0 : S3 H x d.c_Standing dx (putF "marked" (.ref mk) (putF "carriage" (.int cg) (putF "prices" (.ref p) (putF "owners" (.ref o) [])))) o p mk [] [] [] (upd (upd (upd (upd (upd (upd (upd H o (.lst [])) x (.ins d.c_Standing dx (putF "owners" (.ref o) []))) p (.lst [])) x (.ins d.c_Standing dx (putF "prices" (.ref p) (putF "owners" (.ref o) []))))
        x (.ins d.c_Standing dx (putF "carriage" (.int cg) (putF "prices" (.ref p) (putF "owners" (.ref o) []))))) mk (.lst [])) x (.ins d.c_Standing dx (putF "marked" (.ref mk) (putF "carriage" (.int cg) (putF "prices" (.ref p) (putF "owners" (.ref o) [])))))) := by
      refine ⟨b4, upd_same, ?_, ?_, ?_⟩
      · rw [upd_ne nox, upd_ne nom, upd_ne nox, upd_ne nox, upd_ne nop, upd_ne nox, upd_same]
      · rw [upd_ne npx, upd_ne npm, upd_ne npx, upd_ne npx, upd_same]
      · rw [upd_ne nmx, upd_same]
    have l1 : (putF "marked" (.ref mk) (putF "carriage" (.int cg) (putF "prices" (.ref p) (putF "owners" (.ref o) [])))).lookup ("owners" : Str) = some (.ref o) := by
      rw [lookup_putF, if_neg (by decide +kernel), lookup_putF, if_neg (by decide +kernel), lookup_putF, if_neg (by decide +kernel), lookup_putF, if_pos rfl]
    have l2 : (putF "marked" (.ref mk) (putF "carriage" (.int cg) (putF "prices" (.ref p) (putF "owners" (.ref o) [])))).lookup ("prices" : Str) = some (.ref p) := by
      rw [lookup_putF, if_neg (by decide +kernel), lookup_putF, if_neg (by decide +kernel), lookup_putF, if_pos rfl]
    have l3 : (putF "marked" (.ref mk) (putF "carriage" (.int cg) (putF "prices" (.ref p) (putF "owners" (.ref o) [])))).lookup ("carriage" : Str) = some (.int cg) := by
      rw [lookup_putF, if_neg (by decide +kernel), lookup_putF, if_pos rfl]
    have l4 : (putF "marked" (.ref mk) (putF "carriage" (.int cg) (putF "prices" (.ref p) (putF "owners" (.ref o) [])))).lookup ("marked" : Str) = some (.ref mk) := by
      rw [lookup_putF, if_pos rfl]
    have l5 : (putF "marked" (.ref mk) (putF "carriage" (.int cg) (putF "prices" (.ref p) (putF "owners" (.ref o) [])))).lookup ("whole" : Str) = none := by
      rw [lookup_putF, if_neg (by decide +kernel), lookup_putF, if_neg (by decide +kernel), lookup_putF, if_neg (by decide +kernel), lookup_putF, if_neg (by decide +kernel)]
      rfl
    have lfs : (putF "marked" (.ref mk) (putF "carriage" (.int cg) (putF "prices" (.ref p) (putF "owners" (.ref o) [])))).length ≤ 10 := Nat.le_trans (putF_len (putF_len (putF_len (putF_len (n := 0) (Nat.le_refl _))))) (by decide)
    generalize putF "marked" (.ref mk) (putF "carriage" (.int cg) (putF "prices" (.ref p) (putF "owners" (.ref o) []))) = fs at *
    generalize (upd (upd (upd (upd (upd (upd (upd H o (.lst [])) x (.ins d.c_Standing dx (putF "owners" (.ref o) []))) p (.lst [])) x (.ins d.c_Standing dx (putF "prices" (.ref p) (putF "owners" (.ref o) []))))
        x (.ins d.c_Standing dx (putF "carriage" (.int cg) (putF "prices" (.ref p) (putF "owners" (.ref o) []))))) mk (.lst [])) x (.ins d.c_Standing dx fs)) = Hs at *
    refine ⟨_, rfl, b, d.c_Basket, dxb, fsb, _, rfl, Z0.bt b _ nbx hb, W.c_Basket.cl, W.n_Basket_lines, lbl, l, _, rfl, Z0.bt l _ nlx hl, for_enum (xs := ls.map V.ref) (fun i σ H' => (∃ v2 v3 v4 : Option V, σ = [some (.ref x), some (.ref b), v2, v3, v4]) ∧
      S3 H x d.c_Standing dx fs o p mk ((own (rs.take i)).map V.int) ((prs m (rs.take i)).map V.int) (List.replicate i (.bl false)) H') ⟨⟨none, none, none, rfl⟩, Z0⟩ (fun i σ H' _ ⟨_, Z⟩ => Z.bt l _ nlx hl) ?_ ?_⟩
    · rintro i y t σ H1 hy ⟨⟨v2, v3, v4, rfl⟩, Z⟩ ht
      have hll := hL.len
      have hil : i < (ls.map V.ref).length := (List.getElem?_eq_some_iff.mp hy).1
      rw [List.length_map] at hil
      obtain ⟨lx, el, rfl⟩ : ∃ lx, ls[i]? = some lx ∧ y = V.ref lx := by
        rw [List.getElem?_map] at hy
        cases e : ls[i]? with
        | none => rw [e] at hy; cases hy
        | some z => rw [e] at hy; exact ⟨z, rfl, (Option.some.inj hy).symm⟩
      obtain ⟨r, er⟩ : ∃ r, rs[i]? = some r := ⟨rs[i]'(by omega), by simp [show i < rs.length by omega]⟩
      have hr' : r.Ok := hok r (List.mem_of_getElem? er)
      obtain ⟨dxl, fsl, hlx, lk1, lk2, lk3, lk4⟩ := hL.get el er
      have nlxx : lx ≠ x := ne_of hlx hx (by
        intro z
        injection z with _ _ z
        rw [z] at lk1
        cases lk1)
      have hmn0 := hr'.mn0
      have hmn1 := hr'.mn1
      have Z1 := Z.same (same_new (o := .tup [.int (i : Nat), V.ref lx]) ht)
      have lo1 : ((own (rs.take i)).map V.int).length ≤ 720 := by
        rw [List.length_map]
        have := own_len (rs.take i) fun r hr => hok r (List.mem_of_mem_take hr)
        rw [List.length_take] at this
        omega
      have lp1 : ((prs m (rs.take i)).map V.int).length ≤ 720 := by
        rw [List.length_map]
        have := prs_len m (rs.take i) fun r hr => hok r (List.mem_of_mem_take hr)
        rw [List.length_take] at this
        omega
      refine ⟨t, _, rfl, SqT.of upd_same, rfl, _, _, rfl, _, _, rfl, rfl, ?_⟩
      refine ⟨_, rfl, _, rfl, b, d.c_Basket, dxb, fsb, _, rfl, Z1.bt b _ nbx hb, W.c_Basket.cl, W.n_Basket_member, lbm, lx, m, r, rfl, ⟨dxl, fsl, Z1.bt lx _ nlxx hlx, lk1, lk2, lk3, lk4⟩, ?_⟩
      refine ⟨_, rfl, x, d.c_Standing, dx, fs, _, rfl, Z1.ob, W.c_Standing.cl, W.n_Standing_owners, l1, .inl ⟨rfl, _, SqL.of Z1.ho⟩, _, rfl, (by show 1 ≤ sizeLine; decide), fun t1 ht1 => ?_⟩
      have Z2 := Z1.same (same_new (o := .lst [V.int (i : Nat)]) ht1)
      refine ⟨_, rfl, lx, d.c_Line, dxl, fsl, _, rfl, Z2.bt lx _ nlxx hlx, W.c_Line.cl, W.n_Line_many, lk3, t1, _, _, rfl, rfl, upd_same, by omega, by omega, Nat.le_of_lt (small1000 (by simp; omega)), fun t2 ht2 => ?_⟩
      have Z3 := Z2.same (same_new (o := .lst (List.replicate r.mn.toNat [V.int (i : Nat)]).flatten) ht2)
      refine ⟨o, t2, _, _, rfl, rfl, Z3.ho, upd_same, Nat.le_of_lt (small1000 (by rw [rep1, List.length_replicate]; omega)), ?_⟩
      have Z4 := Z3.setO (d := (own (rs.take i)).map V.int ++ (List.replicate r.mn.toNat [V.int (i : Nat)]).flatten) Di
      refine ⟨_, rfl, x, d.c_Standing, dx, fs, _, rfl, Z4.ob, W.c_Standing.cl, W.n_Standing_prices, l2, .inl ⟨rfl, _, SqL.of Z4.hp⟩, _, rfl, (by show 1 ≤ sizeLine; decide), fun t3 ht3 => ?_⟩
      have Z5 := Z4.same (same_new (o := .lst [V.int (prc m r)]) ht3)
      refine ⟨_, rfl, lx, d.c_Line, dxl, fsl, _, rfl, Z5.bt lx _ nlxx hlx, W.c_Line.cl, W.n_Line_many, lk3, t3, _, _, rfl, rfl, upd_same, by omega, by omega, Nat.le_of_lt (small1000 (by simp; omega)), fun t4 ht4 => ?_⟩
      have Z6 := Z5.same (same_new (o := .lst (List.replicate r.mn.toNat [V.int (prc m r)]).flatten) ht4)
      refine ⟨p, t4, _, _, rfl, rfl, Z6.hp, upd_same, Nat.le_of_lt (small1000 (by rw [rep1, List.length_replicate]; omega)), ?_⟩
      have Z7 := Z6.setP (d := (prs m (rs.take i)).map V.int ++ (List.replicate r.mn.toNat [V.int (prc m r)]).flatten) Di
      refine ⟨_, rfl, x, d.c_Standing, dx, fs, _, rfl, Z7.ob, W.c_Standing.cl, W.n_Standing_marked, l4, .inl ⟨rfl, _, SqL.of Z7.hm⟩, mk, _, _, rfl, rfl, Z7.hm, small1000 (by simp; omega), ?_⟩
      have Z8 := Z7.setM (d := List.replicate i (V.bl false) ++ [V.bl false]) Di
      refine ⟨⟨_, _, _, rfl⟩, ?_⟩
      have e1 : (own (rs.take i)).map V.int ++ (List.replicate r.mn.toNat [V.int (i : Nat)]).flatten = (own (rs.take (i + 1))).map V.int := by
        rw [take_snoc er, own_snoc, List.map_append, rep1, rep_map, List.length_take, Nat.min_eq_left (by omega)]
      have e2 : (prs m (rs.take i)).map V.int ++ (List.replicate r.mn.toNat [V.int (prc m r)]).flatten = (prs m (rs.take (i + 1))).map V.int := by
        rw [take_snoc er, prs_snoc, List.map_append, rep1, rep_map]
      have e3 : List.replicate i (V.bl false) ++ [V.bl false] = List.replicate (i + 1) (V.bl false) := by rw [List.replicate_succ']
      rw [← e1, ← e2, ← e3]
      exact Z8
    · rintro σ H' ⟨⟨v2, v3, v4, rfl⟩, Z⟩
      have hll := hL.len
      have e : (ls.map V.ref).length = rs.length := by rw [List.length_map, hll]
      rw [e, List.take_length] at Z
      exact k H' o p mk Z.bt ho hp0 hm0 ⟨dx, fs, Z.ob, l1, l2, l3, l4, l5⟩ Z.ho Z.hp Z.hm ⟨dx, fs, Z.ob, lfs⟩
theorem sc__law_mix : FnScope ["_law_cell", "_law_factor", "_law_prime"] ["_law_cell", "_law_factor", "_law_prime"] (defScope s__law_mix) := ⟨rfl, rfl, rfl, by decide +kernel, rfl, by decide +kernel, by decide +kernel⟩
theorem ok__law_mix (W : WB K mg d base) : FnOk P w K mg base CX0 1 d.f__law_mix d.fd__law_mix ["_law_cell", "_law_factor", "_law_prime"] spMix := by
  refine FunD.ok W.d__law_mix.F sc__law_mix (fun vs H Q E h => ?_) (fun cdv A outer s H vs Q E hr h => ?_)
  · obtain ⟨c, f, p, rfl, _⟩ := h
    rfl
  · obtain ⟨c, f, p, rfl, hf, hp, k⟩ := h
    refine ⟨_, pss_one (ps_ret (pe_op op_mod (pe_op op_mul (pv 0) (pv 1)) (pv 2))), ?_⟩
    exact ⟨_, rfl, _, rfl, _, _, rfl, rfl, .inr hf, _, rfl, _, _, rfl, rfl, hp, k⟩
theorem sc__law_whole : FnScope ["_law_found"] ["_law_found"] (defScope s__law_whole) := ⟨rfl, rfl, rfl, by decide +kernel, rfl, by decide +kernel, by decide +kernel⟩
theorem ok__law_whole (W : WB K mg d base) : FnOk P w K mg base CX0 1 d.f__law_whole d.fd__law_whole ["_law_found"] spWholeI := by
  refine FunD.ok W.d__law_whole.F sc__law_whole (fun vs H Q E h => ?_) (fun cdv A outer s H vs Q E hr h => ?_)
  · obtain ⟨n, rfl, _⟩ := h
    rfl
  · obtain ⟨n, rfl, k⟩ := h
    refine ⟨_, pss_one (ps_ret (pe_and (pe_callB call_isinst (by rfl) W.B.isi b_isi (pa_cons (pv 0) (pa_cons (pe_bltn (v := .ty "int") (by rfl) W.B.int b_int rfl) pa_nil))) (pe_one (pe_not (pe_callB call_isinst (by rfl) W.B.isi b_isi (pa_cons (pv 0) (pa_cons (pe_bltn (v := .ty "bool") (by rfl) W.B.bool b_bool rfl) pa_nil))))))), ?_⟩
    exact ⟨_, rfl, _, _, _, _, rfl, .inl ⟨_, rfl⟩, TyOf.int _, kit_same _ _, _, rfl, iteT ⟨_, rfl, _, _, _, _, rfl, .inl ⟨_, rfl⟩, TyOf.int _, kit_int_bool _, _, rfl, k⟩⟩
theorem at4 {a b c e : V} {i : Int} (h0 : 0 ≤ i) (h4 : i < 4) : ∃ v, atI [a, b, c, e] i = some v ∧ (v = a ∨ v = b ∨ v = c ∨ v = e) := by
  obtain ⟨n, rfl⟩ := Int.eq_ofNat_of_zero_le h0
  have hn : n < 4 := by omega
  match n, hn with
  | 0, _ => exact ⟨a, rfl, .inl rfl⟩
  | 1, _ => exact ⟨b, rfl, .inr (.inl rfl)⟩
  | 2, _ => exact ⟨c, rfl, .inr (.inr (.inl rfl))⟩
  | 3, _ => exact ⟨e, rfl, .inr (.inr (.inr rfl))⟩
theorem at2 {a b : V} {i : Int} (h0 : 0 ≤ i) (h2 : i < 2) : ∃ v, atI [a, b] i = some v ∧ (v = a ∨ v = b) := by
  obtain ⟨n, rfl⟩ := Int.eq_ofNat_of_zero_le h0
  have hn : n < 2 := by omega
  match n, hn with
  | 0, _ => exact ⟨a, rfl, .inl rfl⟩
  | 1, _ => exact ⟨b, rfl, .inr rfl⟩
theorem sc__law_coin : FnScope ["_law_cell", "_law_how"] ["_law_cell"] (defScope s__law_coin) := ⟨rfl, rfl, rfl, by decide +kernel, rfl, by decide +kernel, by decide +kernel⟩
theorem ok__law_coin (W : WB K mg d base) : FnOk P w K mg base CX0 1 d.f__law_coin d.fd__law_coin ["_law_cell"] spCoin := by
  refine FunD.ok W.d__law_coin.F sc__law_coin (fun vs H Q E h => ?_) (fun cdv A outer s H vs Q E hr h => ?_)
  · obtain ⟨c, rfl, _⟩ := h
    rfl
  · obtain ⟨c, rfl, k⟩ := h
    refine ⟨_, pss_cons (ps_set (i := 1) sc__law_coin.nd rfl (Or.inl rfl) (pe_op op_mod (pv 0) pe_int))
      (pss_cons (ps_if (pt_cmpR op_eq (pv 1) pe_int (nomark _)) (pss_one (ps_ret (pe_op op_mod (pe_op op_fdiv (pv 0) pe_int) pe_int))) (pss_nil))
      (pss_cons (ps_if (pt_cmpR op_eq (pv 1) pe_int (nomark _)) (pss_one (ps_ret (pe_op op_mod (pe_op op_fdiv (pv 0) pe_int) pe_int))) (pss_nil))
      (pss_cons (ps_if (pt_cmpR op_eq (pv 1) pe_int (nomark _)) (pss_one (ps_ret (pe_ix (r := rIxL K) ix_list (pe_lst (pa_cons pe_int (pa_cons pe_int (pa_cons pe_int (pa_cons pe_int pa_nil))))) (pe_op op_mod (pe_op op_fdiv (pv 0) pe_int) pe_int) (fun _ _ => rfl)))) (pss_nil))
      (pss_one (ps_ret (pe_op op_mod (pe_op op_mul (pe_op op_fdiv (pv 0) pe_int) pe_int) pe_int)))))), ?_⟩
    refine ⟨_, rfl, _, _, rfl, rfl, (by show (0 : Int) < 4; decide), ?_⟩
    refine ⟨_, rfl, rfl, _, rfl, ite2 (fun _ => ?_) (fun _ => ?_)⟩
    · refine ⟨_, rfl, _, _, rfl, rfl, ⟨by decide, by decide⟩, _, _, rfl, rfl, (by show (0 : Int) < 10; decide), k _ _ (Same.refl _) (by omega) (by omega)⟩
    refine ⟨_, rfl, rfl, _, rfl, ite2 (fun _ => ?_) (fun _ => ?_)⟩
    · refine ⟨_, rfl, _, _, rfl, rfl, ⟨by decide, by decide⟩, _, _, rfl, rfl, (by show (0 : Int) < 1000; decide), k _ _ (Same.refl _) (by omega) (by omega)⟩
    refine ⟨_, rfl, rfl, _, rfl, ite2 (fun _ => ?_) (fun _ => ?_)⟩
    · refine ⟨(by show 4 ≤ sizeLine; decide), fun p hp => ?_⟩
      obtain ⟨v, e, hv⟩ := at4 (a := .int 0) (b := .int 1) (c := .int 999999999999) (e := .int 1000000000000) (i := c / 4 % 4) (by omega) (by omega)
      refine ⟨_, rfl, _, _, rfl, rfl, ⟨by decide, by decide⟩, _, _, rfl, rfl, (by show (0 : Int) < 4; decide), p, _, _, v, rfl, rfl, SqL.of upd_same, e, ?_⟩
      rcases hv with rfl | rfl | rfl | rfl
      · exact k _ _ (same_new hp) (by decide) (by decide)
      · exact k _ _ (same_new hp) (by decide) (by decide)
      · exact k _ _ (same_new hp) (by decide) (by decide)
      · exact k _ _ (same_new hp) (by decide) (by decide)
    · refine ⟨_, rfl, _, _, rfl, rfl, ⟨by decide, by decide⟩, _, _, rfl, rfl, .inr ⟨by decide, by decide⟩, _, _, rfl, rfl, (by show (0 : Int) < 1000000000001; decide), k _ _ (Same.refl _) (by omega) (by omega)⟩
theorem sum_cut {ns : List Int} (k : Nat) : cutV (ns.map V.int) none (some (k : Int)) = (ns.take k).map V.int := by rw [cut_to, List.map_take]
theorem sc__law_parents : FnScope ["_law_script", "_law_parents_here", "_law_first", "_law_k", "_law_cell"] ["_law_script"] (defScope s__law_parents) := ⟨rfl, rfl, rfl, by decide +kernel, rfl, by decide +kernel, by decide +kernel⟩
theorem ok__law_parents (W : WB K mg d base) : FnOk P w K mg base CX0 2 d.f__law_parents d.fd__law_parents ["_law_script"] (spPar K) := by
  refine FunD.ok W.d__law_parents.F sc__law_parents (fun vs H Q E h => ?_) (fun cdv A outer s H vs Q E hr h => ?_)
  · obtain ⟨a, ns, rfl, _⟩ := h
    rfl
  · obtain ⟨a, ns, rfl, hS, hn, k⟩ := h
    have G__law_mix := ok__law_mix (P := P) (w := w) (base := base) W
    refine ⟨_, pss_cons (ps_set (i := 1) sc__law_parents.nd rfl (Or.inl rfl) (pe_lst pa_nil))
      (pss_cons (ps_set (i := 2) sc__law_parents.nd rfl (Or.inl rfl) (pe_callB (call_sum rfl) (by rfl) W.B.sum b_sum (pa_cons (pe_slice sl_list (pv 0) po_none (po_some pe_int)) pa_nil)))
      (pss_cons (ps_for PassesOwn.never rfl (pi_range1 rfl W.B.range (pa_cons (pe_op op_add pe_int (pe_op op_mod (pv 2) (pe_ix (r := rIxL K) ix_list (pe_lst (pa_cons pe_int (pa_cons pe_int pa_nil))) (pe_op op_fdiv (pe_op op_mod (pe_op op_fdiv (pv 2) pe_int) pe_int) pe_int) (fun _ _ => rfl)))) pa_nil)) (pg_name (i := 3) sc__law_parents.nd rfl (Or.inl rfl))
      (pss_cons (ps_set (i := 4) sc__law_parents.nd rfl (Or.inl rfl) (pe_call G__law_mix hr rfl W.d__law_mix.m W.d__law_mix.F.kp W.d__law_mix.b .nil pass0 (pa_cons (pe_op op_add (pe_op op_add (pv 2) (pe_op op_mul (pv 3) (pv 3))) pe_int) (pa_cons pe_int (pa_cons pe_int pa_nil)))))
      (pss_one (ps_expr (pe_bm PySem.F.plainAttrs_list PySem.F.slot_list_append PySem.F.type_list_append mt_append (pv 1) (pa_cons (pe_ifExp (PW.pt (pw_or (pt_cmpR op_eq (pv 3) pe_int (nomark _)) (pw_or1 (pt_cmpR op_eq (pe_op op_mod (pv 4) pe_int) pe_int (nomark _))))) pe_non (pe_op op_mod (pe_op op_fdiv (pv 4) pe_int) (pv 3))) pa_nil))))))
      (pss_one (ps_ret (pv 1))))), ?_⟩
    refine ⟨by decide, fun p hp => ?_⟩
    have s1 := same_new (o := .lst []) hp
    have hp1 : (upd H p (.lst [])) p = some (.lst (([] : List (Option Nat)).map pV)) := upd_same
    generalize upd H p (.lst []) = H1 at s1 hp1
    refine ⟨_, rfl, _, rfl, a, _, rfl, s1.seq hS, fun c hc => ?_⟩
    have s2 := s1.trans (same_new (o := .lst (cutV (ns.map V.int) none (some 1))) hc)
    have e2 : cutV (ns.map V.int) none (some 1) = (ns.take 1).map V.int := sum_cut 1
    refine ⟨c, ns.take 1, rfl, SqL.of (by rw [upd_same, e2]), ?_⟩
    have hp2 := same_new (o := .lst (cutV (ns.map V.int) none (some 1))) hc _ _ hp1
    have n2 : c ≠ p := fun e => by rw [e, hp1] at hc; cases hc
    generalize upd H1 c (.lst (cutV (ns.map V.int) none (some 1))) = H2 at s2 hp2
    generalize (ns.take 1).sum = fi
    refine ⟨_, rfl, (by show 2 ≤ sizeLine; decide), fun q hq => ?_⟩
    have s3 := s2.trans (same_new (o := .lst [V.int 6, V.int 20]) hq)
    have hp3 := same_new (o := .lst [V.int 6, V.int 20]) hq _ _ hp2
    obtain ⟨v, ev, hv⟩ := at2 (a := .int 6) (b := .int 20) (i := fi / 6 % 8 / 7) (by omega) (by omega)
    have hv' : ∃ z : Int, v = .int z ∧ 0 < z ∧ z ≤ 20 := by
      rcases hv with rfl | rfl
      · exact ⟨6, rfl, by decide, by decide⟩
      · exact ⟨20, rfl, by decide, by decide⟩
    obtain ⟨z, rfl, hz0, hz1⟩ := hv'
    refine ⟨_, rfl, _, _, rfl, rfl, ⟨by decide, by decide⟩, _, _, rfl, rfl, (by show (0 : Int) < 8; decide), _, _, rfl, rfl, ⟨by decide, by decide⟩, q, _, _, _, rfl, rfl, SqL.of upd_same, ev, _, _, rfl, rfl, hz0, _, _, rfl, rfl, _, rfl, ?_⟩
    have r0 := Int.emod_nonneg fi (show z ≠ 0 by omega)
    have r1 := Int.emod_lt_of_pos fi hz0
    generalize upd H2 q (.lst [V.int 6, V.int 20]) = H3 at s3 hp3
    refine ⟨by omega, by omega, for_range (fun i σ H' => Same H H' ∧ ∃ (ps : List (Option Nat)) (v3 v4 : Option V), σ = [some (.ref a), some (.ref p), some (.int fi), v3, v4] ∧ H' p = some (.lst (ps.map pV)) ∧ ps.length = i ∧ Good ps) ⟨s3, [], none, none, rfl, hp3, rfl, good_nil⟩ ?_ ?_⟩
    · rintro i σ H' hi ⟨s4, ps, v3, v4, rfl, hp4, hl, hg⟩
      rw [Int.zero_add]
      have hi20 : i ≤ 20 := by omega
      refine ⟨_, rfl, _, rfl, _, rfl, _, _, rfl, rfl, .inl ⟨by omega, by omega⟩, _, _, rfl, rfl, _, _, rfl, rfl, _, _, _, rfl, ⟨by decide, by decide⟩, by decide, ?_⟩
      generalize (fi + (i : Int) * (i : Int) + 1) * 16807 % 2147483399 = mx
      refine ⟨_, rfl, .inl ⟨rfl, _, SqL.of hp4⟩, ?_⟩
      have fin : ∀ (o : Option Nat) (v3 v4 : Option V), (∀ k, o = some k → k < ps.length) → rAppend (.ref p) [pV o] H' (fun _ H1 => Same H H1 ∧ ∃ (ps' : List (Option Nat)) (v3' v4' : Option V), ([some (.ref a), some (.ref p), some (.int fi), v3, v4] : St) = [some (.ref a), some (.ref p), some (.int fi), v3', v4'] ∧ H1 p = some (.lst (ps'.map pV)) ∧ ps'.length = i + 1 ∧ Good ps') := by
        intro o v3 v4 h
        refine ⟨p, _, _, rfl, rfl, hp4, small1000 (by rw [List.length_map]; omega), same_fresh hp s4, ps ++ [o], v3, v4, rfl, ?_, by simp [hl], good_snoc hg h⟩
        rw [upd_same]
        simp
      refine ⟨_, rfl, rfl, _, rfl, ite2 (fun _ => iteT (fin none _ _ (fun k e => by cases e))) (fun h0 => ⟨_, rfl, _, _, rfl, rfl, (by show (0 : Int) < 3; decide), rfl, _, rfl, ite2 (fun _ => fin none _ _ (fun k e => by cases e)) (fun _ => ?_)⟩)⟩
      have hi0 : 0 < i := by
        rcases Nat.eq_zero_or_pos i with e | e
        · exact absurd (by rw [e]; decide) h0
        · exact e
      refine ⟨_, rfl, _, _, rfl, rfl, ⟨by decide, by decide⟩, _, rfl, _, _, rfl, rfl, (by show (0 : Int) < (i : Int); omega), ?_⟩
      have hm0 : 0 ≤ mx / 3 % (i : Int) := Int.emod_nonneg _ (by omega)
      have hm1 : mx / 3 % (i : Int) < (i : Int) := Int.emod_lt_of_pos _ (by omega)
      obtain ⟨n, en⟩ := Int.eq_ofNat_of_zero_le hm0
      have e2 : V.int (mx / 3 % (i : Int)) = pV (some n) := by rw [en]; rfl
      have q := fin (some n) (some (.int i)) (some (.int mx)) (fun k e => by cases e; omega)
      rw [← e2] at q
      exact q
    · rintro σ H' ⟨s4, ps, v3, v4, rfl, hp4, hl, hg⟩
      exact ⟨_, rfl, k H' p ps s4 hp hp4 hg (by omega) (by omega)⟩
theorem ownN_most' {b : Nat} : ∀ (rs : List Row) (k : Nat), (∀ r ∈ rs, r.mn.toNat ≤ b) → ((rs.zipIdx k).map fun p => List.replicate p.1.mn.toNat p.2).flatten.length ≤ b * rs.length
  | [], _, _ => by simp
  | r :: rs, k, h => by
    have h1 := h r List.mem_cons_self
    have ih := ownN_most' (b := b) rs (k + 1) fun x hx => h x (List.mem_cons_of_mem _ hx)
    rw [List.zipIdx_cons, List.map_cons, List.flatten_cons, List.length_append, List.length_replicate, List.length_cons, Nat.mul_add, Nat.mul_one]
    show r.mn.toNat + _ ≤ _
    omega
theorem ownN_most {b : Nat} (rs : List Row) (h : ∀ r ∈ rs, r.mn.toNat ≤ b) : (ownN rs).length ≤ b * rs.length := ownN_most' rs 0 h
theorem sc__law_basket : FnScope ["_law_script", "_law_kinds", "_law_first", "_law_lines", "_law_far", "_law_k", "_law_cell", "_law_many", "_law_special", "_law_price"] ["_law_script", "_law_kinds"] (defScope s__law_basket) := ⟨rfl, rfl, rfl, by decide +kernel, rfl, by decide +kernel, by decide +kernel⟩
theorem ok__law_basket (W : WB K mg d base) : FnOk P w K mg base CX0 3 d.f__law_basket d.fd__law_basket ["_law_script", "_law_kinds"] (spBas K d.c_Line d.c_Basket) := by
  refine FunD.ok W.d__law_basket.F sc__law_basket (fun vs H Q E h => ?_) (fun cdv A outer s H vs Q E hr h => ?_)
  · obtain ⟨a, ns, n, rfl, _⟩ := h
    rfl
  · obtain ⟨a, ns, n, rfl, hS, hn, hk, k⟩ := h
    have G__law_mix := ok__law_mix (P := P) (w := w) (base := base) W
    have G__law_coin := ok__law_coin (P := P) (w := w) (base := base) W
    have G_Line_init := ok_Line_init (P := P) (w := w) (base := base) W
    have G_Basket_init := ok_Basket_init (P := P) (w := w) (base := base) W
    have hr1 : Room 1 _ := hr.mono (by decide)
    refine ⟨_, pss_cons (ps_set (i := 2) sc__law_basket.nd rfl (Or.inl rfl) (pe_callB (call_sum rfl) (by rfl) W.B.sum b_sum (pa_cons (pe_slice sl_list (pv 0) po_none (po_some pe_int)) pa_nil)))
      (pss_cons (ps_set (i := 3) sc__law_basket.nd rfl (Or.inl rfl) (pe_lst pa_nil))
      (pss_cons (ps_set (i := 4) sc__law_basket.nd rfl (Or.inl rfl) (pe_cmpR op_eq (pe_op op_mod (pe_op op_fdiv (pv 2) pe_int) pe_int) pe_int (nomark _)))
      (pss_cons (ps_for PassesOwn.never rfl (pi_range1 rfl W.B.range (pa_cons (pe_cut (pe_ifExp (pt_val (pv 4)) (pe_op op_add pe_int (pe_op op_mod (pe_op op_fdiv (pv 2) pe_int) pe_int)) (pe_op op_add pe_int (pe_op op_mod (pe_op op_fdiv (pv 2) pe_int) pe_int)))) pa_nil)) (pg_name (i := 5) sc__law_basket.nd rfl (Or.inl rfl))
      (pss_cons (ps_set (i := 6) sc__law_basket.nd rfl (Or.inl rfl) (pe_call G__law_mix hr1 rfl W.d__law_mix.m W.d__law_mix.F.kp W.d__law_mix.b .nil pass0 (pa_cons (pe_op op_add (pe_op op_add (pv 2) (pe_op op_mul (pe_op op_mul pe_int (pv 5)) (pv 5))) pe_int) (pa_cons pe_int (pa_cons pe_int pa_nil)))))
      (pss_cons (ps_set (i := 7) sc__law_basket.nd rfl (Or.inl rfl) (pe_cut (pe_ifExp (pt_cmpR op_eq (pe_op op_mod (pv 6) pe_int) pe_int (nomark _)) pe_int (pe_op op_mod (pe_op op_fdiv (pv 6) pe_int) pe_int))))
      (pss_cons (ps_cut (ps_if (pt_val (pv 4)) (pss_one (ps_set (i := 7) sc__law_basket.nd rfl (Or.inl rfl) (pe_op op_mod (pe_op op_fdiv (pv 6) pe_int) pe_int))) (pss_nil)))
      (pss_cons (ps_set (i := 8) sc__law_basket.nd rfl (Or.inl rfl) pe_non)
      (pss_cons (ps_cut (ps_if (pt_cmpR op_eq (pe_op op_mod (pe_op op_fdiv (pv 6) pe_int) pe_int) pe_int (nomark _)) (pss_one (ps_set (i := 8) sc__law_basket.nd rfl (Or.inl rfl) (pe_call G__law_coin hr1 rfl W.d__law_coin.m W.d__law_coin.F.kp W.d__law_coin.b .nil pass0 (pa_cons (pe_call G__law_mix hr1 rfl W.d__law_mix.m W.d__law_mix.F.kp W.d__law_mix.b .nil pass0 (pa_cons (pv 6) (pa_cons pe_int (pa_cons pe_int pa_nil)))) pa_nil)))) (pss_nil)))
      (pss_cons (ps_set (i := 9) sc__law_basket.nd rfl (Or.inl rfl) (pe_call G__law_coin hr1 rfl W.d__law_coin.m W.d__law_coin.F.kp W.d__law_coin.b .nil pass0 (pa_cons (pe_call G__law_mix hr1 rfl W.d__law_mix.m W.d__law_mix.F.kp W.d__law_mix.b .nil pass0 (pa_cons (pv 6) (pa_cons pe_int (pa_cons pe_int pa_nil)))) pa_nil)))
      (pss_one (ps_expr (pe_bm PySem.F.plainAttrs_list PySem.F.slot_list_append PySem.F.type_list_append mt_append (pv 3) (pa_cons (pe_make (W.m_Line_init.mk' W.c_Line) G_Line_init hr rfl W.c_Line.m W.m_Line_init.b .nil pass0 (pa_cons (pe_op op_mod (pe_op op_fdiv (pv 6) pe_int) (pv 1)) (pa_cons (pv 9) (pa_cons (pv 7) (pa_cons (pv 8) pa_nil))))) pa_nil)))))))))))
      (pss_one (ps_ret (pe_make (W.m_Basket_init.mk' W.c_Basket) G_Basket_init hr rfl W.c_Basket.m W.m_Basket_init.b .nil pass0 (pa_cons (pv 3) (pa_cons (pe_call G__law_coin hr1 rfl W.d__law_coin.m W.d__law_coin.F.kp W.d__law_coin.b .nil pass0 (pa_cons (pe_op op_fdiv (pv 2) pe_int) pa_nil)) (pa_cons (pe_cmpR op_eq (pe_op op_mod (pv 2) pe_int) pe_int (nomark _)) pa_nil))))))))), ?_⟩
    refine ⟨_, rfl, _, rfl, a, _, rfl, hS, fun c hc => ?_⟩
    have s2 := same_new (o := .lst (cutV (ns.map V.int) none (some 2))) hc
    have e2 : cutV (ns.map V.int) none (some 2) = (ns.take 2).map V.int := sum_cut 2
    refine ⟨c, ns.take 2, rfl, SqL.of (by rw [upd_same, e2]), ?_⟩
    generalize upd H c (.lst (cutV (ns.map V.int) none (some 2))) = H2 at s2
    generalize (ns.take 2).sum = fi
    refine ⟨by decide, fun p hp => ?_⟩
    have s3 := s2.trans (same_new (o := .lst []) hp)
    have hp0 := s2.free hp
    have hp3 : (upd H2 p (.lst [])) p = some (.lst (([] : List Addr).map V.ref)) := upd_same
    generalize upd H2 p (.lst []) = H3 at s3 hp3
    refine ⟨_, rfl, _, _, rfl, rfl, ⟨by decide, by decide⟩, _, _, rfl, rfl, (by show (0 : Int) < 8; decide), rfl, ?_⟩
    generalize decide (V.int (fi / 11 % 8) = V.int 3) = far
    refine ⟨fun z H' => H' = H3 ∧ ∃ m : Int, z = .int m ∧ 0 ≤ m ∧ m ≤ 12 ∧ (far = false → m ≤ 4), ?_, ?_⟩
    · refine ⟨_, rfl, far, rfl, ?_⟩
      cases far with
      | true => exact iteT ⟨_, rfl, _, _, rfl, rfl, ⟨by decide, by decide⟩, _, _, rfl, rfl, (by show (0 : Int) < 8; decide), _, _, rfl, rfl, rfl, _, rfl, by omega, by omega, fun e => by cases e⟩
      | false => exact iteF ⟨_, rfl, _, _, rfl, rfl, ⟨by decide, by decide⟩, _, _, rfl, rfl, (by show (0 : Int) < 4; decide), _, _, rfl, rfl, rfl, _, rfl, by omega, by omega, fun _ => by omega⟩
    rintro z H4 ⟨rfl, m, rfl, hm0, hm1, hm4⟩
    refine ⟨_, rfl, by omega, by omega, for_range (fun i σ H' => Same H H' ∧ ∃ (ls : List Addr) (rs : List Row) (v5 v6 v7 v8 v9 : Option V), σ = [some (.ref a), some (.int n), some (.int fi), some (.ref p), some (.bl far), v5, v6, v7, v8, v9] ∧ H' p = some (.lst (ls.map V.ref)) ∧ Lines d.c_Line H' ls rs ∧ rs.length = i ∧ (∀ r ∈ rs, r.Ok ∧ (0 ≤ r.kd ∧ r.kd < (n : Int)) ∧ r.mn ≤ 15 ∧ (far = true → r.mn ≤ 1)))
      ⟨s3, [], [], none, none, none, none, none, rfl, hp3, .nil, rfl, fun r hr => by simp at hr⟩ ?_ ?_⟩
    · rintro i σ H' hi ⟨s4, ls, rs, v5, v6, v7, v8, v9, rfl, hp4, hL, hl, hrs⟩
      rw [Int.zero_add]
      have hi12 : i < 12 := by omega
      refine ⟨_, rfl, _, rfl, _, _, rfl, rfl, .inl ⟨by decide, by decide⟩, _, rfl, _, _, rfl, rfl, .inr ⟨by omega, by omega⟩, _, _, rfl, rfl, _, _, rfl, rfl, _, _, _, rfl, ⟨by decide, by decide⟩, by decide, ?_⟩
      generalize (fi + 31 * (i : Int) * (i : Int) + 1) * 69621 % 2147483629 = cell
      refine ⟨fun z H'' => H'' = H' ∧ ∃ q : Int, z = .int q ∧ 0 ≤ q ∧ q ≤ 15, ?_, ?_⟩
      · refine ⟨_, rfl, _, _, rfl, rfl, (by show (0 : Int) < 8; decide), rfl, _, rfl, ite2 (fun _ => ⟨rfl, 15, rfl, by decide, by decide⟩) (fun _ => ?_)⟩
        exact ⟨_, rfl, _, _, rfl, rfl, ⟨by decide, by decide⟩, _, _, rfl, rfl, (by show (0 : Int) < 5; decide), rfl, _, rfl, by omega, by omega⟩
      rintro z H'' ⟨rfl, q, rfl, hq0, hq1⟩
      refine ⟨fun σ' H1 => H1 = H'' ∧ ∃ q : Int, 0 ≤ q ∧ q ≤ 15 ∧ (far = true → q ≤ 1) ∧ σ' = [some (.ref a), some (.int n), some (.int fi), some (.ref p), some (.bl far), some (.int (i : Nat)), some (.int cell), some (.int q), v8, v9], ?_, ?_⟩
      · refine ⟨_, rfl, far, rfl, ?_⟩
        cases far with
        | true => exact iteT ⟨_, rfl, _, _, rfl, rfl, ⟨by decide, by decide⟩, _, _, rfl, rfl, (by show (0 : Int) < 2; decide), rfl, _, by omega, by omega, fun _ => by omega, rfl⟩
        | false => exact iteF ⟨rfl, q, hq0, hq1, (fun e => by cases e), rfl⟩
      rintro σ' H1 ⟨rfl, q, hq0, hq1, hqf, rfl⟩
      refine ⟨fun σ' H2 => Same H1 H2 ∧ ∃ ex : Option Int, (∀ z, ex = some z → 0 ≤ z ∧ z ≤ 1000000000000) ∧ σ' = [some (.ref a), some (.int n), some (.int fi), some (.ref p), some (.bl far), some (.int (i : Nat)), some (.int cell), some (.int q), some (oV ex), v9], ?_, ?_⟩
      · refine ⟨_, rfl, _, _, rfl, rfl, ⟨by decide, by decide⟩, _, _, rfl, rfl, (by show (0 : Int) < 2; decide), rfl, _, rfl, ite2 (fun _ => ?_) (fun _ => ⟨Same.refl _, none, (fun z e => by cases e), rfl⟩)⟩
        exact ⟨_, rfl, _, _, _, rfl, ⟨by decide, by decide⟩, by decide, _, rfl, fun H2 z s5 h0 h1 => ⟨s5, some z, fun z' e => by cases e; exact ⟨h0, h1⟩, rfl⟩⟩
      rintro σ' H2 ⟨s5, ex, hex, rfl⟩
      refine ⟨_, rfl, _, _, _, rfl, ⟨by decide, by decide⟩, by decide, _, rfl, fun H5 pr s6 h0 h1 => ?_⟩
      have s7 := s4.trans (s5.trans s6)
      have hp7 := s6 _ _ (s5 _ _ hp4)
      have kd0 : 0 ≤ cell / 80 % (n : Int) := Int.emod_nonneg _ (by omega)
      have kd1 : cell / 80 % (n : Int) < (n : Int) := Int.emod_lt_of_pos _ (by omega)
      refine ⟨_, rfl, .inl ⟨rfl, _, SqL.of hp7⟩, _, rfl, _, _, rfl, rfl, ⟨by decide, by decide⟩, _, rfl, _, _, rfl, rfl, (by show (0 : Int) < (n : Int); omega), _, rfl, _, rfl, _, rfl, mk_line (r := ⟨cell / 80 % (n : Int), pr, q, ex⟩) fun H8 x s8 fx hx => ?_⟩
      have hp8 := s8 _ _ hp7
      have ll := hL.len
      refine ⟨p, _, _, rfl, rfl, hp8, small1000 (by rw [List.length_map]; omega), ?_⟩
      refine ⟨same_fresh hp0 (s7.trans s8), ls ++ [x], rs ++ [⟨cell / 80 % (n : Int), pr, q, ex⟩], _, _, _, _, _, rfl, by rw [upd_same]; simp, ?_, by simp [hl], fun r hr => ?_⟩
      · exact ((((hL.same (s5.trans s6)).same s8).set hp8).snoc (hx.set hp8))
      · rcases List.mem_append.mp hr with h | h
        · exact hrs r h
        · have e : r = ⟨cell / 80 % (n : Int), pr, q, ex⟩ := by simpa using h
          subst e
          exact ⟨⟨h0, h1, hq0, (by show q ≤ 60; omega), hex⟩, ⟨kd0, kd1⟩, hq1, hqf⟩
    · rintro σ H' ⟨s4, ls, rs, v5, v6, v7, v8, v9, rfl, hp4, hL, hl, hrs⟩
      refine ⟨_, rfl, _, rfl, _, _, rfl, rfl, ⟨by decide, by decide⟩, _, rfl, fun H5 cg s5 h0 h1 => ?_⟩
      refine ⟨_, rfl, _, _, rfl, rfl, (by show (0 : Int) < 2; decide), rfl, mk_bask (SqL.of (s5 _ _ hp4)) fun H6 b l' s6 fb fl hl' hb => ?_⟩
      have s7 := s4.trans (s5.trans s6)
      refine k H6 b ⟨rs, cg, _⟩ s7 ((s4.trans s5).free fb) ⟨l', ls, hb, hl', (hL.same s5).same s6⟩ (by show rs.length ≤ 12; omega) (fun r hr => (hrs r hr).1) (fun r hr => (hrs r hr).2.1) ⟨h0, h1⟩ ?_
      show (ownN rs).length < 64
      cases hfar : far with
      | true =>
        have := ownN_most (b := 1) rs fun r hr => by
          have := (hrs r hr).2.2.2 hfar
          omega
        omega
      | false =>
        have := ownN_most (b := 15) rs fun r hr => by
          have := (hrs r hr).2.2.1
          omega
        have := hm4 hfar
        omega
theorem sc__law_under : FnScope ["_law_parents_here", "_law_one", "_law_other"] ["_law_parents_here", "_law_one", "_law_other"] (defScope s__law_under) := ⟨rfl, rfl, rfl, by decide +kernel, rfl, by decide +kernel, by decide +kernel⟩
theorem ok__law_under (W : WB K mg d base) : FnOk P w K mg base CX0 1 d.f__law_under d.fd__law_under ["_law_parents_here", "_law_one", "_law_other"] (spUnder K) := by
  refine FunD.ok W.d__law_under.F sc__law_under (fun vs H Q E h => ?_) (fun cdv A outer s H vs Q E hr h => ?_)
  · obtain ⟨a, ps, one, other, rfl, _⟩ := h
    rfl
  · obtain ⟨a, ps, one, other, rfl, hS, hg, ho, k⟩ := h
    refine ⟨_, pss_cons (ps_while PassesOwn.never (pt_cmpR op_notN (pv 1) pe_non (nomark _))
      (pss_cons (ps_if (pt_cmpR op_eq (pv 1) (pv 2) (nomark _)) (pss_one (ps_ret pe_bl)) (pss_nil))
      (pss_one (ps_set (i := 1) sc__law_under.nd rfl (Or.inl rfl) (pe_ix (r := rIxL K) ix_list (pv 0) (pv 1) (fun _ _ => rfl))))))
      (pss_one (ps_ret pe_bl)), ?_⟩
    refine while_by (fun σ H' => ∃ o : Option Nat, σ = [some (.ref a), some (pV o), some (.int other)] ∧ H' = H ∧ (∀ i, o = some i → i < ps.length) ∧ decide (other ∈ up ps one) = decide (other ∈ rest ps o))
      (fun σ _ => match σ with | [_, some (.int i), _] => i.toNat + 1 | _ => 0) ⟨some one, rfl, rfl, fun i e => by cases e; exact ho, rfl⟩ ?_ ?_
    · rintro σ H' ⟨o, rfl, rfl, hb, he⟩
      refine ⟨_, rfl, rfl, _, rfl, ?_⟩
      cases o with
      | none =>
        show if (!decide (V.non = V.non)) = true then _ else _
        rw [nn_non]
        refine iteF ?_
        show Q (.bl false) _
        have e : decide (other ∈ up ps one) = false := by rw [he]; simp [Kin.rest]
        rw [e] at k
        exact k
      | some i =>
        show if (!decide (V.int i = V.non)) = true then _ else _
        rw [nn_int]
        refine iteT ?_
        have hi := hb i rfl
        refine ⟨_, rfl, _, rfl, rfl, _, rfl, ?_⟩
        show if decide (V.int i = V.int other) = true then _ else _
        rw [eq_int]
        obtain ⟨o, eo⟩ : ∃ o, ps[i]? = some o := ⟨ps[i], by simp [hi]⟩
        refine ite2 (fun h => ?_) (fun h => ?_)
        · have h' : i = other := of_decide_eq_true h
          subst h'
          have e : decide (i ∈ up ps one) = true := by
            rw [he]
            show decide (i ∈ up ps i) = true
            rw [up_eq hg eo]
            simp
          rw [e] at k
          exact k
        · have h' : ¬ i = other := fun z => h (decide_eq_true z)
          refine ⟨_, rfl, _, rfl, a, _, _, pV o, rfl, rfl, hS, atI_nat (by simp [eo]), ?_⟩
          refine ⟨⟨o, rfl, rfl, fun j e => ?_, ?_⟩, ?_⟩
          · subst e
            have := hg i j eo
            omega
          · rw [he]
            show decide (other ∈ up ps i) = _
            rw [up_eq hg eo]
            have : ¬ other = i := fun z => h' z.symm
            simp [this]
          · cases o with
            | none => exact Nat.succ_pos _
            | some j =>
              have := hg i j eo
              show ((j : Int)).toNat + 1 < ((i : Int)).toNat + 1
              omega
    · rintro σ H' Q' Q'' hq ⟨v, h1, h2, h3⟩
      exact ⟨v, h1, h2, by obtain ⟨b, e, q⟩ := h3; exact ⟨b, e, hq _ _ q⟩⟩
theorem sc__law_about : FnScope ["_law_parents_here", "_law_basket_here", "_law_standing", "_law_kind", "_law_lone", "_law_told", "_law_piece", "_law_line"] ["_law_parents_here", "_law_basket_here", "_law_standing", "_law_kind", "_law_lone"] (defScope s__law_about) := ⟨rfl, rfl, rfl, by decide +kernel, rfl, by decide +kernel, by decide +kernel⟩
theorem ok__law_about (W : WB K mg d base) : FnOk P w K mg base CX0 2 d.f__law_about d.fd__law_about ["_law_parents_here", "_law_basket_here", "_law_standing", "_law_kind", "_law_lone"] (spLAbout K d.c_Line d.c_Basket d.c_Standing) := by
  refine FunD.ok W.d__law_about.F sc__law_about (fun vs H Q E h => ?_) (fun cdv A outer s H vs Q E hr h => ?_)
  · obtain ⟨a, b, x, ps, B, S, kind, lone, rfl, _⟩ := h
    rfl
  · obtain ⟨a, b, x, ps, B, S, kind, lone, rfl, hA, ⟨l, ls, ⟨dxb, fsb, hb, lb1, lb2, lb3⟩, hl, hL⟩, ⟨o, p, mk, ⟨dxs, fss, hx, l1, l2, l3, l4, l5⟩, ho, hp, hmk⟩, wf, k⟩ := h
    have G__law_under := ok__law_under (P := P) (w := w) (base := base) W
    refine ⟨_, pss_cons (ps_set (i := 5) sc__law_about.nd rfl (Or.inl rfl) (pe_lst pa_nil))
      (pss_cons (ps_for PassesOwn.never rfl (pi_range1 rfl W.B.range (pa_cons (pe_callB call_len_seq (by rfl) W.B.len b_len (pa_cons (pe_fld (pv 2) rfl) pa_nil)) pa_nil)) (pg_name (i := 6) sc__law_about.nd rfl (Or.inl rfl))
      (pss_cons (ps_set (i := 7) sc__law_about.nd rfl (Or.inl rfl) (pe_ix (r := rIxL K) ix_list (pe_fld (pv 2) rfl) (pv 6) (fun _ _ => rfl)))
      (pss_one (ps_if (PW.pt (pw_or (pt_cmpR op_isN (pv 3) pe_non (nomark _)) (pw_or1 (pt_val (pe_call G__law_under hr rfl W.d__law_under.m W.d__law_under.F.kp W.d__law_under.b .nil pass0 (pa_cons (pv 0) (pa_cons (pe_fld (pe_ix (r := rIxL K) ix_list (pe_fld (pv 1) rfl) (pv 7) (fun _ _ => rfl)) rfl) (pa_cons (pv 3) pa_nil)))))))) (pss_one (ps_if (PW.pt (pw_or (pt_not (pt_val (pv 4))) (pw_or1 (pt_not (pt_val (pe_ix (r := rIxL K) ix_list (pe_fld (pv 2) rfl) (pv 7) (fun _ _ => rfl))))))) (pss_one (ps_expr (pe_bm PySem.F.plainAttrs_list PySem.F.slot_list_append PySem.F.type_list_append mt_append (pv 5) (pa_cons (pv 6) pa_nil)))) (pss_nil))) (pss_nil)))))
      (pss_one (ps_ret (pv 5)))), ?_⟩
    refine ⟨by decide, fun q hq => ?_⟩
    have s1 := same_new (o := .lst []) hq
    have np := wf.np
    have lenO : (((S.ow.map iV).length : Nat) : Int).toNat = S.ow.length := by simp
    refine ⟨_, rfl, x, d.c_Standing, dxs, fss, _, rfl, s1 _ _ hx, W.c_Standing.cl, W.n_Standing_owners, l1, o, _, rfl, .inl (SqL.of (s1 _ _ ho)), _, rfl, by omega, by rw [List.length_map]; omega, for_range (fun i σ H' => ∃ (v6 v7 : Option V), H' = upd H q (.lst (((List.range i).filter fun i => hits ps (kds B) kind lone S.mkd (S.ow.getD i 0)).map iV)) ∧ σ = [some (.ref a), some (.ref b), some (.ref x), some (pV kind), some (.bl lone), some (.ref q), v6, v7])
      ⟨none, none, rfl, rfl⟩ ?_ ?_⟩
    · rintro i σ H' hi ⟨v6, v7, rfl, rfl⟩
      rw [lenO] at hi
      rw [Int.zero_add]
      have s2 : Same H (upd H q (.lst (((List.range i).filter fun i => hits ps (kds B) kind lone S.mkd (S.ow.getD i 0)).map iV))) := same_new hq
      have hq2 : (upd H q (.lst (((List.range i).filter fun i => hits ps (kds B) kind lone S.mkd (S.ow.getD i 0)).map iV))) q = some (.lst (((List.range i).filter fun i => hits ps (kds B) kind lone S.mkd (S.ow.getD i 0)).map iV)) := upd_same
      have flen : ((List.range i).filter fun i => hits ps (kds B) kind lone S.mkd (S.ow.getD i 0)).length ≤ i := by
        have := List.length_filter_le (fun i => hits ps (kds B) kind lone S.mkd (S.ow.getD i 0)) (List.range i)
        simpa using this
      obtain ⟨ln, eln⟩ := at_of hi
      have hln := wf.line eln
      obtain ⟨r, er⟩ := at_of hln
      obtain ⟨lx, elx⟩ := at_of (xs := ls) (i := ln) (by rw [hL.len]; exact hln)
      obtain ⟨dxl, fsl, hlx, lk1, _⟩ := (hL.get elx er).same s2
      have hkd := wf.kd r (List.mem_of_getElem? er)
      obtain ⟨kn, ekn⟩ := Int.eq_ofNat_of_zero_le hkd.1
      have hkn : kn < ps.length := by omega
      obtain ⟨mv, emv⟩ := at_of (xs := S.mkd) (i := ln) (by rw [wf.lm]; exact hln)
      have ev : hits ps (kds B) kind lone S.mkd (S.ow.getD i 0) = (kHit ps kind kn && (!lone || !mv)) := by
        unfold hits
        have e1 : S.ow.getD i 0 = ln := by rw [List.getD_eq_getElem?_getD, eln]; rfl
        have e2 : S.mkd.getD ln false = mv := by rw [List.getD_eq_getElem?_getD, emv]; rfl
        rw [e1, e2, kds_at er, ekn, Int.toNat_natCast]
      have no : hits ps (kds B) kind lone S.mkd (S.ow.getD i 0) = false → ∀ v6 v7 : Option V, ∃ (v6' v7' : Option V), upd H q (.lst (((List.range i).filter fun i => hits ps (kds B) kind lone S.mkd (S.ow.getD i 0)).map iV)) = upd H q (.lst (((List.range (i + 1)).filter fun i => hits ps (kds B) kind lone S.mkd (S.ow.getD i 0)).map iV)) ∧
          ([some (.ref a), some (.ref b), some (.ref x), some (pV kind), some (.bl lone), some (.ref q), v6, v7] : St) = [some (.ref a), some (.ref b), some (.ref x), some (pV kind), some (.bl lone), some (.ref q), v6', v7'] := fun e v6 v7 => ⟨v6, v7, by rw [abt_step, e]; simp, rfl⟩
      have yes : hits ps (kds B) kind lone S.mkd (S.ow.getD i 0) = true → ∀ v6 v7 : Option V, ∃ (v6' v7' : Option V), upd (upd H q (.lst (((List.range i).filter fun i => hits ps (kds B) kind lone S.mkd (S.ow.getD i 0)).map iV))) q (.lst (((List.range i).filter fun i => hits ps (kds B) kind lone S.mkd (S.ow.getD i 0)).map iV ++ [V.int (i : Nat)])) = upd H q (.lst (((List.range (i + 1)).filter fun i => hits ps (kds B) kind lone S.mkd (S.ow.getD i 0)).map iV)) ∧
          ([some (.ref a), some (.ref b), some (.ref x), some (pV kind), some (.bl lone), some (.ref q), v6, v7] : St) = [some (.ref a), some (.ref b), some (.ref x), some (pV kind), some (.bl lone), some (.ref q), v6', v7'] := fun e v6 v7 => ⟨v6, v7, by
            rw [abt_step, e, if_pos rfl, List.map_append]
            funext y
            unfold upd
            split <;> rfl, rfl⟩
      generalize upd H q (.lst (((List.range i).filter fun i => hits ps (kds B) kind lone S.mkd (S.ow.getD i 0)).map iV)) = H2 at *
      have atO : atI (S.ow.map iV) (i : Int) = some (.int (ln : Nat)) := atI_nat (by rw [List.getElem?_map, eln]; rfl)
      refine ⟨_, rfl, x, d.c_Standing, dxs, fss, _, rfl, s2 _ _ hx, W.c_Standing.cl, W.n_Standing_owners, l1, _, rfl, o, _, _, _, rfl, rfl, SqL.of (s2 _ _ ho), atO, ?_⟩
      have atM : atI (S.mkd.map V.bl) (ln : Int) = some (.bl mv) := atI_nat (by rw [List.getElem?_map, emv]; rfl)
      have sml : (((List.range i).filter fun i => hits ps (kds B) kind lone S.mkd (S.ow.getD i 0)).map iV).length < sizeLine := small1000 (by rw [List.length_map]; omega)
      cases kind with
      | none =>
        refine ⟨_, rfl, rfl, _, rfl, ?_⟩
        show if decide (V.non = V.non) = true then _ else _
        rw [show decide (V.non = V.non) = true by simp]
        refine iteT (iteT ⟨_, rfl, lone, rfl, ?_⟩)
        cases lone with
        | false => exact iteT (iteT ⟨_, rfl, .inl ⟨rfl, _, SqL.of hq2⟩, _, rfl, q, _, _, rfl, rfl, hq2, sml, yes (by rw [ev]; rfl) _ _⟩)
        | true =>
          refine iteF ⟨_, rfl, x, d.c_Standing, dxs, fss, _, rfl, s2 _ _ hx, W.c_Standing.cl, W.n_Standing_marked, l4, _, rfl, mk, _, _, _, rfl, rfl, SqL.of (s2 _ _ hmk), atM, mv, rfl, ?_⟩
          cases mv with
          | false => exact iteT ⟨_, rfl, .inl ⟨rfl, _, SqL.of hq2⟩, _, rfl, q, _, _, rfl, rfl, hq2, sml, yes (by rw [ev]; rfl) _ _⟩
          | true => exact iteF (no (by rw [ev]; rfl) _ _)
      | some kk =>
        refine ⟨_, rfl, rfl, _, rfl, ?_⟩
        show if decide (V.int (kk : Nat) = V.non) = true then _ else _
        rw [show decide (V.int (kk : Nat) = V.non) = false by simp]
        refine iteF ⟨_, rfl, _, rfl, b, d.c_Basket, dxb, fsb, _, rfl, s2 _ _ hb, W.c_Basket.cl, W.n_Basket_lines, lb1, _, rfl, l, _, _, .ref lx, rfl, rfl, SqL.of (s2 _ _ hl), atI_nat (by rw [List.getElem?_map, elx]; rfl), lx, d.c_Line, dxl, fsl, _, rfl, hlx, W.c_Line.cl, W.n_Line_kind, lk1, _, rfl, a, ps, kn, kk, by rw [ekn]; rfl, s2.seq hA, wf.good, hkn, _, rfl, ?_⟩
        have ev' : hits ps (kds B) (some kk) lone S.mkd (S.ow.getD i 0) = (decide (kk ∈ up ps kn) && (!lone || !mv)) := ev
        cases hu : decide (kk ∈ up ps kn) with
        | false => exact iteF (no (by rw [ev', hu]; rfl) _ _)
        | true =>
          rw [hu] at ev'
          refine iteT ⟨_, rfl, lone, rfl, ?_⟩
          cases lone with
          | false => exact iteT (iteT ⟨_, rfl, .inl ⟨rfl, _, SqL.of hq2⟩, _, rfl, q, _, _, rfl, rfl, hq2, sml, yes (by rw [ev']; rfl) _ _⟩)
          | true =>
            refine iteF ⟨_, rfl, x, d.c_Standing, dxs, fss, _, rfl, s2 _ _ hx, W.c_Standing.cl, W.n_Standing_marked, l4, _, rfl, mk, _, _, _, rfl, rfl, SqL.of (s2 _ _ hmk), atM, mv, rfl, ?_⟩
            cases mv with
            | false => exact iteT ⟨_, rfl, .inl ⟨rfl, _, SqL.of hq2⟩, _, rfl, q, _, _, rfl, rfl, hq2, sml, yes (by rw [ev']; rfl) _ _⟩
            | true => exact iteF (no (by rw [ev']; rfl) _ _)
    · rintro σ H' ⟨v6, v7, rfl, rfl⟩
      refine ⟨_, rfl, ?_⟩
      rw [lenO]
      exact k q hq
def spFits (K : PySem.W.Frag) (CM : Addr) : Sp := fun vs H Q _ => ∃ (mA a : Addr) (M : Mks) (ps : List (Option Nat)) (kn : Nat) (mk : Bool), vs = [.ref mA, .ref a, .int kn, .bl mk] ∧ MksIs CM H mA M ∧ SqL K H a (ps.map pV) ∧ Good ps ∧ kn < ps.length ∧ Q (.bl (kHit ps M.kind kn && (!M.lone || !mk))) H
theorem sc_fits : FnScope ["marks", "parents", "kind", "marked"] ["marks", "parents", "kind", "marked"] (defScope s_fits) := ⟨rfl, rfl, rfl, by decide +kernel, rfl, by decide +kernel, by decide +kernel⟩
theorem ok_fits (W : WB K mg d base) : FnOk P w K mg base CX0 2 d.f_fits d.fd_fits ["marks", "parents", "kind", "marked"] (spFits K d.c_Marks) := by
  refine FunD.ok W.d_fits.F sc_fits (fun vs H Q E h => ?_) (fun cdv A outer s H vs Q E hr h => ?_)
  · obtain ⟨mA, a, M, ps, kn, mk, rfl, _⟩ := h
    rfl
  · obtain ⟨mA, a, M, ps, kn, mk, rfl, ⟨dx, fs, hm, l1, l2, l3, l4, l5, l6⟩, hS, hg, hk, k⟩ := h
    have G_under := ok_under (P := P) (w := w) (base := base) W
    refine ⟨_, pss_cons (ps_cut (ps_if (PW.pt (pw_and (pt_val (pe_fld (pv 0) rfl)) (pw_and1 (pt_val (pv 3))))) (pss_one (ps_ret pe_bl)) (pss_nil)))
      (pss_one (ps_ret (pe_or (pe_cmpR op_isN (pe_fld (pv 0) rfl) pe_non (nomark _)) (pe_one (pe_call G_under hr rfl W.d_under.m W.d_under.F.kp W.d_under.b .nil pass0 (pa_cons (pv 1) (pa_cons (pv 2) (pa_cons (pe_fld (pv 0) rfl) pa_nil)))))))), ?_⟩
    refine ⟨fun σ' H' => σ' = [some (.ref mA), some (.ref a), some (.int kn), some (.bl mk)] ∧ H' = H ∧ (!M.lone || !mk) = true, ⟨_, rfl, mA, d.c_Marks, dx, fs, _, rfl, hm, W.c_Marks.cl, W.n_Marks_lone, l6, M.lone, rfl, ?_⟩, ?_⟩
    · cases e : M.lone with
      | false => exact iteF (iteF ⟨rfl, rfl, rfl⟩)
      | true =>
        refine iteT ⟨_, rfl, mk, rfl, ?_⟩
        cases mk with
        | false => exact iteF ⟨rfl, rfl, rfl⟩
        | true =>
          refine iteT ?_
          rw [e, show (kHit ps M.kind kn && (!true || !true)) = false by simp] at k
          exact k
    · rintro σ' H' ⟨rfl, rfl, hh⟩
      rw [hh, Bool.and_true] at k
      cases ek : M.kind with
      | none =>
        rw [ek] at l1 k
        refine ⟨_, rfl, mA, d.c_Marks, dx, fs, _, rfl, hm, W.c_Marks.cl, W.n_Marks_kind, l1, rfl, _, rfl, ?_⟩
        show if decide (V.non = V.non) = true then _ else _
        rw [show decide (V.non = V.non) = true by simp]
        exact iteT k
      | some kk =>
        rw [ek] at l1 k
        refine ⟨_, rfl, mA, d.c_Marks, dx, fs, _, rfl, hm, W.c_Marks.cl, W.n_Marks_kind, l1, rfl, _, rfl, ?_⟩
        show if decide (V.int (kk : Nat) = V.non) = true then _ else _
        rw [show decide (V.int (kk : Nat) = V.non) = false by simp]
        exact iteF ⟨_, rfl, _, rfl, _, rfl, mA, d.c_Marks, dx, fs, _, rfl, hm, W.c_Marks.cl, W.n_Marks_kind, l1, a, ps, kn, kk, rfl, hS, hg, hk, k⟩
theorem sc_about : FnScope ["voucher", "parents", "basket", "standing", "fitting"] ["voucher", "parents", "basket", "standing"] (defScope s_about) := ⟨rfl, rfl, rfl, by decide +kernel, rfl, by decide +kernel, by decide +kernel⟩
theorem ok_about (W : WB K mg d base) : FnOk P w K mg base CX0 3 d.f_about d.fd_about ["voucher", "parents", "basket", "standing"] (spAbout K d) := by
  refine FunD.ok W.d_about.F sc_about (fun vs H Q E h => ?_) (fun cdv A outer s H vs Q E hr h => ?_)
  · obtain ⟨v, a, b, x, V, ps, B, S, rfl, _⟩ := h
    rfl
  · obtain ⟨v, a, b, x, Vc, ps, B, S, rfl, hV, hA, hB, hS, wf, vo, k⟩ := h
    obtain ⟨mA, dxv, fsv, hv, lvm, _, hM, hh, htb⟩ := id hV
    obtain ⟨l, ls, ⟨dxb, fsb, hb, lb1, lb2, lb3⟩, hl, hL⟩ := id hB
    obtain ⟨o, p, mk, ⟨dxs, fss, hx, l1, l2, l3, l4, l5⟩, ho, hp, hmk⟩ := id hS
    have G_fits := ok_fits (P := P) (w := w) (base := base) W
    refine ⟨_, pss_cons (ps_set (i := 4) sc_about.nd rfl (Or.inr rfl) (pe_comp (N := ["line", "marked", "voucher", "parents"]) (CompScope.of (N := ["line", "marked", "voucher", "parents"]) (cap := [none, none, some 0, some 1]) (defScope s_about).names ["voucher", "parents", "basket", "standing", "fitting"] rfl rfl (by decide +kernel)) rfl (pi_zip2 rfl W.B.zip (pa_cons (pe_fld (pv 2) rfl) (pa_cons (pe_fld (pv 3) rfl) pa_nil))) (fun _ _ _ _ => pg_tupK (K := K) (n := 2) rfl (pgs_cons (pg_name (i := 0) (show (["line", "marked", "voucher", "parents"] : List Str).Nodup by decide +kernel) rfl (Or.inl rfl)) (pgs_cons (pg_name (i := 1) (show (["line", "marked", "voucher", "parents"] : List Str).Nodup by decide +kernel) rfl (Or.inl rfl)) pgs_nil))) (fun _ _ _ _ => (pe_call G_fits hr rfl W.d_fits.m W.d_fits.F.kp W.d_fits.b .nil pass0 (pa_cons (pe_fldK (K := K) (pv 2) rfl) (pa_cons (pv 3) (pa_cons (pe_fldK (K := K) (pv 0) rfl) (pa_cons (pv 1) pa_nil))))))))
      (pss_one (ps_ret (pe_compT (N := ["piece", "owner", "fitting"]) (CompScope.of (N := ["piece", "owner", "fitting"]) (cap := [none, none, some 4]) (defScope s_about).names ["voucher", "parents", "basket", "standing", "fitting"] rfl rfl (by decide +kernel)) rfl (pi_enum rfl W.B.enum (pa_cons (pe_fld (pv 3) rfl) pa_nil)) (fun _ _ _ _ => pg_tupK (K := K) (n := 2) rfl (pgs_cons (pg_name (i := 0) (show (["piece", "owner", "fitting"] : List Str).Nodup by decide +kernel) rfl (Or.inl rfl)) (pgs_cons (pg_name (i := 1) (show (["piece", "owner", "fitting"] : List Str).Nodup by decide +kernel) rfl (Or.inl rfl)) pgs_nil))) (fun _ _ _ _ => pif_one (pt_val (pe_ix (r := rIxL K) ix_list (pv 2) (pv 1) (fun _ _ => rfl)))) (fun _ _ _ _ => (pv 0))))), ?_⟩
    have np := wf.np
    have nl := wf.nl
    have lenL := hL.len
    have lenM := wf.lm
    have emin : min (ls.map V.ref).length (S.mkd.map V.bl).length = B.rs.length := by rw [List.length_map, List.length_map, lenL, lenM, Nat.min_self]
    refine ⟨_, rfl, b, d.c_Basket, dxb, fsb, _, rfl, hb, W.c_Basket.cl, W.n_Basket_lines, lb1, _, rfl, x, d.c_Standing, dxs, fss, _, rfl, hx, W.c_Standing.cl, W.n_Standing_marked, l4, l, mk, _, _, rfl, hl, hmk,
      comp_zip (xs := ls.map V.ref) (ys := S.mkd.map V.bl) (fun i σ zs H' => Same H H' ∧ zs = ((List.range i).map fun l => hits ps (kds B) Vc.ms.kind Vc.ms.lone S.mkd l).map V.bl ∧ ∃ v0 v1 : Option V, σ = [v0, v1, some (.ref v), some (.ref a)])
        ⟨Same.refl _, rfl, none, none, rfl⟩ (by rw [emin]; exact Nat.le_of_lt (small1000 (by omega))) (fun i σ zs H' _ h => ⟨h.1 _ _ hl, h.1 _ _ hmk, by rw [h.2.1]; simp⟩) ?_ ?_⟩
    · rintro i y m t σ zs H1 hy hm ⟨s1, rfl, v0, v1, rfl⟩ ht
      obtain ⟨lx, elx, rfl⟩ := ref_at hy
      obtain ⟨mv, emv, rfl⟩ := map_at hm
      obtain ⟨r, er, hr⟩ := hL.at elx
      have s2 := s1.trans (same_new (o := .tup [V.ref lx, V.bl mv]) ht)
      obtain ⟨dxl, fsl, hlx, lk1, _⟩ := hr.same s2
      have hkd := wf.kd r (List.mem_of_getElem? er)
      obtain ⟨kn, ekn⟩ := Int.eq_ofNat_of_zero_le hkd.1
      have hkn : kn < ps.length := by omega
      refine ⟨t, _, rfl, SqT.of upd_same, rfl, _, _, rfl, _, _, rfl, rfl, ?_⟩
      refine ⟨_, rfl, v, clsOf d Vc.so, dxv, fsv, _, rfl, s2 _ _ hv, cl_of W hh, na_of W hh, lvm, _, rfl, _, rfl, lx, d.c_Line, dxl, fsl, _, rfl, hlx, W.c_Line.cl, W.n_Line_kind, lk1, _, rfl, mA, a, Vc.ms, ps, kn, mv, by rw [ekn]; rfl, hM.same s2, s2.seq hA, wf.good, hkn, s2, ?_, _, _, rfl⟩
      have e1 : hits ps (kds B) Vc.ms.kind Vc.ms.lone S.mkd i = (kHit ps Vc.ms.kind kn && (!Vc.ms.lone || !mv)) := by
        unfold hits
        have e2 : S.mkd.getD i false = mv := by rw [List.getD_eq_getElem?_getD, emv]; rfl
        rw [e2, kds_at er, ekn, Int.toNat_natCast]
      rw [List.range_succ, List.map_append, List.map_append, ← e1]
      rfl
    rintro σ zs H1 ⟨s1, rfl, v0, v1, rfl⟩ D hD
    rw [emin]
    have s2 := s1.trans (same_new (o := .lst (((List.range B.rs.length).map fun l => hits ps (kds B) Vc.ms.kind Vc.ms.lone S.mkd l).map V.bl)) hD)
    have eD : (upd H1 D (.lst (((List.range B.rs.length).map fun l => hits ps (kds B) Vc.ms.kind Vc.ms.lone S.mkd l).map V.bl))) D = some (.lst (((List.range B.rs.length).map fun l => hits ps (kds B) Vc.ms.kind Vc.ms.lone S.mkd l).map V.bl)) := upd_same
    generalize upd H1 D (.lst (((List.range B.rs.length).map fun l => hits ps (kds B) Vc.ms.kind Vc.ms.lone S.mkd l).map V.bl)) = H2 at *
    refine ⟨_, rfl, x, d.c_Standing, dxs, fss, _, rfl, s2 _ _ hx, W.c_Standing.cl, W.n_Standing_owners, l1, o, _, rfl, s2 _ _ ho,
      compT_enum (xs := S.ow.map iV) (fun i σ ys H' => Same H2 H' ∧ ys = ((List.range i).filter fun i => hits ps (kds B) Vc.ms.kind Vc.ms.lone S.mkd (S.ow.getD i 0)).map iV ∧ ∃ v0 v1 : Option V, σ = [v0, v1, some (.ref D)])
        ⟨Same.refl _, rfl, none, none, rfl⟩ (by rw [List.length_map]; exact Nat.le_of_lt (small1000 (by omega))) (fun i σ zs H' _ h => ⟨h.1 _ _ (s2 _ _ ho), by rw [h.2.1, List.length_map]; have := List.length_filter_le (fun i => hits ps (kds B) Vc.ms.kind Vc.ms.lone S.mkd (S.ow.getD i 0)) (List.range i); simpa using this⟩) ?_ ?_⟩
    · rintro i y t σ zs H3 hy ⟨s3, rfl, v0, v1, rfl⟩ ht
      obtain ⟨ln, eln, rfl⟩ := map_at hy
      have hln := wf.line eln
      have s4 := s3.trans (same_new (o := .tup [V.int (i : Nat), iV ln]) ht)
      refine ⟨t, _, rfl, SqT.of upd_same, rfl, _, _, rfl, _, _, rfl, rfl, ?_⟩
      refine ⟨_, rfl, _, rfl, D, _, _, _, rfl, rfl, SqL.of (s4 _ _ eD), atI_nat (v := .bl (hits ps (kds B) Vc.ms.kind Vc.ms.lone S.mkd ln)) (by rw [List.getElem?_map, List.getElem?_map, List.getElem?_range hln]; rfl), _, rfl, ?_⟩
      have e1 : S.ow.getD i 0 = ln := by rw [List.getD_eq_getElem?_getD, eln]; rfl
      have st := abt_step (ps := ps) (kk := kds B) (kind := Vc.ms.kind) (lone := Vc.ms.lone) (S := S) (i := i)
      rw [e1] at st
      cases hh2 : hits ps (kds B) Vc.ms.kind Vc.ms.lone S.mkd ln with
      | false => exact iteF ⟨s4, by rw [st, hh2]; simp, _, _, rfl⟩
      | true => exact iteT ⟨_, rfl, s4, by rw [st, hh2, if_pos rfl, List.map_append]; rfl, _, _, rfl⟩
    · rintro σ zs H3 ⟨s3, rfl, v0, v1, rfl⟩ D2 hD2
      rw [List.length_map]
      have s4 := (s2.trans s3).trans (same_new (o := .lst ((abt ps (kds B) Vc.ms.kind Vc.ms.lone S).map iV)) hD2)
      exact k _ D2 s4 (none_of (s2.trans s3) hD2) upd_same
def spPricesOf (CS : Addr) : Sp := fun vs H Q _ => ∃ (x g : Addr) (S : Stnd) (is : List Nat), vs = [.ref x, .ref g] ∧ StndIs CS H x S ∧ H g = some (.lst (is.map iV)) ∧ (∀ i ∈ is, i < S.pr.length) ∧ is.length ≤ 720 ∧
  ∀ p, H p = none → Q (.ref p) (upd H p (.lst ((qs S.pr is).map V.int)))
theorem sc_prices_of : FnScope ["standing", "pieces"] ["standing", "pieces"] (defScope s_prices_of) := ⟨rfl, rfl, rfl, by decide +kernel, rfl, by decide +kernel, by decide +kernel⟩
theorem ok_prices_of (W : WB K mg d base) : FnOk P w K mg base CX0 1 d.f_prices_of d.fd_prices_of ["standing", "pieces"] (spPricesOf d.c_Standing) := by
  refine FunD.ok W.d_prices_of.F sc_prices_of (fun vs H Q E h => ?_) (fun cdv A outer s H vs Q E hr h => ?_)
  · obtain ⟨x, g, S, is, rfl, _⟩ := h
    rfl
  · obtain ⟨x, g, S, is, rfl, ⟨o, p, mk, ⟨dxs, fss, hx, l1, l2, l3, l4, l5⟩, ho, hp, hmk⟩, hg, hi, hl, k⟩ := h
    refine ⟨_, pss_one (ps_ret (pe_comp (N := ["piece", "standing"]) (CompScope.of (N := ["piece", "standing"]) (cap := [none, some 0]) (defScope s_prices_of).names ["standing", "pieces"] rfl rfl (by decide +kernel)) rfl (pi_list (pv 1)) (fun _ _ _ _ => pg_name (i := 0) (show (["piece", "standing"] : List Str).Nodup by decide +kernel) rfl (Or.inl rfl)) (fun _ _ _ _ => (pe_ix (r := rIxL K) ix_list (pe_fldK (K := K) (pv 1) rfl) (pv 0) (fun _ _ => rfl))))), ?_⟩
    refine ⟨_, rfl, g, rfl, ⟨_, SqL.of hg⟩, comp_list (xs := is.map iV) (fun j σ ys H' => H' = H ∧ ys = (qs S.pr (is.take j)).map V.int ∧ ∃ v, σ = [v, some (.ref x)]) ⟨rfl, rfl, none, rfl⟩ ?_ ?_ ?_ ?_⟩
    · rw [List.length_map]
      exact Nat.le_of_lt (small1000 (by omega))
    · rintro j σ ys H' hj ⟨rfl, rfl, _⟩
      exact ⟨SqL.of hg, by rw [List.length_map, qs_len, List.length_take]; rw [List.length_map] at hj; omega⟩
    · rintro j y σ ys H' hy ⟨rfl, rfl, v, rfl⟩
      obtain ⟨n, en, rfl⟩ : ∃ n, is[j]? = some n ∧ y = iV n := map_at hy
      obtain ⟨z, ez⟩ := at_of (hi n (List.mem_of_getElem? en))
      refine ⟨_, rfl, x, d.c_Standing, dxs, fss, _, rfl, hx, W.c_Standing.cl, W.n_Standing_prices, l2, _, rfl, p, _, _, _, rfl, rfl, SqL.of hp, atI_nat (by rw [List.getElem?_map, ez]; rfl), rfl, ?_, _, rfl⟩
      rw [List.take_add_one, en]
      simp [qs, ez]
    · rintro σ ys H' ⟨rfl, rfl, v, rfl⟩ D hD
      rw [List.length_map, List.take_length]
      exact k D hD
def spSumOf (CS : Addr) : Sp := fun vs H Q _ => ∃ (x g : Addr) (S : Stnd) (is : List Nat), vs = [.ref x, .ref g] ∧ StndIs CS H x S ∧ H g = some (.lst (is.map iV)) ∧ (∀ i ∈ is, i < S.pr.length) ∧ is.length ≤ 720 ∧
  ∀ H', Same H H' → Q (.int (qs S.pr is).sum) H'
theorem sc_sum_of_prices : FnScope ["standing", "pieces"] ["standing", "pieces"] (defScope s_sum_of_prices) := ⟨rfl, rfl, rfl, by decide +kernel, rfl, by decide +kernel, by decide +kernel⟩
theorem ok_sum_of_prices (W : WB K mg d base) : FnOk P w K mg base CX0 2 d.f_sum_of_prices d.fd_sum_of_prices ["standing", "pieces"] (spSumOf d.c_Standing) := by
  refine FunD.ok W.d_sum_of_prices.F sc_sum_of_prices (fun vs H Q E h => ?_) (fun cdv A outer s H vs Q E hr h => ?_)
  · obtain ⟨x, g, S, is, rfl, _⟩ := h
    rfl
  · obtain ⟨x, g, S, is, rfl, hS, hg, hi, hl, k⟩ := h
    have G_prices_of := ok_prices_of (P := P) (w := w) (base := base) W
    refine ⟨_, pss_one (ps_ret (pe_callB (call_sum rfl) (by rfl) W.B.sum b_sum (pa_cons (pe_call G_prices_of hr rfl W.d_prices_of.m W.d_prices_of.F.kp W.d_prices_of.b .nil pass0 (pa_cons (pv 0) (pa_cons (pv 1) pa_nil))) pa_nil))), ?_⟩
    exact ⟨_, rfl, _, rfl, x, g, S, is, rfl, hS, hg, hi, hl, fun p hp => ⟨p, _, rfl, SqL.of upd_same, k _ (same_new hp)⟩⟩
def spAtMost : Sp := fun vs H Q _ => ∃ (m : Option Int) (n : Int), vs = [oV m, .int n] ∧ Q (.int (atM m n)) H
theorem sc_at_most : FnScope ["most", "number"] ["most", "number"] (defScope s_at_most) := ⟨rfl, rfl, rfl, by decide +kernel, rfl, by decide +kernel, by decide +kernel⟩
theorem ok_at_most (W : WB K mg d base) : FnOk P w K mg base CX0 1 d.f_at_most d.fd_at_most ["most", "number"] spAtMost := by
  refine FunD.ok W.d_at_most.F sc_at_most (fun vs H Q E h => ?_) (fun cdv A outer s H vs Q E hr h => ?_)
  · obtain ⟨m, n, rfl, _⟩ := h
    rfl
  · obtain ⟨m, n, rfl, k⟩ := h
    refine ⟨_, pss_cons (ps_if (pt_cmpR op_isN (pv 0) pe_non (nomark _)) (pss_one (ps_ret (pv 1))) (pss_nil))
      (pss_one (ps_ret (pe_callB (call_min2 rfl) (by rfl) W.B.min b_min (pa_cons (pv 0) (pa_cons (pv 1) pa_nil))))), ?_⟩
    cases m with
    | none =>
      refine ⟨_, rfl, rfl, _, rfl, ?_⟩
      show if decide (V.non = V.non) = true then _ else _
      rw [show decide (V.non = V.non) = true by simp]
      exact iteT ⟨_, rfl, k⟩
    | some z =>
      refine ⟨_, rfl, rfl, _, rfl, ?_⟩
      show if decide (V.int z = V.non) = true then _ else _
      rw [show decide (V.int z = V.non) = false by simp]
      refine iteF ⟨_, rfl, _, rfl, _, _, rfl, ?_⟩
      have e : atM (some z) n = if n < z then n else z := by
        show min z n = _
        split <;> omega
      rw [e] at k
      exact k
def spCutCarr (d : D) : Sp := fun vs H Q _ => ∃ (v x : Addr) (V : Vch) (S : Stnd), vs = [.ref v, .ref x] ∧ VchIs d H v V ∧ StndIs d.c_Standing H x S ∧ Q (.int (if ask_Carriage V.so = true then atM V.ms.most S.cg else 0)) H
theorem sc_cut_of_carriage : FnScope ["voucher", "standing"] ["voucher", "standing"] (defScope s_cut_of_carriage) := ⟨rfl, rfl, rfl, by decide +kernel, rfl, by decide +kernel, by decide +kernel⟩
theorem ok_cut_of_carriage (W : WB K mg d base) : FnOk P w K mg base CX0 2 d.f_cut_of_carriage d.fd_cut_of_carriage ["voucher", "standing"] (spCutCarr d) := by
  refine FunD.ok W.d_cut_of_carriage.F sc_cut_of_carriage (fun vs H Q E h => ?_) (fun cdv A outer s H vs Q E hr h => ?_)
  · obtain ⟨v, x, V, S, rfl, _⟩ := h
    rfl
  · obtain ⟨v, x, Vc, S, rfl, ⟨mA, dxv, fsv, hv, lvm, _, ⟨dxm, fsm, hm, m1, m2, m3, m4, m5, m6⟩, hh, htb⟩, ⟨o, p, mk, ⟨dxs, fss, hx, l1, l2, l3, l4, l5⟩, ho, hp, hmk⟩, k⟩ := h
    have G_at_most := ok_at_most (P := P) (w := w) (base := base) W
    refine ⟨_, pss_cons (ps_if (pt_val (pe_callB call_isinst (by rfl) W.B.isi b_isi (pa_cons (pv 0) (pa_cons (pe_glob (v := .ref d.c_Carriage) (by rfl) W.g_Carriage rfl) pa_nil)))) (pss_one (ps_ret (pe_call G_at_most hr rfl W.d_at_most.m W.d_at_most.F.kp W.d_at_most.b .nil pass0 (pa_cons (pe_fld (pe_fld (pv 0) rfl) rfl) (pa_cons (pe_fld (pv 1) rfl) pa_nil))))) (pss_nil))
      (pss_one (ps_ret pe_int)), ?_⟩
    have I := isi_of W hh
    refine ⟨_, rfl, _, _, _, _, rfl, .inr ⟨_, rfl⟩, TyOf.ins hv (cl_of W hh) I.ha I.hn I.ht I.hm, kit_Carriage W hh, _, rfl, ?_⟩
    cases e : ask_Carriage Vc.so with
    | false =>
      rw [e, if_neg Bool.false_ne_true] at k
      exact iteF k
    | true =>
      rw [e, if_pos rfl] at k
      exact iteT ⟨_, rfl, v, clsOf d Vc.so, dxv, fsv, _, rfl, hv, cl_of W hh, na_of W hh, lvm, mA, d.c_Marks, dxm, fsm, _, rfl, hm, W.c_Marks.cl, W.n_Marks_most, m3, _, rfl, x, d.c_Standing, dxs, fss, _, rfl, hx, W.c_Standing.cl, W.n_Standing_carriage, l3, _, _, rfl, k⟩
def kvOf (G : List (Nat × List Nat)) (gl : List Addr) : List (Key × V) := List.zipWith (fun p r => (Sum.inl (p.1 : Int), V.ref r)) G gl
theorem kvOf_snd : ∀ {G : List (Nat × List Nat)} {gl : List Addr}, gl.length = G.length → (kvOf G gl).map Prod.snd = gl.map V.ref
  | [], [], _ => rfl
  | [], r :: gl, h => by cases h
  | p :: G, [], h => by cases h
  | p :: G, r :: gl, h => by
    have ih := kvOf_snd (G := G) (gl := gl) (by simpa using h)
    show V.ref r :: (kvOf G gl).map Prod.snd = V.ref r :: gl.map V.ref
    rw [ih]
theorem kvOf_at : ∀ {G : List (Nat × List Nat)} {gl : List Addr} (o a : Nat), gl.length = G.length →
    (atK (kvOf G gl) (Sum.inl (o : Int)) = none ∧ ins G o a = G ++ [(o, [a])]) ∨ ∃ (j : Nat) (g : List Nat) (r : Addr), G[j]? = some (o, g) ∧ gl[j]? = some r ∧ atK (kvOf G gl) (Sum.inl (o : Int)) = some (.ref r) ∧ ins G o a = G.set j (o, g ++ [a])
  | [], gl, o, a, h => .inl ⟨rfl, rfl⟩
  | (l, g) :: G, [], o, a, h => by cases h
  | (l, g) :: G, r :: gl, o, a, h => by
    have hl : gl.length = G.length := by simpa using h
    unfold ins
    by_cases e : l = o
    · subst e
      exact .inr ⟨0, g, r, rfl, rfl, by simp [kvOf, atK], by rw [if_pos rfl]; rfl⟩
    · rw [if_neg e]
      have e' : ¬ ((l : Int) = (o : Int)) := fun z => e (by omega)
      have ea : atK (kvOf ((l, g) :: G) (r :: gl)) (Sum.inl (o : Int)) = atK (kvOf G gl) (Sum.inl (o : Int)) := by
        simp [kvOf, atK, List.find?_cons, e']
      rcases kvOf_at o a hl with ⟨h1, h2⟩ | ⟨j, g', r', h1, h2, h3, h4⟩
      · exact .inl ⟨by rw [ea]; exact h1, by rw [h2]; rfl⟩
      · exact .inr ⟨j + 1, g', r', by simpa using h1, by simpa using h2, by rw [ea]; exact h3, by rw [h4]; rfl⟩
theorem kvOf_set {G : List (Nat × List Nat)} {gl : List Addr} {j o : Nat} {g g' : List Nat} (h : G[j]? = some (o, g)) : kvOf (G.set j (o, g')) gl = kvOf G gl := by
  unfold kvOf
  apply List.ext_getElem?
  intro i
  rw [List.getElem?_zipWith, List.getElem?_zipWith]
  by_cases e : j = i
  · subst e
    have hj := at_lt h
    rw [List.getElem?_set_self hj, h]
    cases gl[j]? <;> rfl
  · rw [List.getElem?_set_ne e]
theorem kvOf_snoc {G : List (Nat × List Nat)} {gl : List Addr} {o : Nat} {g : List Nat} {e : Addr} (h : gl.length = G.length) : kvOf (G ++ [(o, g)]) (gl ++ [e]) = kvOf G gl ++ [(Sum.inl (o : Int), .ref e)] := by
  unfold kvOf
  rw [List.zipWith_append h.symm]
  rfl
structure Ptd (H H' : Hp) (dd : Addr) (gl : List Addr) (G : List (Nat × List Nat)) : Prop where
  sm : Same H H'
  nd : gl.Nodup
  fg : ∀ r ∈ gl, H r = none ∧ r ≠ dd
  dk : H' dd = some (.dK (kvOf G gl))
  ls : P2 (fun r p => H' r = some (.lst (p.2.map iV))) gl G
theorem Ptd.more {H H' : Hp} {dd e : Addr} {gl : List Addr} {G : List (Nat × List Nat)} (h : Ptd H H' dd gl G) (fd : H dd = none) (he : H' e = none) {o a : Nat} :
    Ptd H (upd (upd (upd H' e (.lst [])) dd (.dK (kvOf G gl ++ [(Sum.inl (o : Int), .ref e)]))) e (.lst [iV a])) dd (gl ++ [e]) (G ++ [(o, [a])]) := by
  have e0 : H e = none := none_of h.sm he
  have ned : e ≠ dd := fun z => by rw [z, h.dk] at he; cases he
  refine ⟨same_fresh e0 (same_fresh fd (h.sm.trans (same_new he)) (nx_upd (nx h.dk)))  (nx_upd (nx upd_same)), ?_, fun r hr => ?_, ?_, ?_⟩
  · refine List.nodup_append.mpr ⟨h.nd, by simp, fun x hx y hy z => ?_⟩
    rw [List.mem_singleton] at hy
    subst hy z
    obtain ⟨i, hi⟩ := List.mem_iff_getElem?.mp hx
    obtain ⟨p, _, hp⟩ := h.ls.at hi
    rw [hp] at he
    cases he
  · rcases List.mem_append.mp hr with hr | hr
    · exact h.fg r hr
    · rw [List.mem_singleton] at hr
      subst hr
      exact ⟨e0, ned⟩
  · rw [upd_ne ned.symm, upd_same, kvOf_snoc h.ls.len]
  · refine P2.snoc (P2.of h.ls.len fun i r p e1 e2 => ?_) upd_same
    have hp := h.ls.get e1 e2
    rw [upd_ne (ne_of_none hp he), upd_ne (h.fg r (List.mem_of_getElem? e1)).2, upd_ne (ne_of_none hp he)]
    exact hp
theorem Ptd.put {H H' : Hp} {dd e r : Addr} {gl : List Addr} {G : List (Nat × List Nat)} (h : Ptd H H' dd gl G) (he : H' e = none) {j o a : Nat} {g : List Nat} (h1 : G[j]? = some (o, g)) (h2 : gl[j]? = some r) :
    Ptd H (upd (upd H' e (.lst [])) r (.lst (g.map iV ++ [iV a]))) dd gl (G.set j (o, g ++ [a])) := by
  have hr := h.fg r (List.mem_of_getElem? h2)
  have hrv := h.ls.get h2 h1
  refine ⟨same_fresh hr.1 (h.sm.trans (same_new he)), h.nd, h.fg, ?_, P2.of (by rw [List.length_set]; exact h.ls.len) fun i r' p e1 e2 => ?_⟩
  · rw [upd_ne hr.2.symm, upd_ne (ne_of_none h.dk he), h.dk, kvOf_set h1]
  · by_cases eji : j = i
    · subst eji
      rw [h2] at e1
      cases e1
      rw [List.getElem?_set_self (at_lt h1)] at e2
      cases e2
      rw [upd_same, List.map_append]
      rfl
    · rw [List.getElem?_set_ne eji] at e2
      have hp := h.ls.get e1 e2
      have hne : r' ≠ r := fun z => by
        subst z
        exact eji ((List.getElem?_inj (at_lt h2) h.nd).mp (h2.trans e1.symm))
      rw [upd_ne hne, upd_ne (ne_of_none hp he)]
      exact hp
def spParted (CS : Addr) : Sp := fun vs H Q _ => ∃ (x pa : Addr) (S : Stnd) (is : List Nat), vs = [.ref x, .ref pa] ∧ StndIs CS H x S ∧ H pa = some (.lst (is.map iV)) ∧ (∀ i ∈ is, i < S.ow.length) ∧ is.length ≤ 720 ∧
  ∀ (H' : Hp) (p : Addr) (gl : List Addr), Same H H' → H p = none → H' p = some (.lst (gl.map V.ref)) → P2 (fun r g => H' r = some (.lst (g.map iV))) gl ((parted (fun i => S.ow.getD i 0) is).map Prod.snd) → (∀ r ∈ gl, H r = none) → Q (.ref p) H'
theorem P2.mapR {α β γ : Type} {R : α → γ → Prop} {f : β → γ} {as : List α} {bs : List β} (h : P2 (fun a b => R a (f b)) as bs) : P2 R as (bs.map f) := by
  induction h with
  | nil => exact .nil
  | cons r t ih => exact .cons r ih
theorem sc_parted_by_line : FnScope ["standing", "pieces", "by_line", "piece"] ["standing", "pieces"] (defScope s_parted_by_line) := ⟨rfl, rfl, rfl, by decide +kernel, rfl, by decide +kernel, by decide +kernel⟩
theorem ok_parted_by_line (W : WB K mg d base) : FnOk P w K mg base CX0 1 d.f_parted_by_line d.fd_parted_by_line ["standing", "pieces"] (spParted d.c_Standing) := by
  refine FunD.ok W.d_parted_by_line.F sc_parted_by_line (fun vs H Q E h => ?_) (fun cdv A outer s H vs Q E hr h => ?_)
  · obtain ⟨x, pa, S, is, rfl, _⟩ := h
    rfl
  · obtain ⟨x, pa, S, is, rfl, ⟨o, p, mk, ⟨dxs, fss, hx, l1, l2, l3, l4, l5⟩, ho, hp, hmk⟩, hpa, hi, hl, k⟩ := h
    refine ⟨_, pss_cons (ps_set (i := 2) sc_parted_by_line.nd rfl (Or.inl rfl) pe_dict0)
      (pss_cons (ps_for PassesOwn.never rfl (pi_list (pv 1)) (pg_name (i := 3) sc_parted_by_line.nd rfl (Or.inl rfl))
      (pss_one (ps_expr (pe_bm PySem.F.plainAttrs_list PySem.F.slot_list_append PySem.F.type_list_append mt_append (pe_bm PySem.F.plainAttrs_dict PySem.F.slot_dict_setdefault PySem.F.type_dict_setdefault mt_setdefault (pv 2) (pa_cons (pe_ix (r := rIxL K) ix_list (pe_fld (pv 0) rfl) (pv 3) (fun _ _ => rfl)) (pa_cons (pe_lst pa_nil) pa_nil))) (pa_cons (pv 3) pa_nil)))))
      (pss_one (ps_ret (pe_listvals rfl (by rfl) W.B.list (pv 2))))), ?_⟩
    refine fun dd hd => ?_
    have s1 := same_new (o := .dK []) hd
    refine ⟨_, rfl, pa, rfl, ⟨_, SqL.of (s1 _ _ hpa)⟩, for_list (K := K) (a := pa) (xs := is.map iV) (fun i σ H' => (∃ v3 : Option V, σ = [some (.ref x), some (.ref pa), some (.ref dd), v3]) ∧ ∃ gl, Ptd H H' dd gl (parted (fun i => S.ow.getD i 0) (is.take i)))
      ⟨⟨none, rfl⟩, [], s1, by simp, fun r hr => by simp at hr, upd_same, .nil⟩ (fun i σ H' _ h => SqL.of (h.2.choose_spec.sm _ _ hpa)) ?_ ?_⟩
    · rintro i y σ H1 hy ⟨⟨v3, rfl⟩, gl, Z⟩
      obtain ⟨a, ea, rfl⟩ := map_at hy
      have hil := at_lt ea
      obtain ⟨ln, eln⟩ := at_of (hi a (List.mem_of_getElem? ea))
      have eg : S.ow.getD a 0 = ln := by rw [List.getD_eq_getElem?_getD, eln]; rfl
      have enext : parted (fun i => S.ow.getD i 0) (is.take (i + 1)) = ins (parted (fun i => S.ow.getD i 0) (is.take i)) ln a := by
        rw [take_at ea, parted_snoc, eg]
      have lenG := parted_len (fun i => S.ow.getD i 0) (is.take i)
      rw [List.length_take] at lenG
      have lenK : (kvOf (parted (fun i => S.ow.getD i 0) (is.take i)) gl).length < sizeLine := by
        refine small1000 ?_
        unfold kvOf
        rw [List.length_zipWith]
        omega
      refine ⟨_, rfl, .inr (.inr (.inl ⟨rfl, .inl ⟨_, Z.dk⟩⟩)), _, rfl, x, d.c_Standing, dxs, fss, _, rfl, Z.sm _ _ hx, W.c_Standing.cl, W.n_Standing_owners, l1, _, rfl, o, _, _, _, rfl, rfl, SqL.of (Z.sm _ _ ho), atI_nat (v := .int (ln : Nat)) (by rw [List.getElem?_map, eln]; rfl), by decide, fun e he => ?_⟩
      have ned : dd ≠ e := ne_of_none Z.dk he
      refine ⟨dd, kvOf (parted (fun i => S.ow.getD i 0) (is.take i)) gl, (ln : Nat), .ref e, rfl, rfl, by rw [upd_ne ned]; exact Z.dk, lenK, fun v hv => ?_, fun hn => ?_⟩
      · rcases kvOf_at (G := parted (fun i => S.ow.getD i 0) (is.take i)) ln a Z.ls.len with ⟨h1, _⟩ | ⟨j, g, r, h1, h2, h3, h4⟩
        · rw [h1] at hv
          cases hv
        · rw [h3] at hv
          cases hv
          have hrv := Z.ls.get h2 h1
          have gl20 : g.length ≤ 720 := by
            have eg' := (parted_ok (fun i => S.ow.getD i 0) (is.take i)).gs ln g (List.mem_of_getElem? h1)
            rw [eg']
            refine Nat.le_trans (List.length_filter_le _ _) ?_
            rw [List.length_take]
            omega
          have hr2 : (upd H1 e (.lst [])) r = some (.lst (g.map iV)) := by rw [upd_ne (ne_of_none hrv he)]; exact hrv
          refine ⟨.inl ⟨rfl, _, SqL.of hr2⟩, _, rfl, r, _, _, rfl, rfl, hr2, small1000 (by rw [List.length_map]; omega), ⟨_, rfl⟩, gl, ?_⟩
          rw [enext, h4]
          exact Z.put he h1 h2
      · rcases kvOf_at (G := parted (fun i => S.ow.getD i 0) (is.take i)) ln a Z.ls.len with ⟨_, h4⟩ | ⟨j, g, r, h1, h2, h3, h4⟩
        · have he2 : (upd (upd H1 e (.lst [])) dd (.dK (kvOf (parted (fun i => S.ow.getD i 0) (is.take i)) gl ++ [(Sum.inl ((ln : Nat) : Int), .ref e)]))) e = some (.lst []) := by rw [upd_ne ned.symm, upd_same]
          refine ⟨.inl ⟨rfl, _, SqL.of he2⟩, _, rfl, e, [], _, rfl, rfl, he2, by decide, ⟨_, rfl⟩, gl ++ [e], ?_⟩
          rw [enext, h4]
          exact Z.more hd he
        · rw [h3] at hn
          cases hn
    · rintro σ H1 ⟨⟨v3, rfl⟩, gl, Z⟩
      rw [List.length_map, List.take_length] at Z
      refine ⟨_, rfl, dd, _, rfl, Z.dk, fun l hl2 => ?_⟩
      rw [kvOf_snd Z.ls.len]
      refine k _ l gl (Z.sm.trans (same_new hl2)) (none_of Z.sm hl2) upd_same (P2.mapR (f := Prod.snd) (R := fun r g => (upd H1 l (.lst (gl.map V.ref))) r = some (.lst (g.map iV))) (Z.ls.mono fun r p h => same_new hl2 _ _ h)) fun r hr => (Z.fg r hr).1
def spFalling (d : D) : Sp := fun vs H Q _ => ∃ (x pa : Addr) (S : Stnd) (is : List Nat) (m : Nat), vs = [.ref x, .ref pa, .int m] ∧ StndIs d.c_Standing H x S ∧ H pa = some (.lst (is.map iV)) ∧ is.Pairwise (· < ·) ∧ (∀ i ∈ is, i < S.pr.length) ∧ is.length < 64 ∧ 2 ≤ m ∧ m ≤ 20 ∧ Tbs d H ∧
  ∀ (H' : Hp) (p : Addr) (gl : List Addr), Same H H' → H p = none → H' p = some (.lst (gl.map V.ref)) → P2 (fun r g => H' r = some (.lst (g.map iV))) gl (grp m (fallP S.pr is)) → (∀ r ∈ gl, H r = none) → Q (.ref p) H'
theorem is_fall {pr : List Int} {is : List Nat} {ms : List Int} (hs : is.Pairwise (· < ·)) (hp : ms.Perm (is.map fun (i : Nat) => (i : Int))) (hk : ms.Pairwise fun a b => -(pr.getD a.toNat 0) < -(pr.getD b.toNat 0) ∨ (-(pr.getD a.toNat 0) = -(pr.getD b.toNat 0) ∧ a < b)) : ms.map V.int = (fallP pr is).map iV := by
  have e : ms = (ms.map Int.toNat).map fun (i : Nat) => (i : Int) := by
    rw [List.map_map]
    conv => lhs; rw [← List.map_id ms]
    refine List.map_congr_left fun z hz => ?_
    obtain ⟨i, _, rfl⟩ := List.mem_map.mp (hp.mem_iff.mp hz)
    simp
  have hp2 : (ms.map Int.toNat).Perm is := by
    have := hp.map Int.toNat
    rw [List.map_map] at this
    have e2 : is.map (Int.toNat ∘ fun (i : Nat) => (i : Int)) = is := by
      conv => rhs; rw [← List.map_id is]
      exact List.map_congr_left fun i _ => rfl
    rwa [e2] at this
  have hk2 : (ms.map Int.toNat).Pairwise (befP pr) := by
    rw [List.pairwise_map]
    refine hk.imp_of_mem fun {a b} ha hb h => ?_
    obtain ⟨i, _, rfl⟩ := List.mem_map.mp (hp.mem_iff.mp ha)
    obtain ⟨j, _, rfl⟩ := List.mem_map.mp (hp.mem_iff.mp hb)
    unfold befP
    simp only [Int.toNat_natCast] at h ⊢
    omega
  rw [e, fallP_only hs hp2 hk2, List.map_map]
  rfl
theorem sc_falling_groups : FnScope ["standing", "pieces", "many", "falling"] ["standing", "pieces", "many"] (defScope s_falling_groups) := ⟨rfl, rfl, rfl, by decide +kernel, rfl, by decide +kernel, by decide +kernel⟩
theorem ok_falling_groups (W : WB K mg d base) : FnOk P w K mg base CX0 1 d.f_falling_groups d.fd_falling_groups ["standing", "pieces", "many"] (spFalling d) := by
  refine FunD.okC W.d_falling_groups.F sc_falling_groups (fun vs H Q E h => ?_) (fun A outer s H vs Q E hr h => ?_)
  · obtain ⟨x, pa, S, is, m, rfl, _⟩ := h
    rfl
  · obtain ⟨x, pa, S, is, m, rfl, hS, hpa, hs, hi, h64, hm2, hm20, htb, k⟩ := h
    obtain ⟨o, p, mk, ⟨dxs, fss, hx, l1, l2, l3, l4, l5⟩, ho, hp, hmk⟩ := id hS
    refine ⟨_, pss_cons (ps_set (i := 3) sc_falling_groups.nd rfl (Or.inr rfl) (pe_sortkey (N := ["piece", "standing"]) (cap := [some 0]) (pv 1) ⟨CompScope.of (N := ["piece", "standing"]) (cap := [none, some 0]) (defScope s_falling_groups).names ["standing", "pieces", "many", "falling"] rfl rfl (by decide +kernel), rfl, rfl, rfl, rfl, by decide +kernel⟩ rfl hr.depth W.code_falling_groups W.ck_falling_groups W.blt (by rfl) W.B.sorted (fun _ _ _ _ _ => rfl) (fun _ _ _ _ _ => (pe_un un_neg (pe_ix (r := rIxL K) ix_list (pe_fldK (K := K) (pv 1) rfl) (pv 0) (fun _ _ => rfl)))) (by rfl)))
      (pss_one (ps_ret (pe_comp (N := ["start", "falling", "many"]) (CompScope.of (N := ["start", "falling", "many"]) (cap := [none, some 3, some 2]) (defScope s_falling_groups).names ["standing", "pieces", "many", "falling"] rfl rfl (by decide +kernel)) rfl (pi_range3E rfl W.B.range (pa_cons pe_int (pa_cons (pe_op op_add (pe_op op_sub (pe_callB call_len_seq (by rfl) W.B.len b_len (pa_cons (pv 3) pa_nil)) (pv 2)) pe_int) (pa_cons (pv 2) pa_nil)))) (fun _ _ _ _ => pg_name (i := 0) (show (["start", "falling", "many"] : List Str).Nodup by decide +kernel) rfl (Or.inl rfl)) (fun _ _ _ _ => (pe_slice (r := rSlL K) sl_list (pv 1) (po_some (pv 0)) (po_some (pe_op op_add (pv 0) (pv 2)))))))), ?_⟩
    have htb' : TbAt d.tP_falling_groups H := htb
    obtain ⟨qs0, eT, _⟩ := id htb'
    have npT : ∀ {b : Addr} {u : HO}, H b = some u → (∀ ps, u ≠ .tbl ps) → b ≠ d.tP_falling_groups := fun {b u} e hn z => by
      rw [z, eT] at e
      cases e
      exact hn _ rfl
    have ei : is.map iV = (is.map fun (i : Nat) => (i : Int)).map V.int := by rw [List.map_map]; rfl
    refine ⟨_, rfl, pa, is.map fun (i : Nat) => (i : Int), fun a => -(S.pr.getD a.toNat 0), rfl, SqL.of (by rw [← ei]; exact hpa), by rw [List.length_map]; exact h64, ?_, htb', npT hpa (fun ps z => by cases z), fun H2 G n hn => ?_, fun H2 l ms G f1 f2 hpm hpw => ?_⟩
    · rw [List.pairwise_map]
      exact hs.imp fun {a b} h => by omega
    · obtain ⟨i, hin, rfl⟩ := List.mem_map.mp hn
      obtain ⟨z, ez⟩ := at_of (hi i hin)
      have hx2 := G.kp _ _ (npT hx (fun ps z => by cases z)) hx
      have hp2 := G.kp _ _ (npT hp (fun ps z => by cases z)) hp
      refine ⟨_, rfl, x, d.c_Standing, dxs, fss, _, rfl, hx2, W.c_Standing.cl, W.n_Standing_prices, l2, _, rfl, p, _, _, _, rfl, rfl, SqL.of hp2, atI_nat (v := .int z) (by rw [List.getElem?_map, ez]; rfl), _, rfl, ?_, rfl⟩
      show V.int (-z) = V.int (-(S.pr.getD ((i : Int)).toNat 0))
      rw [Int.toNat_natCast, List.getD_eq_getElem?_getD, ez]
      rfl
    have s2 := G.same htb'
    rw [is_fall hs hpm hpw]
    have lf : (fallP S.pr is).length = is.length := (fallP_perm S.pr is).length_eq
    have s3 := s2.trans (same_new (o := .lst ((fallP S.pr is).map iV)) f2)
    have el : (upd H2 l (.lst ((fallP S.pr is).map iV))) l = some (.lst ((fallP S.pr is).map iV)) := upd_same
    generalize upd H2 l (.lst ((fallP S.pr is).map iV)) = H3 at *
    have ecnt : (Builtin.Range.rangeSize 0 ((((fallP S.pr is).map iV).length : Int) - (m : Int) + 1) (m : Int)).toNat = (fallP S.pr is).length / m := by
      rw [List.length_map]
      exact size_groups (by omega)
    have lg := grp_len m (fallP S.pr is)
    refine ⟨_, rfl, l, _, rfl, .inl (SqL.of el), _, rfl, _, _, rfl, rfl, _, _, rfl, rfl, _, rfl, 0, _, _, rfl, by omega, ?_, by omega, by omega, ?_⟩
    · rw [List.length_map]
      omega
    rw [ecnt]
    refine comp_step (n := (fallP S.pr is).length / m) (fun i σ ys H' => Same H3 H' ∧ (∃ v0 : Option V, σ = [v0, some (.ref l), some (.int m)]) ∧ ∃ gl, ys = gl.map V.ref ∧ P2 (fun r g => H' r = some (.lst (g.map iV))) gl ((grp m (fallP S.pr is)).take i) ∧ ∀ r ∈ gl, H r = none)
      ⟨Same.refl _, ⟨none, rfl⟩, [], rfl, .nil, fun r hr => by simp at hr⟩ ?_ ?_ ?_ ?_
    · have : (grp m (fallP S.pr is)).length = (fallP S.pr is).length / m := by simp [grp]
      exact Nat.le_of_lt (small1000 (by omega))
    · rintro i σ ys H' hi' ⟨_, _, gl, rfl, hP, _⟩
      rw [List.length_map, hP.len, List.length_take]
      have : (grp m (fallP S.pr is)).length = (fallP S.pr is).length / m := by simp [grp]
      omega
    · rintro i σ ys H' hi' ⟨s4, ⟨v0, rfl⟩, gl, rfl, hP, hfr⟩
      have eg : (grp m (fallP S.pr is))[i]? = some (((fallP S.pr is).drop (i * m)).take m) := by
        unfold grp
        rw [List.getElem?_map, List.getElem?_range hi']
        rfl
      have ecut : cutV ((fallP S.pr is).map iV) (some (0 + (i : Int) * (m : Int))) (some (0 + (i : Int) * (m : Int) + (m : Int))) = (((fallP S.pr is).drop (i * m)).take m).map iV := by
        have := cut_nat ((fallP S.pr is).map iV) (i * m) m
        rw [show (0 : Int) + (i : Int) * (m : Int) = ((i * m : Nat) : Int) by rw [Int.zero_add, Int.natCast_mul], show ((i * m : Nat) : Int) + (m : Int) = ((i * m + m : Nat) : Int) by rw [Int.natCast_add], this, List.map_take, List.map_drop]
      refine ⟨_, rfl, _, rfl, _, rfl, _, rfl, _, rfl, _, _, rfl, rfl, _, rfl, l, _, rfl, SqL.of (s4 _ _ el), fun r hr => ?_⟩
      refine ⟨s4.trans (same_new hr), ⟨_, rfl⟩, gl ++ [r], by rw [List.map_append]; rfl, ?_, fun r' hr' => ?_⟩
      · rw [take_at eg, ecut]
        exact P2.snoc (hP.mono fun r' g e => same_new hr _ _ e) upd_same
      · rcases List.mem_append.mp hr' with h | h
        · exact hfr r' h
        · rw [List.mem_singleton] at h
          rw [h]
          exact (s3.trans s4).free hr
    · rintro σ ys H' ⟨s4, ⟨v0, rfl⟩, gl, rfl, hP, hfr⟩ D hD
      have el2 : (grp m (fallP S.pr is)).length = (fallP S.pr is).length / m := by simp [grp]
      rw [List.take_of_length_le (by omega)] at hP
      exact k _ D gl ((s3.trans s4).trans (same_new hD)) ((s3.trans s4).free hD) upd_same (hP.mono fun r g e => same_new hD _ _ e) hfr
theorem sc_wanted_cuts : FnScope ["voucher", "standing", "pieces", "groups", "lasts"] ["voucher", "standing", "pieces"] (defScope s_wanted_cuts) := ⟨rfl, rfl, rfl, by decide +kernel, rfl, by decide +kernel, by decide +kernel⟩
theorem ok_wanted_cuts (W : WB K mg d base) : FnOk P w K mg base CX0 3 d.f_wanted_cuts d.fd_wanted_cuts ["voucher", "standing", "pieces"] (spWanted d) := by
  refine FunD.ok W.d_wanted_cuts.F sc_wanted_cuts (fun vs H Q E h => ?_) (fun cdv A outer s H vs Q E hr h => ?_)
  · obtain ⟨v, x, pa, V, ps, B, S, rfl, _⟩ := h
    rfl
  · obtain ⟨v, x, pa, ⟨so, ms⟩, ps, B, S, rfl, ⟨mA, dxv, fsv, hv, lvm, hso, hM, hh, htb⟩, hS, hpa, wf, vo, k⟩ := h
    have G_sum_of_prices := ok_sum_of_prices (P := P) (w := w) (base := base) W
    have G_parted_by_line := ok_parted_by_line (P := P) (w := w) (base := base) W
    have G_falling_groups := ok_falling_groups (P := P) (w := w) (base := base) W
    have hr1 : Room 1 _ := hr.mono (by decide)
    refine ⟨_, pss_cons (ps_if (pt_val (pe_callB call_isinst (by rfl) W.B.isi b_isi (pa_cons (pv 0) (pa_cons (pe_glob (v := .ref d.c_Off) (by rfl) W.g_Off rfl) pa_nil)))) (pss_one (ps_ret (pe_lst (pa_cons (pe_tup (pa_cons (pe_callB (call_min2 rfl) (by rfl) W.B.min b_min (pa_cons (pe_fld (pv 0) rfl) (pa_cons (pe_call G_sum_of_prices hr rfl W.d_sum_of_prices.m W.d_sum_of_prices.F.kp W.d_sum_of_prices.b .nil pass0 (pa_cons (pv 1) (pa_cons (pv 2) pa_nil))) pa_nil))) (pa_cons (pv 2) pa_nil))) pa_nil)))) (pss_nil))
      (pss_cons (ps_if (pt_val (pe_callB call_isinst (by rfl) W.B.isi b_isi (pa_cons (pv 0) (pa_cons (pe_glob (v := .ref d.c_Share) (by rfl) W.g_Share rfl) pa_nil)))) (pss_cons (ps_set (i := 3) sc_wanted_cuts.nd rfl (Or.inl rfl) (pe_cut (pe_ifExp (pt_val (pe_fld (pv 0) rfl)) (pe_call G_parted_by_line hr1 rfl W.d_parted_by_line.m W.d_parted_by_line.F.kp W.d_parted_by_line.b .nil pass0 (pa_cons (pv 1) (pa_cons (pv 2) pa_nil))) (pe_lst (pa_cons (pv 2) pa_nil)))))
      (pss_one (ps_ret (pe_comp (N := ["group", "standing", "voucher"]) (CompScope.of (N := ["group", "standing", "voucher"]) (cap := [none, some 1, some 0]) (defScope s_wanted_cuts).names ["voucher", "standing", "pieces", "groups", "lasts"] rfl rfl (by decide +kernel)) rfl (pi_list (pv 3)) (fun _ _ _ _ => pg_name (i := 0) (show (["group", "standing", "voucher"] : List Str).Nodup by decide +kernel) rfl (Or.inl rfl)) (fun _ _ _ _ => (pe_tup (pa_cons (pe_op op_fdiv (pe_op op_mul (pe_call G_sum_of_prices hr rfl W.d_sum_of_prices.m W.d_sum_of_prices.F.kp W.d_sum_of_prices.b .nil pass0 (pa_cons (pv 1) (pa_cons (pv 0) pa_nil))) (pe_fldK (K := K) (pv 2) rfl)) pe_int) (pa_cons (pv 0) pa_nil)))))))) (pss_nil))
      (pss_cons (ps_if (pt_val (pe_callB call_isinst (by rfl) W.B.isi b_isi (pa_cons (pv 0) (pa_cons (pe_glob (v := .ref d.c_Cheapest) (by rfl) W.g_Cheapest rfl) pa_nil)))) (pss_cons (ps_setC (N := ["group"]) (CompScope.plain rfl (by decide +kernel) (by decide +kernel) (by decide +kernel) (nd1 _)) rfl (pi_list (pe_call G_falling_groups hr1 rfl W.d_falling_groups.m W.d_falling_groups.F.kp W.d_falling_groups.b .nil pass0 (pa_cons (pv 1) (pa_cons (pv 2) (pa_cons (pe_fld (pv 0) rfl) pa_nil))))) (fun _ _ _ _ => pg_name (i := 0) (nd1 _) rfl (Or.inl rfl)) (fun _ _ _ _ => (pe_ix (r := rIxL K) ix_list (pv 0) (pe_un un_neg pe_int) (fun _ _ => rfl))) (pg_name (i := 4) sc_wanted_cuts.nd rfl (Or.inl rfl)))
      (pss_one (ps_ret (pe_comp (N := ["last", "standing"]) (CompScope.of (N := ["last", "standing"]) (cap := [none, some 1]) (defScope s_wanted_cuts).names ["voucher", "standing", "pieces", "groups", "lasts"] rfl rfl (by decide +kernel)) rfl (pi_list (pv 4)) (fun _ _ _ _ => pg_name (i := 0) (show (["last", "standing"] : List Str).Nodup by decide +kernel) rfl (Or.inl rfl)) (fun _ _ _ _ => (pe_tup (pa_cons (pe_ix (r := rIxL K) ix_list (pe_fldK (K := K) (pv 1) rfl) (pv 0) (fun _ _ => rfl)) (pa_cons (pe_lst (pa_cons (pv 0) pa_nil)) pa_nil)))))))) (pss_nil))
      (pss_cons (ps_if (pt_val (pe_callB call_isinst (by rfl) W.B.isi b_isi (pa_cons (pv 0) (pa_cons (pe_glob (v := .ref d.c_Bundle) (by rfl) W.g_Bundle rfl) pa_nil)))) (pss_cons (ps_set (i := 3) sc_wanted_cuts.nd rfl (Or.inl rfl) (pe_call G_falling_groups hr1 rfl W.d_falling_groups.m W.d_falling_groups.F.kp W.d_falling_groups.b .nil pass0 (pa_cons (pv 1) (pa_cons (pv 2) (pa_cons (pe_fld (pv 0) rfl) pa_nil)))))
      (pss_one (ps_ret (pe_comp (N := ["group", "standing", "voucher"]) (CompScope.of (N := ["group", "standing", "voucher"]) (cap := [none, some 1, some 0]) (defScope s_wanted_cuts).names ["voucher", "standing", "pieces", "groups", "lasts"] rfl rfl (by decide +kernel)) rfl (pi_list (pv 3)) (fun _ _ _ _ => pg_name (i := 0) (show (["group", "standing", "voucher"] : List Str).Nodup by decide +kernel) rfl (Or.inl rfl)) (fun _ _ _ _ => (pe_tup (pa_cons (pe_callB (call_max2 rfl) (by rfl) W.B.max b_max (pa_cons (pe_op op_sub (pe_call G_sum_of_prices hr rfl W.d_sum_of_prices.m W.d_sum_of_prices.F.kp W.d_sum_of_prices.b .nil pass0 (pa_cons (pv 1) (pa_cons (pv 0) pa_nil))) (pe_fldK (K := K) (pv 2) rfl)) (pa_cons pe_int pa_nil))) (pa_cons (pv 0) pa_nil)))))))) (pss_nil))
      (pss_one (ps_ret (pe_lst pa_nil)))))), ?_⟩
    have I := isi_of W hh
    refine ⟨_, rfl, _, _, _, _, rfl, .inr ⟨_, rfl⟩, TyOf.ins hv (cl_of W hh) I.ha I.hn I.ht I.hm, kit_Off W hh, _, rfl, ?_⟩
    have lp := wf.lp
    have np := wf.np
    have habl : ∀ i ∈ abt ps (kds B) ms.kind ms.lone S, i < S.pr.length := fun i hi => by rw [lp]; exact abt_lt hi
    have habo : ∀ i ∈ abt ps (kds B) ms.kind ms.lone S, i < S.ow.length := fun i hi => abt_lt hi
    have hand := abt_nodup ps (kds B) ms.kind ms.lone S
    have lab : (abt ps (kds B) ms.kind ms.lone S).length ≤ 720 := Nat.le_trans (abt_len _ _ _ _ _) np
    cases so with
    | off am =>
      have qn := sum_nn (qs_nn wf.nn (abt ps (kds B) ms.kind ms.lone S))
      have ha : 0 ≤ am ∧ am ≤ 1000000000000 := vo.so
      refine iteT ⟨_, rfl, v, d.c_Off, dxv, fsv, _, rfl, hv, W.c_Off.cl, W.n_Off_amount, hso, _, rfl, _, rfl, x, pa, S, _, rfl, hS, hpa, habl, lab, fun H1 s1 => ?_⟩
      refine ⟨_, _, rfl, _, rfl, (by show 2 ≤ sizeLine; decide), fun t ht => ⟨(by show 1 ≤ sizeLine; decide), fun l hl => ?_⟩⟩
      have emin : (if (qs S.pr (abt ps (kds B) ms.kind ms.lone S)).sum < am then (qs S.pr (abt ps (kds B) ms.kind ms.lone S)).sum else am) = min am (qs S.pr (abt ps (kds B) ms.kind ms.lone S)).sum := by
        split <;> omega
      rw [emin] at hl ⊢
      have s2 := s1.trans (same_new (o := .tup [.int (min am (qs S.pr (abt ps (kds B) ms.kind ms.lone S)).sum), .ref pa]) ht)
      have s3 := s2.trans (same_new (o := .lst [.ref t]) hl)
      refine k _ l [t] [(min am (qs S.pr (abt ps (kds B) ms.kind ms.lone S)).sum, abt ps (kds B) ms.kind ms.lone S)] s3 (none_of s2 hl) upd_same (.cons ⟨pa, same_new hl _ _ upd_same, s3 _ _ hpa, .inl rfl⟩ .nil) ?_ ?_ ?_ (by simp) ?_
      · intro c g hc
        rw [List.mem_singleton] at hc
        cases hc
        exact ⟨by omega, by omega, lab⟩
      · simpa using hand
      · simpa using habl
      · simp [want]
    | share sh bl =>
      have hsh : 1 ≤ sh ∧ sh ≤ 1000 := vo.so
      refine iteF ⟨_, rfl, _, _, _, _, rfl, .inr ⟨_, rfl⟩, TyOf.ins hv (cl_of W hh) I.ha I.hn I.ht I.hm, kit_Share W hh, _, rfl, iteT ?_⟩
      refine ⟨fun gv H1 => ∃ (gp : Addr) (gl : List Addr) (gs : List (List Nat)), gv = .ref gp ∧ Same H H1 ∧ H gp = none ∧ H1 gp = some (.lst (gl.map V.ref)) ∧ P2 (fun r g => H1 r = some (.lst (g.map iV))) gl gs ∧ (∀ r ∈ gl, r = pa ∨ H r = none) ∧ gs.length ≤ 720 ∧ (∀ g ∈ gs, g.length ≤ 720) ∧ gs.flatten.Nodup ∧ (∀ i ∈ gs.flatten, i < S.pr.length) ∧
        spr S.pr.length gs.flatten (gs.map fun g => dl ((qs S.pr g).sum * sh / 1000) (qs S.pr g)).flatten = spr S.pr.length (abt ps (kds B) ms.kind ms.lone S) (want (.share sh bl) S.mkd.length ((abt ps (kds B) ms.kind ms.lone S).map fun i => S.ow.getD i 0) (qs S.pr (abt ps (kds B) ms.kind ms.lone S))), ?_, ?_⟩
      · refine ⟨_, rfl, v, d.c_Share, dxv, fsv, _, rfl, hv, W.c_Share.cl, W.n_Share_by_line, hso.2, bl, rfl, ?_⟩
        cases bl with
        | true =>
          refine iteT ⟨_, rfl, _, rfl, x, pa, S, _, rfl, hS, hpa, habo, lab, fun H1 p gl s1 f1 h1 hP hg => ⟨p, gl, _, rfl, s1, f1, h1, hP, fun r hr => .inr (hg r hr), ?_, ?_, ?_, ?_, ?_⟩⟩
          · rw [List.length_map]
            exact Nat.le_trans (parted_len _ _) lab
          · intro g hg'
            rw [(parted_ok (fun i => S.ow.getD i 0) (abt ps (kds B) ms.kind ms.lone S)).snds] at hg'
            obtain ⟨l, _, rfl⟩ := List.mem_map.mp hg'
            exact Nat.le_trans (List.length_filter_le _ _) lab
          · have ok := parted_ok (fun i => S.ow.getD i 0) (abt ps (kds B) ms.kind ms.lone S)
            rw [ok.snds]
            exact parts_nodup (f := fun i => S.ow.getD i 0) hand ok.nd
          · intro i hi
            rw [(parted_ok (fun i => S.ow.getD i 0) (abt ps (kds B) ms.kind ms.lone S)).snds] at hi
            obtain ⟨g, hg', hi'⟩ := List.mem_flatten.mp hi
            obtain ⟨l, _, rfl⟩ := List.mem_map.mp hg'
            exact habl i (List.mem_filter.mp hi').1
          · refine parted_cut (fun z => z * sh / 1000) hand fun i hi => ?_
            obtain ⟨ln, eln⟩ := at_of (habo i hi)
            rw [List.getD_eq_getElem?_getD, eln, wf.lm]
            exact wf.line eln
        | false =>
          refine iteF ⟨_, rfl, (by show 1 ≤ sizeLine; decide), fun p hp => ⟨p, [pa], [abt ps (kds B) ms.kind ms.lone S], rfl, same_new hp, hp, upd_same, .cons (same_new hp _ _ hpa) .nil, fun r hr => .inl (by simpa using hr), by simp, fun g hg => ?_, by simpa using hand, by simpa using habl, by simp [want]⟩⟩
          rw [List.mem_singleton] at hg
          rw [hg]
          exact lab
      rintro gv H1 ⟨gp, gl, gs, rfl, s1, f1, h1, hP, hor, lgs, lg, gnd, glt, gsp⟩
      have lgl := hP.len
      have gok : ∀ g ∈ gs, ∀ i ∈ g, i < S.pr.length := fun g hg i hi => glt i (List.mem_flatten.mpr ⟨g, hg, hi⟩)
      refine ⟨_, rfl, gp, rfl, ⟨_, SqL.of h1⟩, comp_list (xs := gl.map V.ref) (fun i σ ys H' => Same H1 H' ∧ (∃ v0 : Option V, σ = [v0, some (.ref x), some (.ref v)]) ∧ ∃ tl, ys = tl.map V.ref ∧ P2 (GrpAt H H' pa) tl ((gs.take i).map fun g => ((qs S.pr g).sum * sh / 1000, g)))
        ⟨Same.refl _, ⟨none, rfl⟩, [], rfl, .nil⟩ (by rw [List.length_map]; exact Nat.le_of_lt (small1000 (by omega))) ?_ ?_ ?_⟩
      · rintro i σ ys H2 hi ⟨s2, _, tl, rfl, hT⟩
        refine ⟨SqL.of (s2 _ _ h1), ?_⟩
        rw [List.length_map, hT.len, List.length_map, List.length_take]
        rw [List.length_map] at hi
        omega
      · rintro i y σ ys H2 hy ⟨s2, ⟨v0, rfl⟩, tl, rfl, hT⟩
        obtain ⟨r, er, rfl⟩ := ref_at hy
        obtain ⟨g, eg, hr⟩ := hP.at er
        have s12 := s1.trans s2
        have hg := List.mem_of_getElem? eg
        have sn := sum_nn (qs_nn wf.nn g)
        have sl := qs_sum wf (lg g hg) (gok g hg)
        refine ⟨_, rfl, _, rfl, x, r, S, g, rfl, hS.same s12, s2 _ _ hr, gok g hg, lg g hg, fun H3 s3 => ?_⟩
        have s13 := s12.trans s3
        refine ⟨_, rfl, v, d.c_Share, dxv, fsv, _, rfl, s13 _ _ hv, W.c_Share.cl, W.n_Share_share, hso.1, _, _, rfl, rfl, .inl ⟨by omega, by omega⟩, _, _, rfl, rfl, ⟨by decide, by decide⟩, _, rfl, (by show 2 ≤ sizeLine; decide), fun t ht => ?_⟩
        have s4 := same_new (o := .tup [.int ((qs S.pr g).sum * sh / 1000), .ref r]) ht
        refine ⟨(s2.trans s3).trans s4, ⟨_, rfl⟩, tl ++ [t], by rw [List.map_append]; rfl, ?_⟩
        rw [take_at eg, List.map_append]
        refine P2.snoc (hT.mono fun t' q ⟨ga, a1, a2, a3⟩ => ⟨ga, (s3.trans s4) _ _ a1, (s3.trans s4) _ _ a2, a3⟩) ⟨r, upd_same, ((s2.trans s3).trans s4) _ _ hr, hor r (List.mem_of_getElem? er)⟩
      · rintro σ ys H2 ⟨s2, ⟨v0, rfl⟩, tl, rfl, hT⟩ D hD
        rw [List.length_map, lgl, List.take_length] at hT
        have s3 := same_new (o := .lst (tl.map V.ref)) hD
        have e1 : (gs.map fun g => ((qs S.pr g).sum * sh / 1000, g)).map Prod.snd = gs := by
          rw [List.map_map]
          exact List.map_id' gs
        refine k _ D tl _ ((s1.trans s2).trans s3) (none_of (s1.trans s2) hD) upd_same (hT.mono fun t' q ⟨ga, a1, a2, a3⟩ => ⟨ga, s3 _ _ a1, s3 _ _ a2, a3⟩) ?_ (by rw [e1]; exact gnd) (by rw [e1]; exact glt) (by rw [List.length_map]; exact lgs) ?_
        · intro c g hc
          obtain ⟨g', hg', e⟩ := List.mem_map.mp hc
          cases e
          have sn := sum_nn (qs_nn wf.nn g)
          have := share_le sn hsh.1 hsh.2
          exact ⟨this.1, this.2, lg g hg'⟩
        · rw [e1, List.map_map]
          exact gsp
    | cheap n =>
      have hn : 2 ≤ n ∧ n ≤ 20 := vo.so
      obtain ⟨m, rfl⟩ : ∃ m : Nat, n = m := ⟨n.toNat, by omega⟩
      refine iteF ⟨_, rfl, _, _, _, _, rfl, .inr ⟨_, rfl⟩, TyOf.ins hv (cl_of W hh) I.ha I.hn I.ht I.hm, kit_Share W hh, _, rfl, iteF ⟨_, rfl, _, _, _, _, rfl, .inr ⟨_, rfl⟩, TyOf.ins hv (cl_of W hh) I.ha I.hn I.ht I.hm, kit_Cheapest W hh, _, rfl, iteT ?_⟩⟩
      have hpw : (abt ps (kds B) ms.kind ms.lone S).Pairwise (· < ·) := List.Pairwise.filter _ List.pairwise_lt_range
      have l64 : (abt ps (kds B) ms.kind ms.lone S).length < 64 := Nat.lt_of_le_of_lt (abt_len _ _ _ _ _) wf.n64
      refine ⟨_, rfl, _, rfl, _, rfl, v, d.c_Cheapest, dxv, fsv, _, rfl, hv, W.c_Cheapest.cl, W.n_Cheapest_many, hso, x, pa, S, _, m, rfl, hS, hpa, hpw, habl, l64, by omega, by omega, htb, fun H1 gp gl s1 f1 h1 hP0 hg => ?_⟩
      have hP : P2 (fun r g => H1 r = some (.lst (g.map iV))) gl (grp m (fallP S.pr (abt ps (kds B) ms.kind ms.lone S))) := hP0
      clear hP0
      have lgl := hP.len
      have lG := grp_len m (fallP S.pr (abt ps (kds B) ms.kind ms.lone S))
      have lf : (fallP S.pr (abt ps (kds B) ms.kind ms.lone S)).length = (abt ps (kds B) ms.kind ms.lone S).length := (fallP_perm _ _).length_eq
      have hgr : ∀ {i : Nat} {g : List Nat}, (grp m (fallP S.pr (abt ps (kds B) ms.kind ms.lone S)))[i]? = some g → 0 < g.length ∧ g[g.length - 1]? = some (g.getLastD 0) ∧ g.getLastD 0 ∈ abt ps (kds B) ms.kind ms.lone S := fun {i g} eg => by
        obtain ⟨h1, h2, h3⟩ := grp_at eg
        have h4 := last_at (by omega) eg
        refine ⟨by omega, ?_, (fallP_perm _ _).mem_iff.mp (List.mem_of_getElem? h4)⟩
        rw [h2, h3 _ (by omega)]
        exact h4
      have hla : ∀ a ∈ lasts (grp m (fallP S.pr (abt ps (kds B) ms.kind ms.lone S))), a ∈ abt ps (kds B) ms.kind ms.lone S := fun a ha => by
        obtain ⟨g, hg', rfl⟩ := List.mem_map.mp ha
        obtain ⟨j, hj⟩ := List.mem_iff_getElem?.mp hg'
        exact (hgr hj).2.2
      refine ⟨gp, rfl, ⟨_, SqL.of h1⟩, comp_list (xs := gl.map V.ref) (fun i σ ys H' => Same H1 H' ∧ (∃ v0 : Option V, σ = [v0]) ∧ ys = ((lasts (grp m (fallP S.pr (abt ps (kds B) ms.kind ms.lone S)))).take i).map iV)
        ⟨Same.refl _, ⟨none, rfl⟩, rfl⟩ (by rw [List.length_map]; exact Nat.le_of_lt (small1000 (by omega))) ?_ ?_ ?_⟩
      · rintro i σ ys H2 hi ⟨s2, _, rfl⟩
        refine ⟨SqL.of (s2 _ _ h1), ?_⟩
        rw [List.length_map, List.length_take, lasts_len]
        rw [List.length_map] at hi
        omega
      · rintro i y σ ys H2 hy ⟨s2, ⟨v0, rfl⟩, rfl⟩
        obtain ⟨r, er, rfl⟩ := ref_at hy
        obtain ⟨g, eg, hr⟩ := hP.at er
        obtain ⟨g0, g1, g2⟩ := hgr eg
        have al : atI (g.map iV) (-1) = some (iV (g.getLastD 0)) := atI_lastD (by rw [List.length_map, List.getElem?_map, g1]; rfl) (by rw [List.length_map]; exact g0)
        refine ⟨_, rfl, 1, rfl, r, _, _, _, rfl, rfl, SqL.of (s2 _ _ hr), al, s2, ⟨_, rfl⟩, ?_⟩
        rw [take_at (r := g.getLastD 0) (by unfold lasts; rw [List.getElem?_map, eg]; rfl), List.map_append]
        rfl
      rintro σ ys H2 ⟨s2, ⟨v0, rfl⟩, rfl⟩ D hD
      rw [List.length_map, lgl, List.take_of_length_le (by rw [lasts_len]; exact Nat.le_refl _)]
      have s3 := s2.trans (same_new (o := .lst ((lasts (grp m (fallP S.pr (abt ps (kds B) ms.kind ms.lone S)))).map iV)) hD)
      have fD : H D = none := none_of (s1.trans s2) hD
      have eD : (upd H2 D (.lst ((lasts (grp m (fallP S.pr (abt ps (kds B) ms.kind ms.lone S)))).map iV))) D = some (.lst ((lasts (grp m (fallP S.pr (abt ps (kds B) ms.kind ms.lone S)))).map iV)) := upd_same
      generalize upd H2 D (.lst ((lasts (grp m (fallP S.pr (abt ps (kds B) ms.kind ms.lone S)))).map iV)) = H3 at *
      obtain ⟨o, p, mk, ⟨dxs, fss, hx, l1, l2, l3, l4, l5⟩, ho, hp, hmk⟩ := id hS
      have s13 := s1.trans s3
      have lL := lasts_len (grp m (fallP S.pr (abt ps (kds B) ms.kind ms.lone S)))
      refine ⟨_, rfl, D, rfl, ⟨_, SqL.of eD⟩, comp_list (xs := (lasts (grp m (fallP S.pr (abt ps (kds B) ms.kind ms.lone S)))).map iV) (fun i σ ys H' => Same H3 H' ∧ (∃ v0 : Option V, σ = [v0, some (.ref x)]) ∧ ∃ tl, ys = tl.map V.ref ∧ P2 (GrpAt H H' pa) tl (((lasts (grp m (fallP S.pr (abt ps (kds B) ms.kind ms.lone S)))).take i).map fun a => (S.pr.getD a 0, [a])))
        ⟨Same.refl _, ⟨none, rfl⟩, [], rfl, .nil⟩ (by rw [List.length_map]; exact Nat.le_of_lt (small1000 (by omega))) ?_ ?_ ?_⟩
      · rintro i σ ys H4 hi ⟨s4, _, tl, rfl, hT⟩
        refine ⟨SqL.of (s4 _ _ eD), ?_⟩
        rw [List.length_map, hT.len, List.length_map, List.length_take]
        rw [List.length_map] at hi
        omega
      · rintro i y σ ys H4 hy ⟨s4, ⟨v0, rfl⟩, tl, rfl, hT⟩
        obtain ⟨a, ea, rfl⟩ := map_at hy
        have ha := hla a (List.mem_of_getElem? ea)
        obtain ⟨z, ez⟩ := at_of (habl a ha)
        have ez' : S.pr.getD a 0 = z := by rw [List.getD_eq_getElem?_getD, ez]; rfl
        have s14 := s13.trans s4
        refine ⟨_, rfl, x, d.c_Standing, dxs, fss, _, rfl, s14 _ _ hx, W.c_Standing.cl, W.n_Standing_prices, l2, _, rfl, p, _, _, _, rfl, rfl, SqL.of (s14 _ _ hp), atI_nat (v := .int z) (by rw [List.getElem?_map, ez]; rfl), _, rfl, (by show 1 ≤ sizeLine; decide), fun q hq => ⟨(by show 2 ≤ sizeLine; decide), fun t ht => ?_⟩⟩
        have s5 := (same_new (o := .lst [iV a]) hq).trans (same_new (o := .tup [.int z, .ref q]) ht)
        refine ⟨s4.trans s5, ⟨_, rfl⟩, tl ++ [t], by rw [List.map_append]; rfl, ?_⟩
        rw [take_at ea, List.map_append]
        exact P2.snoc (hT.mono fun t' q' ⟨ga, a1, a2, a3⟩ => ⟨ga, s5 _ _ a1, s5 _ _ a2, a3⟩) ⟨q, by show upd _ _ _ _ = some (.tup [.int (S.pr.getD a 0), .ref q]); rw [ez']; exact upd_same, same_new ht _ _ upd_same, .inr (none_of s14 hq)⟩
      · rintro σ ys H4 ⟨s4, ⟨v0, rfl⟩, tl, rfl, hT⟩ D2 hD2
        rw [List.length_map, List.take_length] at hT
        have s5 := same_new (o := .lst (tl.map V.ref)) hD2
        have e1 : ((lasts (grp m (fallP S.pr (abt ps (kds B) ms.kind ms.lone S)))).map fun a => (S.pr.getD a 0, [a])).map Prod.snd = (lasts (grp m (fallP S.pr (abt ps (kds B) ms.kind ms.lone S)))).map fun a => [a] := by
          rw [List.map_map]
          rfl
        have e2 := singles (fun i => S.pr.getD i 0) (lasts (grp m (fallP S.pr (abt ps (kds B) ms.kind ms.lone S))))
        refine k _ D2 tl _ ((s13.trans s4).trans s5) (none_of (s13.trans s4) hD2) upd_same (hT.mono fun t' q ⟨ga, a1, a2, a3⟩ => ⟨ga, s5 _ _ a1, s5 _ _ a2, a3⟩) ?_ (by rw [e1, e2.1]; exact lasts_nodup (by omega) (fallP_nodup hand)) (by rw [e1, e2.1]; exact fun i hi => habl i (hla i hi)) (by rw [List.length_map]; omega) ?_
        · intro c g hc
          obtain ⟨a, ha, e⟩ := List.mem_map.mp hc
          cases e
          have q0 : (qs S.pr [a]).sum = S.pr.getD a 0 := by simp [qs]
          have q1 := sum_nn (qs_nn wf.nn [a])
          rw [q0] at q1 ⊢
          exact ⟨q1, Int.le_refl _, by simp⟩
        · rw [e1, e2.1, List.map_map]
          have e3 : (lasts (grp m (fallP S.pr (abt ps (kds B) ms.kind ms.lone S)))).map ((fun p => dl p.1 (qs S.pr p.2)) ∘ fun a => (S.pr.getD a 0, [a])) = (lasts (grp m (fallP S.pr (abt ps (kds B) ms.kind ms.lone S)))).map fun a => [S.pr.getD a 0] :=
            List.map_congr_left fun a _ => dl_one _
          rw [e3, e2.2]
          exact (cheap_cut (by omega) hand).symm
    | bund n pc =>
      have hn : 2 ≤ n ∧ n ≤ 20 ∧ 0 ≤ pc ∧ pc ≤ 1000000000000 := vo.so
      obtain ⟨m, rfl⟩ : ∃ m : Nat, n = m := ⟨n.toNat, by omega⟩
      refine iteF ⟨_, rfl, _, _, _, _, rfl, .inr ⟨_, rfl⟩, TyOf.ins hv (cl_of W hh) I.ha I.hn I.ht I.hm, kit_Share W hh, _, rfl, iteF ⟨_, rfl, _, _, _, _, rfl, .inr ⟨_, rfl⟩, TyOf.ins hv (cl_of W hh) I.ha I.hn I.ht I.hm, kit_Cheapest W hh, _, rfl, iteF ⟨_, rfl, _, _, _, _, rfl, .inr ⟨_, rfl⟩, TyOf.ins hv (cl_of W hh) I.ha I.hn I.ht I.hm, kit_Bundle W hh, _, rfl, iteT ?_⟩⟩⟩
      have hpw : (abt ps (kds B) ms.kind ms.lone S).Pairwise (· < ·) := List.Pairwise.filter _ List.pairwise_lt_range
      have l64 : (abt ps (kds B) ms.kind ms.lone S).length < 64 := Nat.lt_of_le_of_lt (abt_len _ _ _ _ _) wf.n64
      refine ⟨_, rfl, _, rfl, _, rfl, v, d.c_Bundle, dxv, fsv, _, rfl, hv, W.c_Bundle.cl, W.n_Bundle_many, hso.1, x, pa, S, _, m, rfl, hS, hpa, hpw, habl, l64, by omega, by omega, htb, fun H1 gp gl s1 f1 h1 hP0 hg => ?_⟩
      have hP : P2 (fun r g => H1 r = some (.lst (g.map iV))) gl (grp m (fallP S.pr (abt ps (kds B) ms.kind ms.lone S))) := hP0
      clear hP0
      have lgl := hP.len
      have lG := grp_len m (fallP S.pr (abt ps (kds B) ms.kind ms.lone S))
      have lf : (fallP S.pr (abt ps (kds B) ms.kind ms.lone S)).length = (abt ps (kds B) ms.kind ms.lone S).length := (fallP_perm _ _).length_eq
      have gin : ∀ g ∈ grp m (fallP S.pr (abt ps (kds B) ms.kind ms.lone S)), ∀ i ∈ g, i ∈ abt ps (kds B) ms.kind ms.lone S := fun g hg' i hi => (fallP_perm _ _).mem_iff.mp (grp_mem hg' i hi)
      have gok : ∀ g ∈ grp m (fallP S.pr (abt ps (kds B) ms.kind ms.lone S)), ∀ i ∈ g, i < S.pr.length := fun g hg' i hi => habl i (gin g hg' i hi)
      have lg : ∀ g ∈ grp m (fallP S.pr (abt ps (kds B) ms.kind ms.lone S)), g.length ≤ 720 := fun g hg' => by
        obtain ⟨j, hj⟩ := List.mem_iff_getElem?.mp hg'
        have := (grp_at hj).2.1
        omega
      generalize egs : grp m (fallP S.pr (abt ps (kds B) ms.kind ms.lone S)) = gs at *
      refine ⟨_, rfl, gp, rfl, ⟨_, SqL.of h1⟩, comp_list (xs := gl.map V.ref) (fun i σ ys H' => Same H1 H' ∧ (∃ v0 : Option V, σ = [v0, some (.ref x), some (.ref v)]) ∧ ∃ tl, ys = tl.map V.ref ∧ P2 (GrpAt H H' pa) tl ((gs.take i).map fun g => (max 0 ((qs S.pr g).sum - pc), g)))
        ⟨Same.refl _, ⟨none, rfl⟩, [], rfl, .nil⟩ (by rw [List.length_map]; exact Nat.le_of_lt (small1000 (by omega))) ?_ ?_ ?_⟩
      · rintro i σ ys H2 hi ⟨s2, _, tl, rfl, hT⟩
        refine ⟨SqL.of (s2 _ _ h1), ?_⟩
        rw [List.length_map, hT.len, List.length_map, List.length_take]
        rw [List.length_map] at hi
        omega
      · rintro i y σ ys H2 hy ⟨s2, ⟨v0, rfl⟩, tl, rfl, hT⟩
        obtain ⟨r, er, rfl⟩ := ref_at hy
        obtain ⟨g, eg, hr⟩ := hP.at er
        have s12 := s1.trans s2
        have hg' := List.mem_of_getElem? eg
        have sn := sum_nn (qs_nn wf.nn g)
        refine ⟨_, rfl, _, rfl, x, r, S, g, rfl, hS.same s12, s2 _ _ hr, gok g hg', lg g hg', fun H3 s3 => ?_⟩
        have s13 := s12.trans s3
        refine ⟨_, rfl, v, d.c_Bundle, dxv, fsv, _, rfl, s13 _ _ hv, W.c_Bundle.cl, W.n_Bundle_price, hso.2, _, _, rfl, rfl, ?_⟩
        refine ⟨_, _, rfl, _, rfl, (by show 2 ≤ sizeLine; decide), fun t ht => ?_⟩
        have emax : (if (0 : Int) > (qs S.pr g).sum - pc then 0 else (qs S.pr g).sum - pc) = max 0 ((qs S.pr g).sum - pc) := by
          split <;> omega
        rw [emax]
        have s4 := same_new (o := .tup [.int (max 0 ((qs S.pr g).sum - pc)), .ref r]) ht
        refine ⟨(s2.trans s3).trans s4, ⟨_, rfl⟩, tl ++ [t], by rw [List.map_append]; rfl, ?_⟩
        rw [take_at eg, List.map_append]
        refine P2.snoc (hT.mono fun t' q ⟨ga, a1, a2, a3⟩ => ⟨ga, (s3.trans s4) _ _ a1, (s3.trans s4) _ _ a2, a3⟩) ⟨r, upd_same, ((s2.trans s3).trans s4) _ _ hr, .inr (hg r (List.mem_of_getElem? er))⟩
      · rintro σ ys H2 ⟨s2, ⟨v0, rfl⟩, tl, rfl, hT⟩ D hD
        rw [List.length_map, lgl, List.take_length] at hT
        have s3 := same_new (o := .lst (tl.map V.ref)) hD
        have e1 : (gs.map fun g => (max 0 ((qs S.pr g).sum - pc), g)).map Prod.snd = gs := by
          rw [List.map_map]
          exact List.map_id' gs
        refine k _ D tl _ ((s1.trans s2).trans s3) (none_of (s1.trans s2) hD) upd_same (hT.mono fun t' q ⟨ga, a1, a2, a3⟩ => ⟨ga, s3 _ _ a1, s3 _ _ a2, a3⟩) ?_ (by rw [e1, ← egs]; exact grp_nodup (fallP_nodup hand)) (by rw [e1]; intro i hi; obtain ⟨g, hg', hi'⟩ := List.mem_flatten.mp hi; exact gok g hg' i hi') (by rw [List.length_map]; omega) ?_
        · intro c g hc
          obtain ⟨g', hg', e⟩ := List.mem_map.mp hc
          cases e
          have sn := sum_nn (qs_nn wf.nn g)
          exact ⟨by omega, by omega, lg g hg'⟩
        · rw [e1, List.map_map, ← egs]
          exact (bund_cut (fun z => max 0 (z - pc)) hand).symm
    | carr =>
      refine iteF ⟨_, rfl, _, _, _, _, rfl, .inr ⟨_, rfl⟩, TyOf.ins hv (cl_of W hh) I.ha I.hn I.ht I.hm, kit_Share W hh, _, rfl, iteF ⟨_, rfl, _, _, _, _, rfl, .inr ⟨_, rfl⟩, TyOf.ins hv (cl_of W hh) I.ha I.hn I.ht I.hm, kit_Cheapest W hh, _, rfl, iteF ⟨_, rfl, _, _, _, _, rfl, .inr ⟨_, rfl⟩, TyOf.ins hv (cl_of W hh) I.ha I.hn I.ht I.hm, kit_Bundle W hh, _, rfl, iteF ?_⟩⟩⟩
      refine ⟨by decide, fun l hl => ?_⟩
      refine k _ l [] [] (same_new hl) hl upd_same .nil (fun c g hc => by simp at hc) (by simp) (by simp) (by simp) ?_
      exact (spr_zero (k := 0)).trans spr_zero.symm
def spCutsP (K : PySem.W.Frag) (d : D) : Sp := fun vs H Q _ => ∃ (v a b x : Addr) (V : Vch) (ps : List (Option Nat)) (B : Bask) (S : Stnd), vs = [.ref v, .ref a, .ref b, .ref x] ∧ VchIs d H v V ∧ SqL K H a (ps.map pV) ∧ BaskIs d.c_Line d.c_Basket H b B ∧ StndIs d.c_Standing H x S ∧ Wf ps B S ∧ VchOk ps V ∧
  ∀ (H' : Hp) (p : Addr), Same H H' → H p = none → H' p = some (.lst ((cutM V ps (kds B) S).1.map L2.V.int)) → Q (.ref p) H'
theorem sc_cuts_of_pieces : FnScope ["voucher", "parents", "basket", "standing", "pieces", "wanted", "cut", "group", "piece", "part", "most"] ["voucher", "parents", "basket", "standing"] (defScope s_cuts_of_pieces) := ⟨rfl, rfl, rfl, by decide +kernel, rfl, by decide +kernel, by decide +kernel⟩
theorem ok_cuts_of_pieces (W : WB K mg d base) : FnOk P w K mg base CX0 4 d.f_cuts_of_pieces d.fd_cuts_of_pieces ["voucher", "parents", "basket", "standing"] (spCutsP K d) := by
  refine FunD.ok W.d_cuts_of_pieces.F sc_cuts_of_pieces (fun vs H Q E h => ?_) (fun cdv A outer s H vs Q E hr h => ?_)
  · obtain ⟨v, a, b, x, V, ps, B, S, rfl, _⟩ := h
    rfl
  · obtain ⟨v, a, b, x, Vc, ps, B, S, rfl, hV, hA, hB, hS, wf, vo, k⟩ := h
    have G_about := ok_about (P := P) (w := w) (base := base) W
    have G_wanted_cuts := ok_wanted_cuts (P := P) (w := w) (base := base) W
    have G_dealt := ok_dealt (P := P) (w := w) (base := base) W
    have G_prices_of := ok_prices_of (P := P) (w := w) (base := base) W
    have hr1 : Room 1 _ := hr.mono (by decide)
    refine ⟨_, pss_cons (ps_set (i := 4) sc_cuts_of_pieces.nd rfl (Or.inl rfl) (pe_call G_about hr rfl W.d_about.m W.d_about.F.kp W.d_about.b .nil pass0 (pa_cons (pv 0) (pa_cons (pv 1) (pa_cons (pv 2) (pa_cons (pv 3) pa_nil))))))
      (pss_cons (ps_setC (N := ["price"]) (CompScope.plain rfl (by decide +kernel) (by decide +kernel) (by decide +kernel) (nd1 _)) rfl (pi_list (pe_fld (pv 3) rfl)) (fun _ _ _ _ => pg_name (i := 0) (nd1 _) rfl (Or.inl rfl)) (fun _ _ _ _ => pe_int) (pg_name (i := 5) sc_cuts_of_pieces.nd rfl (Or.inl rfl)))
      (pss_cons (ps_for PassesOwn.never rfl (pi_list (pe_call G_wanted_cuts hr rfl W.d_wanted_cuts.m W.d_wanted_cuts.F.kp W.d_wanted_cuts.b .nil pass0 (pa_cons (pv 0) (pa_cons (pv 3) (pa_cons (pv 4) pa_nil))))) (pg_tup rfl (pgs_cons (pg_name (i := 6) sc_cuts_of_pieces.nd rfl (Or.inl rfl)) (pgs_cons (pg_name (i := 7) sc_cuts_of_pieces.nd rfl (Or.inl rfl)) pgs_nil)))
      (pss_one (ps_for PassesOwn.never rfl (pi_zip2 rfl W.B.zip (pa_cons (pv 7) (pa_cons (pe_call G_dealt hr1 rfl W.d_dealt.m W.d_dealt.F.kp W.d_dealt.b .nil pass0 (pa_cons (pv 6) (pa_cons (pe_call G_prices_of hr1 rfl W.d_prices_of.m W.d_prices_of.F.kp W.d_prices_of.b .nil pass0 (pa_cons (pv 3) (pa_cons (pv 7) pa_nil))) pa_nil))) pa_nil))) (pg_tup rfl (pgs_cons (pg_name (i := 8) sc_cuts_of_pieces.nd rfl (Or.inl rfl)) (pgs_cons (pg_name (i := 9) sc_cuts_of_pieces.nd rfl (Or.inl rfl)) pgs_nil)))
      (pss_one (ps_asg (pv 9) (pg_sub (pv 5) (pv 8) set_list))))))
      (pss_cons (ps_set (i := 10) sc_cuts_of_pieces.nd rfl (Or.inl rfl) (pe_fld (pe_fld (pv 0) rfl) rfl))
      (pss_cons (ps_if (PW.pt (pw_and (pt_cmpR op_notN (pv 10) pe_non (nomark _)) (pw_and1 (pt_cmpR op_gt (pe_callB (call_sum rfl) (by rfl) W.B.sum b_sum (pa_cons (pv 5) pa_nil)) (pv 10) (nomark _))))) (pss_one (ps_ret (pe_call G_dealt hr1 rfl W.d_dealt.m W.d_dealt.F.kp W.d_dealt.b .nil pass0 (pa_cons (pv 10) (pa_cons (pv 5) pa_nil))))) (pss_nil))
      (pss_one (ps_ret (pv 5))))))), ?_⟩
    have np := wf.np
    have lp := wf.lp
    refine ⟨_, rfl, _, rfl, _, rfl, _, rfl, v, a, b, x, Vc, ps, B, S, rfl, hV, hA, hB, hS, wf, vo, fun H1 pa s1 f1 h1 => ?_⟩
    have habl : ∀ i ∈ abt ps (kds B) Vc.ms.kind Vc.ms.lone S, i < S.pr.length := fun i hi => by rw [lp]; exact abt_lt hi
    have hand := abt_nodup ps (kds B) Vc.ms.kind Vc.ms.lone S
    have lab : (abt ps (kds B) Vc.ms.kind Vc.ms.lone S).length ≤ 720 := Nat.le_trans (abt_len _ _ _ _ _) np
    obtain ⟨o, p, mk, ⟨dxs, fss, hx, l1, l2, l3, l4, l5⟩, ho, hp, hmk⟩ := id (hS.same s1)
    refine ⟨_, rfl, x, d.c_Standing, dxs, fss, _, rfl, hx, W.c_Standing.cl, W.n_Standing_prices, l2, p, rfl, ⟨_, SqL.of hp⟩, comp_list (xs := S.pr.map V.int) (fun i σ ys H' => H' = H1 ∧ ys = (List.replicate i (0 : Int)).map V.int ∧ ∃ v, σ = [v]) ⟨rfl, rfl, none, rfl⟩ ?_ ?_ ?_ ?_⟩
    · rw [List.length_map]
      exact Nat.le_of_lt (small1000 (by omega))
    · rintro i σ ys H' hi ⟨rfl, rfl, _⟩
      exact ⟨SqL.of hp, by simp⟩
    · rintro i y σ ys H' hy ⟨rfl, rfl, v, rfl⟩
      exact ⟨rfl, by rw [List.replicate_succ', List.map_append]; rfl, _, rfl⟩
    rintro σ ys H' ⟨rfl, rfl, v0, rfl⟩ w hw
    rw [List.length_map]
    have s2 := s1.trans (same_new (o := .lst ((List.replicate S.pr.length (0 : Int)).map V.int)) hw)
    have hw0 : H w = none := none_of s1 hw
    have ew : (upd H' w (.lst ((List.replicate S.pr.length (0 : Int)).map V.int))) w = some (.lst ((List.replicate S.pr.length (0 : Int)).map V.int)) := upd_same
    have h1o := h1
    have h1 := same_new (o := .lst ((List.replicate S.pr.length (0 : Int)).map V.int)) hw _ _ h1
    have nw : pa ≠ w := ne_of_none h1o hw
    generalize upd H' w (.lst ((List.replicate S.pr.length (0 : Int)).map V.int)) = H2 at *
    refine ⟨_, rfl, _, rfl, _, rfl, v, x, pa, Vc, ps, B, S, rfl, hV.same s2, hS.same s2, h1, wf, vo, fun H3 gp tl gl s3 f3 h3 hP hc hnd hlt hgl hsp => ?_⟩
    have s03 := s2.trans s3
    have e3 := s3 _ _ ew
    have ngw : gp ≠ w := fun e => by rw [e, ew] at f3; cases f3
    refine ⟨gp, rfl, ⟨_, SqL.of h3⟩, for_list (K := K) (a := gp) (xs := tl.map V.ref) (fun i σ H' => (∃ v8 v9 v10 v11 v12 : Option V, σ = [some (.ref v), some (.ref a), some (.ref b), some (.ref x), some (.ref pa), some (.ref w), v8, v9, v10, v11, v12]) ∧ But w H3 H' ∧
        H' w = some (.lst ((spr S.pr.length ((gl.take i).map Prod.snd).flatten ((gl.take i).map fun p => dl p.1 (qs S.pr p.2)).flatten).map V.int)))
      ⟨⟨none, none, none, none, none, rfl⟩, But.refl, by rw [e3]; simp [spr_nil]⟩ (fun i σ H' _ h => SqL.of (h.2.1 _ _ ngw h3)) ?_ ?_⟩
    · rintro i y σ H4 hy ⟨⟨v8, v9, v10, v11, v12, rfl⟩, b4, h4⟩
      obtain ⟨t, et, rfl⟩ := ref_at hy
      obtain ⟨⟨c, g⟩, eg, ga, ht, hga, hor⟩ := hP.at et
      have hcg := hc c g (List.mem_of_getElem? eg)
      have hgl' : ∀ i ∈ g, i < S.pr.length := fun j hj => hlt j (List.mem_flatten.mpr ⟨g, List.mem_map.mpr ⟨(c, g), List.mem_of_getElem? eg, rfl⟩, hj⟩)
      have ngaw : ga ≠ w := by
        rcases hor with rfl | hor
        · exact nw
        · exact fun e => by rw [e, ew] at hor; cases hor
      have ntw : t ≠ w := ne_of ht e3 (by intro z; cases z)
      have htt : H4 t = some (.tup [.int c, .ref ga]) := b4 _ _ ntw ht
      have hgg : H4 ga = some (.lst (g.map iV)) := b4 _ _ ngaw hga
      refine ⟨t, _, rfl, SqT.of htt, rfl, _, _, rfl, _, _, rfl, rfl, ?_⟩
      have hS4 : StndIs d.c_Standing H4 x S := by
        exact StndIs.same (H := H) (same_but hw0 s03 b4) hS
      have gnn := qs_nn wf.nn g
      have gsum := qs_sum wf hcg.2.2 hgl'
      have hg720 := hcg.2.2
      refine ⟨_, rfl, _, rfl, _, rfl, _, rfl, x, ga, S, g, rfl, hS4, hgg, hgl', hg720, fun p5 hp5 => ?_⟩
      have s5 := same_new (o := .lst ((qs S.pr g).map V.int)) hp5
      refine ⟨c, p5, qs S.pr g, rfl, SqL.of upd_same, gnn, by omega, hcg.1, by omega, by rw [qs_len]; omega, fun p6 hp6 => ?_⟩
      have s6 := s5.trans (same_new (o := .lst ((dl c (qs S.pr g)).map V.int)) hp6)
      have h6 : (upd (upd H4 p5 (.lst ((qs S.pr g).map V.int))) p6 (.lst ((dl c (qs S.pr g)).map V.int))) p6 = some (.lst ((dl c (qs S.pr g)).map V.int)) := upd_same
      have n6 : H4 p6 = none := none_of s5 hp6
      generalize upd (upd H4 p5 (.lst ((qs S.pr g).map V.int))) p6 (.lst ((dl c (qs S.pr g)).map V.int)) = H6 at *
      have b6 := b4.same s6
      have w6 := s6 _ _ h4
      have n6w : p6 ≠ w := fun e => by rw [e, h4] at n6; cases n6
      have ldl : (dl c (qs S.pr g)).length = g.length := by rw [dl_len, qs_len]
      have emin : min (g.map iV).length ((dl c (qs S.pr g)).map V.int).length = g.length := by rw [List.length_map, List.length_map, ldl, Nat.min_self]
      have ndt : ∀ (j n : Nat), g[j]? = some n → (((gl.take i).map Prod.snd).flatten ++ g.take j ++ [n]).Nodup := fun j n hj => by
        rw [List.map_take]
        exact take_flat_nodup hnd (i := i) (by rw [List.getElem?_map, eg]; rfl) hj
      have lfl : ((gl.take i).map Prod.snd).flatten.length = ((gl.take i).map fun p => dl p.1 (qs S.pr p.2)).flatten.length := by
        rw [List.length_flatten, List.length_flatten, List.map_map, List.map_map]
        congr 1
        refine List.map_congr_left fun q _ => ?_
        show q.2.length = (dl q.1 (qs S.pr q.2)).length
        rw [dl_len, qs_len]
      refine ⟨ga, p6, _, _, rfl, s6 _ _ hgg, h6, for_zip (xs := g.map iV) (ys := (dl c (qs S.pr g)).map V.int) (fun j σ H' => (∃ v8 v9 v10 v11 v12 : Option V, σ = [some (.ref v), some (.ref a), some (.ref b), some (.ref x), some (.ref pa), some (.ref w), v8, v9, v10, v11, v12]) ∧ But w H3 H' ∧ H' ga = some (.lst (g.map iV)) ∧ H' p6 = some (.lst ((dl c (qs S.pr g)).map V.int)) ∧
          H' w = some (.lst ((spr S.pr.length (((gl.take i).map Prod.snd).flatten ++ g.take j) (((gl.take i).map fun p => dl p.1 (qs S.pr p.2)).flatten ++ (dl c (qs S.pr g)).take j)).map V.int)))
        ⟨⟨_, _, _, _, _, rfl⟩, b6, s6 _ _ hgg, h6, by rw [w6]; simp⟩ (fun j σ H' _ h => ⟨h.2.2.1, h.2.2.2.1⟩) ?_ ?_⟩
      · rintro j y1 y2 t2 σ H7 hy1 hy2 ⟨⟨v8, v9, v10, v11, v12, rfl⟩, b7, g7, d7, w7⟩ ht2
        obtain ⟨n, en, rfl⟩ := map_at hy1
        obtain ⟨z, ez, rfl⟩ := map_at hy2
        have hn := hgl' n (List.mem_of_getElem? en)
        have s8 := same_new (o := .tup [iV n, V.int z]) ht2
        refine ⟨t2, _, rfl, SqT.of upd_same, rfl, _, _, rfl, _, _, rfl, rfl, ?_⟩
        refine ⟨_, rfl, _, rfl, _, rfl, w, _, _, n, rfl, rfl, s8 _ _ w7, ixN_nat (by rw [List.length_map, spr_len]; exact hn), ⟨_, _, _, _, _, rfl⟩, (b7.same s8).trans but_self, ?_, ?_, ?_⟩
        · rw [upd_ne ngaw]
          exact s8 _ _ g7
        · rw [upd_ne n6w]
          exact s8 _ _ d7
        · rw [upd_same, ← List.map_set, take_at en, take_at ez, ← List.append_assoc, ← List.append_assoc]
          rw [spr_snoc (by rw [List.length_append, List.length_append, lfl, List.length_take, List.length_take, ldl]) (ndt j n en) hn]
      · rintro σ H7 ⟨⟨v8, v9, v10, v11, v12, rfl⟩, b7, g7, d7, w7⟩
        refine ⟨⟨_, _, _, _, _, rfl⟩, b7, ?_⟩
        rw [w7, emin, List.take_length, List.take_of_length_le (Nat.le_of_eq ldl), take_at eg]
        simp
    rintro σ H4 ⟨⟨v8, v9, v10, v11, v12, rfl⟩, b4, h4⟩
    have ltl : (tl.map V.ref).length = gl.length := by rw [List.length_map, hP.len]
    rw [ltl, List.take_length, hsp] at h4
    have s04 : Same H H4 := same_but hw0 s03 b4
    obtain ⟨mA, dxv, fsv, hv, lvm, _, ⟨dxm, fsm, hm, m1, m2, m3, m4, m5, m6⟩, hh, htb⟩ := id (hV.same s04)
    refine ⟨_, rfl, v, clsOf d Vc.so, dxv, fsv, _, rfl, hv, cl_of W hh, na_of W hh, lvm, mA, d.c_Marks, dxm, fsm, _, rfl, hm, W.c_Marks.cl, W.n_Marks_most, m3, ?_⟩
    have wle := want_le (so := Vc.so) (n := S.mkd.length) (lines := (abt ps (kds B) Vc.ms.kind Vc.ms.lone S).map fun i => S.ow.getD i 0) (qs_nn wf.nn (abt ps (kds B) Vc.ms.kind Vc.ms.lone S)) vo.so
    have cn := cut_none (V := Vc) (ps := ps) (kk := kds B) (S := S)
    have cs := fun (m : Int) (e : Vc.ms.most = some m) (h0 : 0 ≤ m) => cut_some (V := Vc) (ps := ps) (kk := kds B) (S := S) lp wle e h0
    have sabs := qs_sum wf lab habl
    generalize ewant : want Vc.so S.mkd.length ((abt ps (kds B) Vc.ms.kind Vc.ms.lone S).map fun i => S.ow.getD i 0) (qs S.pr (abt ps (kds B) Vc.ms.kind Vc.ms.lone S)) = wn at *
    have fnn : Nn (spr S.pr.length (abt ps (kds B) Vc.ms.kind Vc.ms.lone S) wn) := (spr_le wf.nn wle).nn
    have fsum : (spr S.pr.length (abt ps (kds B) Vc.ms.kind Vc.ms.lone S) wn).sum ≤ 720000000000000 := by
      have h := (spr_le wf.nn wle).sum
      have h2 := sum_le_len (b := 1000000000000) (q := S.pr) fun z hz => (wf.pr z hz).2
      omega
    cases em : Vc.ms.most with
    | none =>
      refine ⟨_, rfl, rfl, _, rfl, ?_⟩
      show if (!decide (V.non = V.non)) = true then _ else _
      rw [nn_non]
      refine iteF (iteF ⟨_, rfl, k _ w s04 hw0 ?_⟩)
      rw [h4, cn em]
    | some m =>
      have hm0 := vo.ms.most m em
      refine ⟨_, rfl, rfl, _, rfl, ?_⟩
      show if (!decide (V.int m = V.non)) = true then _ else _
      rw [nn_int]
      refine iteT ⟨_, rfl, w, _, rfl, SqL.of h4, _, rfl, _, _, rfl, rfl, _, rfl, ?_⟩
      by_cases hgt : (spr S.pr.length (abt ps (kds B) Vc.ms.kind Vc.ms.lone S) wn).sum > m
      · rw [decide_eq_true hgt]
        refine iteT ⟨_, rfl, _, rfl, m, w, _, rfl, SqL.of h4, fnn, by omega, hm0.1, by omega, by rw [spr_len]; omega, fun p7 hp7 => ?_⟩
        refine k _ p7 (s04.trans (same_new hp7)) (none_of s04 hp7) ?_
        rw [upd_same, cs m em hm0.1, if_pos hgt]
      · rw [decide_eq_false hgt]
        refine iteF ⟨_, rfl, k _ w s04 hw0 ?_⟩
        rw [h4, cs m em hm0.1, if_neg hgt]
theorem sc_cuts : FnScope ["voucher", "parents", "basket", "standing"] ["voucher", "parents", "basket", "standing"] (defScope s_cuts) := ⟨rfl, rfl, rfl, by decide +kernel, rfl, by decide +kernel, by decide +kernel⟩
theorem ok_cuts (W : WB K mg d base) : FnOk P w K mg base CX0 5 d.f_cuts d.fd_cuts ["voucher", "parents", "basket", "standing"] (spCuts K d) := by
  refine FunD.ok W.d_cuts.F sc_cuts (fun vs H Q E h => ?_) (fun cdv A outer s H vs Q E hr h => ?_)
  · obtain ⟨v, a, b, x, V, ps, B, S, rfl, _⟩ := h
    rfl
  · obtain ⟨v, a, b, x, Vc, ps, B, S, rfl, hV, hA, hB, hS, wf, vo, k⟩ := h
    have G_cuts_of_pieces := ok_cuts_of_pieces (P := P) (w := w) (base := base) W
    have G_cut_of_carriage := ok_cut_of_carriage (P := P) (w := w) (base := base) W
    have hr2 : Room 2 _ := hr.mono (by decide)
    refine ⟨_, pss_one (ps_ret (pe_tup (pa_cons (pe_call G_cuts_of_pieces hr rfl W.d_cuts_of_pieces.m W.d_cuts_of_pieces.F.kp W.d_cuts_of_pieces.b .nil pass0 (pa_cons (pv 0) (pa_cons (pv 1) (pa_cons (pv 2) (pa_cons (pv 3) pa_nil))))) (pa_cons (pe_call G_cut_of_carriage hr2 rfl W.d_cut_of_carriage.m W.d_cut_of_carriage.F.kp W.d_cut_of_carriage.b .nil pass0 (pa_cons (pv 0) (pa_cons (pv 3) pa_nil))) pa_nil)))), ?_⟩
    refine ⟨_, rfl, _, rfl, _, rfl, _, rfl, v, a, b, x, Vc, ps, B, S, rfl, hV, hA, hB, hS, wf, vo, fun H1 p s1 f1 h1 => ?_⟩
    refine ⟨_, rfl, _, rfl, v, x, Vc, S, rfl, hV.same s1, hS.same s1, (by show 2 ≤ sizeLine; decide), fun t ht => ?_⟩
    rw [← fee_cut (ps := ps) (kk := kds B) (S := S) vo]
    refine k _ t p (s1.trans (same_new ht)) (none_of s1 ht) f1 ?_ (same_new ht _ _ h1)
    exact upd_same
theorem any_same {l : List Nat} {f g : Nat → Bool} (h : ∀ x ∈ l, f x = g x) : l.any f = l.any g := by
  induction l with
  | nil => rfl
  | cons a l ih => rw [List.any_cons, List.any_cons, h a List.mem_cons_self, ih fun x hx => h x (List.mem_cons_of_mem _ hx)]
theorem cutOff_step {ow : List Nat} {cs : List Int} {i o l : Nat} (h : ow[i]? = some o) : cutOff (ow.take (i + 1)) cs l = (cutOff (ow.take i) cs l || (o == l && decide (0 < cs.getD i 0))) := by
  have hi := at_lt h
  unfold cutOff
  rw [List.length_take, List.length_take, Nat.min_eq_left (by omega), Nat.min_eq_left (by omega), List.range_succ, List.any_append]
  congr 1
  · refine any_same fun j hj => ?_
    have hj' : j < i := by simpa using hj
    simp only [List.getD_eq_getElem?_getD, List.getElem?_take]
    rw [if_pos (by omega), if_pos hj']
  · simp only [List.any_cons, List.any_nil, Bool.or_false]
    rw [List.getD_eq_getElem?_getD, List.getElem?_take, if_pos (by omega), h]
    rfl
def spMarkedBehind (d : D) : Sp := fun vs H Q _ => ∃ (v x c : Addr) (V : Vch) (S : Stnd) (cs : List Int), vs = [.ref v, .ref x, .ref c] ∧ VchIs d H v V ∧ StndIs d.c_Standing H x S ∧ H c = some (.lst (cs.map L2.V.int)) ∧ cs.length = S.ow.length ∧ S.ow.length ≤ 720 ∧ S.mkd.length ≤ 12 ∧ (∀ l ∈ S.ow, l < S.mkd.length) ∧
  ∀ (H' : Hp) (p : Addr), Same H H' → H p = none → H' p = some (.lst (((List.range S.mkd.length).map fun l => S.mkd.getD l false || (V.ms.lone && cutOff S.ow cs l)).map L2.V.bl)) → Q (.ref p) H'
theorem sc_marked_behind : FnScope ["voucher", "standing", "piece_cuts", "marked", "owner", "cut"] ["voucher", "standing", "piece_cuts"] (defScope s_marked_behind) := ⟨rfl, rfl, rfl, by decide +kernel, rfl, by decide +kernel, by decide +kernel⟩
theorem ok_marked_behind (W : WB K mg d base) : FnOk P w K mg base CX0 1 d.f_marked_behind d.fd_marked_behind ["voucher", "standing", "piece_cuts"] (spMarkedBehind d) := by
  refine FunD.ok W.d_marked_behind.F sc_marked_behind (fun vs H Q E h => ?_) (fun cdv A outer s H vs Q E hr h => ?_)
  · obtain ⟨v, x, c, V, S, cs, rfl, _⟩ := h
    rfl
  · obtain ⟨v, x, c, Vc, S, cs, rfl, ⟨mA, dxv, fsv, hv, lvm, _, ⟨dxm, fsm, hm, m1, m2, m3, m4, m5, m6⟩, hh, htb⟩, ⟨o, p, mk, ⟨dxs, fss, hx, l1, l2, l3, l4, l5⟩, ho, hp, hmk⟩, hc, lc, lo, lmk, hw, k⟩ := h
    refine ⟨_, pss_cons (ps_set (i := 3) sc_marked_behind.nd rfl (Or.inl rfl) (pe_callTy call_list_of (by rfl) W.B.list b_list (pa_cons (pe_fld (pv 1) rfl) pa_nil)))
      (pss_cons (ps_if (pt_val (pe_fld (pe_fld (pv 0) rfl) rfl)) (pss_one (ps_for PassesOwn.never rfl (pi_zip2 rfl W.B.zip (pa_cons (pe_fld (pv 1) rfl) (pa_cons (pv 2) pa_nil))) (pg_tup rfl (pgs_cons (pg_name (i := 4) sc_marked_behind.nd rfl (Or.inl rfl)) (pgs_cons (pg_name (i := 5) sc_marked_behind.nd rfl (Or.inl rfl)) pgs_nil)))
      (pss_one (ps_if (pt_cmpR op_gt (pv 5) pe_int (nomark _)) (pss_one (ps_asg pe_bl (pg_sub (pv 3) (pv 4) set_list))) (pss_nil))))) (pss_nil))
      (pss_one (ps_ret (pv 3)))), ?_⟩
    have e0 : S.mkd.map V.bl = ((List.range S.mkd.length).map fun l => S.mkd.getD l false || cutOff (S.ow.take 0) cs l).map V.bl := by
      congr 1
      apply List.ext_getElem
      · simp
      · intro j h1 h2
        simp [cutOff, h1]
    refine ⟨_, rfl, x, d.c_Standing, dxs, fss, _, rfl, hx, W.c_Standing.cl, W.n_Standing_marked, l4, mk, _, rfl, .inl (SqL.of hmk), fun q hq => ?_⟩
    have s1 := same_new (o := .lst (S.mkd.map V.bl)) hq
    refine ⟨_, rfl, v, clsOf d Vc.so, dxv, fsv, _, rfl, s1 _ _ hv, cl_of W hh, na_of W hh, lvm, mA, d.c_Marks, dxm, fsm, _, rfl, s1 _ _ hm, W.c_Marks.cl, W.n_Marks_lone, m6, _, rfl, ?_⟩
    cases e : Vc.ms.lone with
    | false =>
      refine iteF ⟨_, rfl, k _ q s1 hq ?_⟩
      rw [e0]
      simp only [e, Bool.false_and, Bool.or_false]
      rw [upd_same]
      congr 2
      simp [cutOff]
    | true =>
      refine iteT ?_
      have emin : min (S.ow.map iV).length (cs.map V.int).length = S.ow.length := by rw [List.length_map, List.length_map, lc, Nat.min_self]
      refine ⟨_, rfl, x, d.c_Standing, dxs, fss, _, rfl, s1 _ _ hx, W.c_Standing.cl, W.n_Standing_owners, l1, _, rfl, o, c, _, _, rfl, s1 _ _ ho, s1 _ _ hc,
        for_zip (xs := S.ow.map iV) (ys := cs.map V.int) (fun i σ H' => (∃ v4 v5 : Option V, σ = [some (.ref v), some (.ref x), some (.ref c), some (.ref q), v4, v5]) ∧ But q H H' ∧ H' q = some (.lst (((List.range S.mkd.length).map fun l => S.mkd.getD l false || cutOff (S.ow.take i) cs l).map V.bl)))
          ⟨⟨none, none, rfl⟩, But.of_same s1, by rw [upd_same, e0]⟩ (fun i σ H' _ h => ⟨h.2.1 _ _ (ne_of_none ho hq) ho, h.2.1 _ _ (ne_of_none hc hq) hc⟩) ?_ ?_⟩
      · rintro i y z t σ H1 hy hz ⟨⟨v4, v5, rfl⟩, b1, h1⟩ ht
        obtain ⟨ln, eln, rfl⟩ := map_at hy
        obtain ⟨cz, ecz, rfl⟩ := map_at hz
        have hln := hw ln (List.mem_of_getElem? eln)
        have st := fun l => cutOff_step (cs := cs) (l := l) eln
        have eg : cs.getD i 0 = cz := by rw [List.getD_eq_getElem?_getD, ecz]; rfl
        have tq : q ≠ t := ne_of_none h1 ht
        have b2 := b1.same (same_new (o := .tup [iV ln, V.int cz]) ht)
        have h2 := same_new (o := .tup [iV ln, V.int cz]) ht _ _ h1
        refine ⟨t, _, rfl, SqT.of upd_same, rfl, _, _, rfl, _, _, rfl, rfl, ?_⟩
        refine ⟨_, rfl, _, _, rfl, rfl, _, rfl, ?_⟩
        by_cases hc0 : cz > 0
        · rw [decide_eq_true hc0]
          refine iteT ⟨_, rfl, _, rfl, q, _, _, ln, rfl, rfl, h2, ixN_nat (by simpa using hln), ⟨_, _, rfl⟩, b2.trans but_self, ?_⟩
          rw [upd_same, ← List.map_set]
          congr 3
          apply List.ext_getElem
          · simp
          · intro j g1 g2
            have hj : j < S.mkd.length := by simpa using g1
            rw [List.getElem_set]
            simp only [List.getElem_map, List.getElem_range]
            rw [st j, eg]
            by_cases hjl : ln = j
            · subst hjl
              simp [hc0]
            · rw [if_neg hjl, show (ln == j) = false by simpa using hjl]
              simp
        · rw [decide_eq_false hc0]
          refine iteF ⟨⟨_, _, rfl⟩, b2, ?_⟩
          rw [h2]
          congr 3
          refine List.map_congr_left fun l _ => ?_
          rw [st l, eg, show decide (0 < cz) = false by simpa using hc0]
          simp
      · rintro σ H1 ⟨⟨v4, v5, rfl⟩, b1, h1⟩
        rw [emin, List.take_length] at h1
        refine ⟨_, rfl, k _ q (but_fresh b1 hq) hq ?_⟩
        rw [h1]
        simp only [e, Bool.true_and]
theorem sc_after : FnScope ["voucher", "parents", "basket", "standing", "piece_cuts", "left"] ["voucher", "parents", "basket", "standing"] (defScope s_after) := ⟨rfl, rfl, rfl, by decide +kernel, rfl, by decide +kernel, by decide +kernel⟩
theorem ok_after (W : WB K mg d base) : FnOk P w K mg base CX0 5 d.f_after d.fd_after ["voucher", "parents", "basket", "standing"] (spAfter K d) := by
  refine FunD.ok W.d_after.F sc_after (fun vs H Q E h => ?_) (fun cdv A outer s H vs Q E hr h => ?_)
  · obtain ⟨v, a, b, x, V, ps, B, S, rfl, _⟩ := h
    rfl
  · obtain ⟨v, a, b, x, Vc, ps, B, S, rfl, hV, hA, hB, hS, wf, vo, k⟩ := h
    have G_cuts_of_pieces := ok_cuts_of_pieces (P := P) (w := w) (base := base) W
    have G_Standing_init := ok_Standing_init (P := P) (w := w) (base := base) W
    have G_cut_of_carriage := ok_cut_of_carriage (P := P) (w := w) (base := base) W
    have G_marked_behind := ok_marked_behind (P := P) (w := w) (base := base) W
    have hr1 : Room 1 _ := hr.mono (by decide)
    have hr2 : Room 2 _ := hr.mono (by decide)
    have hr3 : Room 3 _ := hr.mono (by decide)
    refine ⟨_, pss_cons (ps_set (i := 4) sc_after.nd rfl (Or.inl rfl) (pe_call G_cuts_of_pieces hr rfl W.d_cuts_of_pieces.m W.d_cuts_of_pieces.F.kp W.d_cuts_of_pieces.b .nil pass0 (pa_cons (pv 0) (pa_cons (pv 1) (pa_cons (pv 2) (pa_cons (pv 3) pa_nil))))))
      (pss_cons (ps_set (i := 5) sc_after.nd rfl (Or.inl rfl) (pe_make (W.m_Standing_init.mk' W.c_Standing) G_Standing_init hr3 rfl W.c_Standing.m W.m_Standing_init.b .nil pass0 (pa_cons (pv 2) pa_nil)))
      (pss_cons (ps_fld (pv 5) (pe_callTy call_list_of (by rfl) W.B.list b_list (pa_cons (pe_fld (pv 3) rfl) pa_nil)) rfl)
      (pss_cons (ps_fld (pv 5) (pe_comp (N := ["price", "cut"]) (CompScope.plain rfl (by decide +kernel) (by decide +kernel) (by decide +kernel) (show (["price", "cut"] : List Str).Nodup by decide +kernel)) rfl (pi_zip2 rfl W.B.zip (pa_cons (pe_fld (pv 3) rfl) (pa_cons (pv 4) pa_nil))) (fun _ _ _ _ => pg_tupK (K := K) (n := 2) rfl (pgs_cons (pg_name (i := 0) (show (["price", "cut"] : List Str).Nodup by decide +kernel) rfl (Or.inl rfl)) (pgs_cons (pg_name (i := 1) (show (["price", "cut"] : List Str).Nodup by decide +kernel) rfl (Or.inl rfl)) pgs_nil))) (fun _ _ _ _ => (pe_op op_sub (pv 0) (pv 1)))) rfl)
      (pss_cons (ps_fld (pv 5) (pe_op op_sub (pe_fld (pv 3) rfl) (pe_call G_cut_of_carriage hr2 rfl W.d_cut_of_carriage.m W.d_cut_of_carriage.F.kp W.d_cut_of_carriage.b .nil pass0 (pa_cons (pv 0) (pa_cons (pv 3) pa_nil)))) rfl)
      (pss_cons (ps_fld (pv 5) (pe_call G_marked_behind hr1 rfl W.d_marked_behind.m W.d_marked_behind.F.kp W.d_marked_behind.b .nil pass0 (pa_cons (pv 0) (pa_cons (pv 3) (pa_cons (pv 4) pa_nil)))) rfl)
      (pss_one (ps_ret (pv 5)))))))), ?_⟩
    have np := wf.np
    have lp := wf.lp
    have lcut : (cutM Vc ps (kds B) S).1.length = S.pr.length := (cut_le wf.nn wf.cg.1 vo.so fun m e => (vo.ms.most m e).1).1.1
    refine ⟨_, rfl, _, rfl, _, rfl, _, rfl, v, a, b, x, Vc, ps, B, S, rfl, hV, hA, hB, hS, wf, vo, fun H1 pc s1 f1 h1 => ?_⟩
    obtain ⟨l, ls, hb1, hl1, hL1⟩ := id (hB.same s1)
    refine ⟨_, rfl, mk_standF hb1 hl1 hL1 wf.nl wf.ok fun H2 y s2 f2 dxy fsy hy ly lyw => ?_⟩
    have fy : H y = none := none_of s1 f2
    have s02 := s1.trans s2
    obtain ⟨o, p, mk, ⟨dxs, fss, hx, l1, l2, l3, l4, l5⟩, ho, hp, hmk⟩ := id hS
    refine ⟨_, rfl, x, d.c_Standing, dxs, fss, _, rfl, s02 _ _ hx, W.c_Standing.cl, W.n_Standing_owners, l1, o, _, rfl, .inl (SqL.of (s02 _ _ ho)), fun q1 hq1 => ?_⟩
    have n1 : q1 ≠ y := (ne_of_none hy hq1).symm
    refine ⟨_, rfl, y, d.c_Standing, dxy, fsy, rfl, same_new hq1 _ _ hy, W.c_Standing.cl, W.n_Standing_owners, few (by omega), ?_⟩
    have s3 : Same H (upd (upd H2 q1 (.lst (S.ow.map iV))) y (.ins d.c_Standing dxy (putF "owners" (.ref q1) fsy))) := same_fresh fy (s02.trans (same_new hq1))
    have e3 : (upd (upd H2 q1 (.lst (S.ow.map iV))) y (.ins d.c_Standing dxy (putF "owners" (.ref q1) fsy))) q1 = some (.lst (S.ow.map iV)) := by rw [upd_ne n1, upd_same]
    have y3 : (upd (upd H2 q1 (.lst (S.ow.map iV))) y (.ins d.c_Standing dxy (putF "owners" (.ref q1) fsy))) y = some (.ins d.c_Standing dxy (putF "owners" (.ref q1) fsy)) := upd_same
    have c3 : (upd (upd H2 q1 (.lst (S.ow.map iV))) y (.ins d.c_Standing dxy (putF "owners" (.ref q1) fsy))) pc = some (.lst ((cutM Vc ps (kds B) S).1.map V.int)) := by
      rw [upd_ne (ne_of_none h1 f2)]
      exact same_new hq1 _ _ (s2 _ _ h1)
    have f3 := Nat.le_trans (putF_len (f := "owners") (v := .ref q1) ly) (by decide : 11 ≤ 20)
    generalize upd (upd H2 q1 (.lst (S.ow.map iV))) y (.ins d.c_Standing dxy (putF "owners" (.ref q1) fsy)) = H3 at *
    have emin : min (S.pr.map V.int).length ((cutM Vc ps (kds B) S).1.map V.int).length = S.pr.length := by rw [List.length_map, List.length_map, lcut, Nat.min_self]
    refine ⟨_, rfl, x, d.c_Standing, dxs, fss, _, rfl, s3 _ _ hx, W.c_Standing.cl, W.n_Standing_prices, l2, _, rfl, p, pc, _, _, rfl, s3 _ _ hp, c3,
      comp_zip (xs := S.pr.map V.int) (ys := (cutM Vc ps (kds B) S).1.map V.int) (fun i σ zs H' => Same H3 H' ∧ zs = ((List.zipWith (· - ·) S.pr (cutM Vc ps (kds B) S).1).take i).map V.int ∧ ∃ v0 v1 : Option V, σ = [v0, v1])
        ⟨Same.refl _, rfl, none, none, rfl⟩ (by rw [emin]; exact Nat.le_of_lt (small1000 (by omega))) (fun i σ zs H' hi h => ⟨h.1 _ _ (s3 _ _ hp), h.1 _ _ c3, by rw [h.2.1, List.length_map, List.length_take, List.length_zipWith, lcut]; rw [emin] at hi; omega⟩) ?_ ?_⟩
    · rintro i y1 y2 t σ zs H4 hy1 hy2 ⟨s4, rfl, v0, v1, rfl⟩ ht
      obtain ⟨z1, ez1, rfl⟩ := map_at hy1
      obtain ⟨z2, ez2, rfl⟩ := map_at hy2
      refine ⟨t, _, rfl, SqT.of upd_same, rfl, _, _, rfl, _, _, rfl, rfl, _, rfl, _, rfl, _, _, rfl, rfl, s4.trans (same_new ht), ?_, _, _, rfl⟩
      rw [take_at (r := z1 - z2) (by rw [List.getElem?_zipWith, ez1, ez2]), List.map_append]
      rfl
    rintro σ zs H4 ⟨s4, rfl, v0, v1, rfl⟩ q2 hq2
    rw [emin, List.take_of_length_le (by rw [List.length_zipWith, lcut]; omega)]
    have n2 : q2 ≠ y := (ne_of_none (s4 _ _ y3) hq2).symm
    have n12 : q1 ≠ q2 := ne_of_none (s4 _ _ e3) hq2
    have s5 := same_new (o := .lst ((List.zipWith (· - ·) S.pr (cutM Vc ps (kds B) S).1).map V.int)) hq2
    refine ⟨_, rfl, y, d.c_Standing, dxy, _, rfl, s5 _ _ (s4 _ _ y3), W.c_Standing.cl, W.n_Standing_prices, few f3, ?_⟩
    have s6 : Same H (upd (upd H4 q2 (.lst ((List.zipWith (· - ·) S.pr (cutM Vc ps (kds B) S).1).map V.int))) y (.ins d.c_Standing dxy (putF "prices" (.ref q2) (putF "owners" (.ref q1) fsy)))) := same_fresh fy ((s3.trans s4).trans s5) (nx (s5 _ _ (s4 _ _ y3)))
    have e6 : (upd (upd H4 q2 (.lst ((List.zipWith (· - ·) S.pr (cutM Vc ps (kds B) S).1).map V.int))) y (.ins d.c_Standing dxy (putF "prices" (.ref q2) (putF "owners" (.ref q1) fsy)))) q1 = some (.lst (S.ow.map iV)) := by
      rw [upd_ne n1]
      exact s5 _ _ (s4 _ _ e3)
    have p6 : (upd (upd H4 q2 (.lst ((List.zipWith (· - ·) S.pr (cutM Vc ps (kds B) S).1).map V.int))) y (.ins d.c_Standing dxy (putF "prices" (.ref q2) (putF "owners" (.ref q1) fsy)))) q2 = some (.lst ((List.zipWith (· - ·) S.pr (cutM Vc ps (kds B) S).1).map V.int)) := by rw [upd_ne n2, upd_same]
    have y6 : (upd (upd H4 q2 (.lst ((List.zipWith (· - ·) S.pr (cutM Vc ps (kds B) S).1).map V.int))) y (.ins d.c_Standing dxy (putF "prices" (.ref q2) (putF "owners" (.ref q1) fsy)))) y = some (.ins d.c_Standing dxy (putF "prices" (.ref q2) (putF "owners" (.ref q1) fsy))) := upd_same
    have c6 : (upd (upd H4 q2 (.lst ((List.zipWith (· - ·) S.pr (cutM Vc ps (kds B) S).1).map V.int))) y (.ins d.c_Standing dxy (putF "prices" (.ref q2) (putF "owners" (.ref q1) fsy)))) pc = some (.lst ((cutM Vc ps (kds B) S).1.map V.int)) := by
      rw [upd_ne (ne_of_none h1 f2)]
      exact s5 _ _ (s4 _ _ c3)
    have f6 := Nat.le_trans (putF_len (f := "prices") (v := .ref q2) (putF_len (f := "owners") (v := .ref q1) ly)) (by decide : 12 ≤ 20)
    generalize upd (upd H4 q2 (.lst ((List.zipWith (· - ·) S.pr (cutM Vc ps (kds B) S).1).map V.int))) y (.ins d.c_Standing dxy (putF "prices" (.ref q2) (putF "owners" (.ref q1) fsy))) = H6 at *
    refine ⟨_, rfl, x, d.c_Standing, dxs, fss, _, rfl, s6 _ _ hx, W.c_Standing.cl, W.n_Standing_carriage, l3, _, rfl, _, rfl, v, x, Vc, S, rfl, hV.same s6, hS.same s6, _, _, rfl, rfl, ?_⟩
    rw [← fee_cut (ps := ps) (kk := kds B) (S := S) vo]
    refine ⟨_, rfl, y, d.c_Standing, dxy, _, rfl, y6, W.c_Standing.cl, W.n_Standing_carriage, few f6, ?_⟩
    have s7 : Same H (upd H6 y (.ins d.c_Standing dxy (putF "carriage" (.int (S.cg - (cutM Vc ps (kds B) S).2)) (putF "prices" (.ref q2) (putF "owners" (.ref q1) fsy))))) := same_fresh fy s6
    have e7 : (upd H6 y (.ins d.c_Standing dxy (putF "carriage" (.int (S.cg - (cutM Vc ps (kds B) S).2)) (putF "prices" (.ref q2) (putF "owners" (.ref q1) fsy))))) q1 = some (.lst (S.ow.map iV)) := by rw [upd_ne n1]; exact e6
    have p7 : (upd H6 y (.ins d.c_Standing dxy (putF "carriage" (.int (S.cg - (cutM Vc ps (kds B) S).2)) (putF "prices" (.ref q2) (putF "owners" (.ref q1) fsy))))) q2 = some (.lst ((List.zipWith (· - ·) S.pr (cutM Vc ps (kds B) S).1).map V.int)) := by rw [upd_ne n2]; exact p6
    have y7 : (upd H6 y (.ins d.c_Standing dxy (putF "carriage" (.int (S.cg - (cutM Vc ps (kds B) S).2)) (putF "prices" (.ref q2) (putF "owners" (.ref q1) fsy))))) y = some (.ins d.c_Standing dxy (putF "carriage" (.int (S.cg - (cutM Vc ps (kds B) S).2)) (putF "prices" (.ref q2) (putF "owners" (.ref q1) fsy)))) := upd_same
    have c7 : (upd H6 y (.ins d.c_Standing dxy (putF "carriage" (.int (S.cg - (cutM Vc ps (kds B) S).2)) (putF "prices" (.ref q2) (putF "owners" (.ref q1) fsy))))) pc = some (.lst ((cutM Vc ps (kds B) S).1.map V.int)) := by rw [upd_ne (ne_of_none h1 f2)]; exact c6
    have f7 := Nat.le_trans (putF_len (f := "carriage") (v := .int (S.cg - (cutM Vc ps (kds B) S).2)) (putF_len (f := "prices") (v := .ref q2) (putF_len (f := "owners") (v := .ref q1) ly))) (by decide : 13 ≤ 20)
    generalize upd H6 y (.ins d.c_Standing dxy (putF "carriage" (.int (S.cg - (cutM Vc ps (kds B) S).2)) (putF "prices" (.ref q2) (putF "owners" (.ref q1) fsy)))) = H7 at *
    refine ⟨_, rfl, _, rfl, _, rfl, v, x, pc, Vc, S, _, rfl, hV.same s7, hS.same s7, c7, by rw [lcut, lp], np, by rw [wf.lm]; exact wf.nl, fun l hl => ?_, fun H8 q3 s8 f8 h8 => ?_⟩
    · obtain ⟨i, hi⟩ := List.mem_iff_getElem?.mp hl
      rw [wf.lm]
      exact wf.line hi
    have n3 : q3 ≠ y := (ne_of_none y7 f8).symm
    refine ⟨_, rfl, y, d.c_Standing, dxy, _, rfl, s8 _ _ y7, W.c_Standing.cl, W.n_Standing_marked, few f7, ?_⟩
    refine ⟨_, rfl, k _ y (same_fresh fy (s7.trans s8) (nx (s8 _ _ y7))) fy ⟨q1, q2, q3, ⟨dxy, _, upd_same, ?_, ?_, ?_, ?_, ?_⟩, ?_, ?_, ?_⟩⟩
    · (repeat (first | rw [lookup_putF, if_pos rfl] | rw [lookup_putF, if_neg (by decide +kernel)]))
    · (repeat (first | rw [lookup_putF, if_pos rfl] | rw [lookup_putF, if_neg (by decide +kernel)]))
    · (repeat (first | rw [lookup_putF, if_pos rfl] | rw [lookup_putF, if_neg (by decide +kernel)]))
      rfl
    · (repeat (first | rw [lookup_putF, if_pos rfl] | rw [lookup_putF, if_neg (by decide +kernel)]))
    · rw [lookup_putF, if_neg (by decide +kernel), lookup_putF, if_neg (by decide +kernel), lookup_putF, if_neg (by decide +kernel), lookup_putF, if_neg (by decide +kernel)]
      exact lyw
    · rw [upd_ne n1]
      exact s8 _ _ e7
    · rw [upd_ne n2]
      exact s8 _ _ p7
    · rw [upd_ne n3]
      exact h8
def SbOk (n a b : Int) : Prop := (n = 0 ∧ 0 ≤ a ∧ a ≤ 1000000000000) ∨ (n = 1 ∧ 1 ≤ a ∧ a ≤ 1000 ∧ 0 ≤ b ∧ b ≤ 1) ∨ (n = 2 ∧ 2 ≤ a ∧ a ≤ 20) ∨ (n = 3 ∧ 2 ≤ a ∧ a ≤ 20 ∧ 0 ≤ b ∧ b ≤ 1000000000000) ∨ n = 4
def spSortBy : Sp := fun vs H Q _ => ∃ c : Int, vs = [.int c] ∧ ∀ (H' : Hp) (t : Addr) (n a b : Int), Same H H' → H t = none → H' t = some (.tup [.int n, .int a, .int b]) → SbOk n a b → Q (.ref t) H'
theorem at3 {a b c : V} {i : Int} (h0 : 0 ≤ i) (h3 : i < 3) : ∃ v, atI [a, b, c] i = some v ∧ (v = a ∨ v = b ∨ v = c) := by
  obtain ⟨n, rfl⟩ := Int.eq_ofNat_of_zero_le h0
  have hn : n < 3 := by omega
  match n, hn with
  | 0, _ => exact ⟨a, rfl, .inl rfl⟩
  | 1, _ => exact ⟨b, rfl, .inr (.inl rfl)⟩
  | 2, _ => exact ⟨c, rfl, .inr (.inr rfl)⟩
theorem sc__law_sort_by : FnScope ["_law_cell", "_law_sort", "_law_rest"] ["_law_cell"] (defScope s__law_sort_by) := ⟨rfl, rfl, rfl, by decide +kernel, rfl, by decide +kernel, by decide +kernel⟩
theorem ok__law_sort_by (W : WB K mg d base) : FnOk P w K mg base CX0 2 d.f__law_sort_by d.fd__law_sort_by ["_law_cell"] spSortBy := by
  refine FunD.ok W.d__law_sort_by.F sc__law_sort_by (fun vs H Q E h => ?_) (fun cdv A outer s H vs Q E hr h => ?_)
  · obtain ⟨c, rfl, _⟩ := h
    rfl
  · obtain ⟨c, rfl, k⟩ := h
    have G__law_coin := ok__law_coin (P := P) (w := w) (base := base) W
    refine ⟨_, pss_cons (ps_set (i := 1) sc__law_sort_by.nd rfl (Or.inl rfl) (pe_op op_mod (pv 0) pe_int))
      (pss_cons (ps_set (i := 2) sc__law_sort_by.nd rfl (Or.inl rfl) (pe_op op_fdiv (pv 0) pe_int))
      (pss_cons (ps_if (pt_cmpR op_eq (pv 1) pe_int (nomark _)) (pss_one (ps_ret (pe_tup (pa_cons pe_int (pa_cons (pe_ix (r := rIxL K) ix_list (pe_lst (pa_cons (pe_call G__law_coin hr rfl W.d__law_coin.m W.d__law_coin.F.kp W.d__law_coin.b .nil pass0 (pa_cons (pv 2) pa_nil)) (pa_cons (pe_op op_add pe_int (pe_op op_mod (pv 2) pe_int)) pa_nil))) (pe_op op_mod (pv 2) pe_int) (fun _ _ => rfl)) (pa_cons pe_int pa_nil)))))) (pss_nil))
      (pss_cons (ps_if (pt_cmpR op_eq (pv 1) pe_int (nomark _)) (pss_one (ps_ret (pe_tup (pa_cons pe_int (pa_cons (pe_ix (r := rIxL K) ix_list (pe_lst (pa_cons pe_int (pa_cons (pe_op op_add pe_int (pe_op op_mod (pe_op op_fdiv (pv 2) pe_int) pe_int)) pa_nil))) (pe_op op_mod (pv 2) pe_int) (fun _ _ => rfl)) (pa_cons (pe_op op_mod (pe_op op_fdiv (pv 2) pe_int) pe_int) pa_nil)))))) (pss_nil))
      (pss_cons (ps_if (pt_cmpR op_eq (pv 1) pe_int (nomark _)) (pss_one (ps_ret (pe_tup (pa_cons pe_int (pa_cons (pe_op op_add pe_int (pe_op op_mod (pv 2) pe_int)) (pa_cons pe_int pa_nil)))))) (pss_nil))
      (pss_cons (ps_if (pt_cmpR op_eq (pv 1) pe_int (nomark _)) (pss_one (ps_ret (pe_tup (pa_cons pe_int (pa_cons (pe_op op_add pe_int (pe_op op_mod (pv 2) pe_int)) (pa_cons (pe_ix (r := rIxL K) ix_list (pe_lst (pa_cons pe_int (pa_cons (pe_op op_mod (pe_op op_fdiv (pv 2) pe_int) pe_int) (pa_cons (pe_call G__law_coin hr rfl W.d__law_coin.m W.d__law_coin.F.kp W.d__law_coin.b .nil pass0 (pa_cons (pe_op op_fdiv (pv 2) pe_int) pa_nil)) pa_nil)))) (pe_op op_mod (pe_op op_fdiv (pv 2) pe_int) pe_int) (fun _ _ => rfl)) pa_nil)))))) (pss_nil))
      (pss_one (ps_ret (pe_tup (pa_cons pe_int (pa_cons pe_int (pa_cons pe_int pa_nil))))))))))), ?_⟩
    have two : 2 ≤ sizeLine := by decide
    have three : 3 ≤ sizeLine := by decide
    refine ⟨_, rfl, _, _, rfl, rfl, (by show (0 : Int) < 5; decide), ?_⟩
    refine ⟨_, rfl, _, _, rfl, rfl, ⟨by decide, by decide⟩, ?_⟩
    refine ⟨_, rfl, rfl, _, rfl, ite2 (fun h0 => ?_) (fun h0 => ?_)⟩
    · refine ⟨_, rfl, _, rfl, fun H1 z s1 z0 z1 => ⟨_, rfl, _, _, rfl, rfl, (by show (0 : Int) < 5000; decide), _, _, rfl, rfl, two, fun l hl => ?_⟩⟩
      obtain ⟨v, e, hv⟩ := at2 (a := .int z) (b := .int (1 + c / 5 % 5000)) (i := c / 5 % 2) (by omega) (by omega)
      have s2 := s1.trans (same_new (o := .lst [.int z, .int (1 + c / 5 % 5000)]) hl)
      refine ⟨_, rfl, _, _, rfl, rfl, (by show (0 : Int) < 2; decide), l, _, _, v, rfl, rfl, SqL.of upd_same, e, three, fun t ht => ?_⟩
      rcases hv with rfl | rfl
      · exact k _ t _ _ _ (s2.trans (same_new ht)) (s2.free ht) upd_same (.inl ⟨rfl, z0, z1⟩)
      · exact k _ t _ _ _ (s2.trans (same_new ht)) (s2.free ht) upd_same (.inl ⟨rfl, by omega, by omega⟩)
    refine ⟨_, rfl, rfl, _, rfl, ite2 (fun h1 => ?_) (fun h1 => ?_)⟩
    · refine ⟨_, rfl, _, _, rfl, rfl, ⟨by decide, by decide⟩, _, _, rfl, rfl, (by show (0 : Int) < 1000; decide), _, _, rfl, rfl, two, fun l hl => ?_⟩
      obtain ⟨v, e, hv⟩ := at2 (a := .int 1000) (b := .int (1 + c / 5 / 2 % 1000)) (i := c / 5 % 2) (by omega) (by omega)
      refine ⟨_, rfl, _, _, rfl, rfl, (by show (0 : Int) < 2; decide), l, _, _, v, rfl, rfl, SqL.of upd_same, e, _, rfl, _, _, rfl, rfl, ⟨by decide, by decide⟩, _, _, rfl, rfl, (by show (0 : Int) < 2; decide), three, fun t ht => ?_⟩
      rcases hv with rfl | rfl
      · exact k _ t _ _ _ ((same_new hl).trans (same_new ht)) ((same_new hl).free ht) upd_same (.inr (.inl ⟨rfl, by omega, by omega, by omega, by omega⟩))
      · exact k _ t _ _ _ ((same_new hl).trans (same_new ht)) ((same_new hl).free ht) upd_same (.inr (.inl ⟨rfl, by omega, by omega, by omega, by omega⟩))
    refine ⟨_, rfl, rfl, _, rfl, ite2 (fun h2 => ?_) (fun h2 => ?_)⟩
    · exact ⟨_, rfl, _, _, rfl, rfl, (by show (0 : Int) < 3; decide), _, _, rfl, rfl, three, fun t ht => k _ t _ _ _ (same_new ht) ht upd_same (.inr (.inr (.inl ⟨rfl, by omega, by omega⟩)))⟩
    refine ⟨_, rfl, rfl, _, rfl, ite2 (fun h3 => ?_) (fun h3 => ?_)⟩
    · refine ⟨_, rfl, _, _, rfl, rfl, (by show (0 : Int) < 3; decide), _, _, rfl, rfl, _, rfl, _, _, rfl, rfl, ⟨by decide, by decide⟩, _, _, rfl, rfl, (by show (0 : Int) < 50; decide), _, rfl, _, _, rfl, rfl, ⟨by decide, by decide⟩, _, rfl, fun H1 z s1 z0 z1 => ⟨three, fun l hl => ?_⟩⟩
      obtain ⟨v, e, hv⟩ := at3 (a := .int 0) (b := .int (c / 5 / 3 % 50)) (c := .int z) (i := c / 5 / 3 % 3) (by omega) (by omega)
      have s2 := s1.trans (same_new (o := .lst [.int 0, .int (c / 5 / 3 % 50), .int z]) hl)
      refine ⟨_, rfl, _, _, rfl, rfl, ⟨by decide, by decide⟩, _, _, rfl, rfl, (by show (0 : Int) < 3; decide), l, _, _, v, rfl, rfl, SqL.of upd_same, e, three, fun t ht => ?_⟩
      rcases hv with rfl | rfl | rfl
      · exact k _ t _ _ _ (s2.trans (same_new ht)) (s2.free ht) upd_same (.inr (.inr (.inr (.inl ⟨rfl, by omega, by omega, by omega, by omega⟩))))
      · exact k _ t _ _ _ (s2.trans (same_new ht)) (s2.free ht) upd_same (.inr (.inr (.inr (.inl ⟨rfl, by omega, by omega, by omega, by omega⟩))))
      · exact k _ t _ _ _ (s2.trans (same_new ht)) (s2.free ht) upd_same (.inr (.inr (.inr (.inl ⟨rfl, by omega, by omega, z0, z1⟩))))
    exact ⟨three, fun t ht => k _ t _ _ _ (same_new ht) ht upd_same (.inr (.inr (.inr (.inr rfl))))⟩
theorem eqInt (a b : Int) : decide (V.int a = V.int b) = decide (a = b) := by
  by_cases h : a = b
  · subst h; simp
  · have n : ¬ (V.int a = V.int b) := fun e => h (V.int.inj e)
    rw [decide_eq_false h, decide_eq_false n]
def soN (n a b : Int) : Srt := if n = 0 then .off a else if n = 1 then .share a (decide (b = 1)) else if n = 2 then .cheap a else if n = 3 then .bund a b else .carr
theorem soN_ok {n a b : Int} (h : SbOk n a b) : SrtOk (soN n a b) := by
  unfold SbOk at h
  rcases h with ⟨rfl, h1, h2⟩ | ⟨rfl, h1, h2, h3, h4⟩ | ⟨rfl, h1, h2⟩ | ⟨rfl, h1, h2, h3, h4⟩ | rfl
  · exact ⟨h1, h2⟩
  · exact ⟨h1, h2⟩
  · exact ⟨h1, h2⟩
  · exact ⟨h1, h2, h3, h4⟩
  · trivial
def spMadeN (d : D) : Sp := fun vs H Q _ => ∃ (n a b : Int) (mA : Addr) (M : Mks), vs = [.int n, .int a, .int b, .ref mA] ∧ SbOk n a b ∧ MksIs d.c_Marks H mA M ∧ Tbs d H ∧ ∀ (H' : Hp) (v : Addr), Same H H' → H v = none → VchIs d H' v ⟨soN n a b, M⟩ → Q (.ref v) H'
theorem sc__law_made : FnScope ["_law_sort", "_law_a", "_law_b", "_law_marks"] ["_law_sort", "_law_a", "_law_b", "_law_marks"] (defScope s__law_made) := ⟨rfl, rfl, rfl, by decide +kernel, rfl, by decide +kernel, by decide +kernel⟩
theorem ok__law_made (W : WB K mg d base) : FnOk P w K mg base CX0 6 d.f__law_made d.fd__law_made ["_law_sort", "_law_a", "_law_b", "_law_marks"] (spMadeN d) := by
  refine FunD.ok W.d__law_made.F sc__law_made (fun vs H Q E h => ?_) (fun cdv A outer s H vs Q E hr h => ?_)
  · obtain ⟨n, a, b, mA, M, rfl, _⟩ := h
    rfl
  · obtain ⟨n, a, b, mA, M, rfl, hs, hM, htb, k⟩ := h
    have G_Off_init := ok_Off_init (P := P) (w := w) (base := base) W
    have G_Share_init := ok_Share_init (P := P) (w := w) (base := base) W
    have G_Cheapest_init := ok_Cheapest_init (P := P) (w := w) (base := base) W
    have G_Bundle_init := ok_Bundle_init (P := P) (w := w) (base := base) W
    have G_Carriage_init := ok_Carriage_init (P := P) (w := w) (base := base) W
    refine ⟨_, pss_cons (ps_if (pt_cmpR op_eq (pv 0) pe_int (nomark _)) (pss_one (ps_ret (pe_make (W.m_Off_init.mk' W.c_Off) G_Off_init hr rfl W.c_Off.m W.m_Off_init.b .nil pass0 (pa_cons (pv 1) (pa_cons (pv 3) pa_nil))))) (pss_nil))
      (pss_cons (ps_if (pt_cmpR op_eq (pv 0) pe_int (nomark _)) (pss_one (ps_ret (pe_make (W.m_Share_init.mk' W.c_Share) G_Share_init hr rfl W.c_Share.m W.m_Share_init.b .nil pass0 (pa_cons (pv 1) (pa_cons (pe_cmpR op_eq (pv 2) pe_int (nomark _)) (pa_cons (pv 3) pa_nil)))))) (pss_nil))
      (pss_cons (ps_if (pt_cmpR op_eq (pv 0) pe_int (nomark _)) (pss_one (ps_ret (pe_make (W.m_Cheapest_init.mk' W.c_Cheapest) G_Cheapest_init hr rfl W.c_Cheapest.m W.m_Cheapest_init.b .nil pass0 (pa_cons (pv 1) (pa_cons (pv 3) pa_nil))))) (pss_nil))
      (pss_cons (ps_if (pt_cmpR op_eq (pv 0) pe_int (nomark _)) (pss_one (ps_ret (pe_make (W.m_Bundle_init.mk' W.c_Bundle) G_Bundle_init hr rfl W.c_Bundle.m W.m_Bundle_init.b .nil pass0 (pa_cons (pv 1) (pa_cons (pv 2) (pa_cons (pv 3) pa_nil)))))) (pss_nil))
      (pss_one (ps_ret (pe_make (W.m_Carriage_init.mk' W.c_Carriage) G_Carriage_init hr rfl W.c_Carriage.m W.m_Carriage_init.b .nil pass0 (pa_cons (pv 3) pa_nil))))))), ?_⟩
    have fin : ∀ {so : Srt} {H2 : Hp} {x : Addr}, VchIs d H2 x ⟨so, M⟩ → Same H H2 → H x = none → so = soN n a b → Q (.ref x) H2 := fun {so H2 x} hV s2 f2 ho => k H2 x s2 f2 (ho ▸ hV)
    refine ⟨_, rfl, rfl, _, rfl, ite2 (fun h0 => ?_) (fun h0 => ?_)⟩
    · have h0 : n = 0 := by simpa using h0
      exact ⟨_, rfl, _, rfl, mk_vch (so := .off _) ⟨_, rfl⟩ rfl hM fun H2 x s2 f2 hV => fin hV s2 f2 (by unfold soN; rw [if_pos h0])⟩
    have n0 : ¬ n = 0 := by simpa using h0
    refine ⟨_, rfl, rfl, _, rfl, ite2 (fun h1 => ?_) (fun h1 => ?_)⟩
    · have h1 : n = 1 := by simpa using h1
      exact ⟨_, rfl, _, rfl, rfl, _, rfl, mk_vch (so := .share _ _) ⟨_, _, rfl⟩ rfl hM fun H2 x s2 f2 hV => fin hV s2 f2 (by unfold soN; rw [if_neg n0, if_pos h1, eqInt])⟩
    have n1 : ¬ n = 1 := by simpa using h1
    refine ⟨_, rfl, rfl, _, rfl, ite2 (fun h2 => ?_) (fun h2 => ?_)⟩
    · have h2 : n = 2 := by simpa using h2
      exact ⟨_, rfl, _, rfl, mk_vch (so := .cheap _) ⟨_, rfl⟩ rfl hM fun H2 x s2 f2 hV => fin hV s2 f2 (by unfold soN; rw [if_neg n0, if_neg n1, if_pos h2])⟩
    have n2 : ¬ n = 2 := by simpa using h2
    refine ⟨_, rfl, rfl, _, rfl, ite2 (fun h3 => ?_) (fun h3 => ?_)⟩
    · have h3 : n = 3 := by simpa using h3
      exact ⟨_, rfl, _, rfl, _, rfl, mk_vch (so := .bund _ _) ⟨_, _, rfl⟩ rfl hM fun H2 x s2 f2 hV => fin hV s2 f2 (by unfold soN; rw [if_neg n0, if_neg n1, if_neg n2, if_pos h3])⟩
    have n3 : ¬ n = 3 := by simpa using h3
    exact ⟨_, rfl, mk_carr W.c_Carriage.cl W.n_Carriage_marks hM fun H2 x s2 f2 hV => fin hV s2 f2 (by unfold soN; rw [if_neg n0, if_neg n1, if_neg n2, if_neg n3])⟩
theorem ldl_eq {c : Int} {ws : List Int} (hn : Nn ws) : (List.range ws.length).map (fun j => c * pre ws (j + 1) / max 1 ws.sum - c * pre ws j / max 1 ws.sum) = dl c ws := by
  have h0 := sum_nn hn
  unfold dl
  split
  · rename_i h
    apply List.ext_getElem
    · simp
    · intro j h1 h2
      have a1 := pre_nn hn j
      have a2 := pre_le hn j
      have a3 := pre_nn hn (j + 1)
      have a4 := pre_le hn (j + 1)
      have e1 : pre ws j = 0 := by omega
      have e2 : pre ws (j + 1) = 0 := by omega
      simp [e1, e2]
  · rename_i h
    have e : max 1 ws.sum = ws.sum := by omega
    rw [e]
    rfl
theorem sc__law_dealt : FnScope ["_law_cut", "_law_weights", "_law_told", "_law_upto", "_law_weight", "_law_before"] ["_law_cut", "_law_weights"] (defScope s__law_dealt) := ⟨rfl, rfl, rfl, by decide +kernel, rfl, by decide +kernel, by decide +kernel⟩
theorem ok__law_dealt (W : WB K mg d base) : FnOk P w K mg base CX0 1 d.f__law_dealt d.fd__law_dealt ["_law_cut", "_law_weights"] (spDealt K) := by
  refine FunD.ok W.d__law_dealt.F sc__law_dealt (fun vs H Q E h => ?_) (fun cdv A outer s H vs Q E hr h => ?_)
  · obtain ⟨c, a, ws, rfl, _⟩ := h
    rfl
  · obtain ⟨c, a, ws, rfl, hS, hn, hs, hc0, hc1, hl, k⟩ := h
    refine ⟨_, pss_cons (ps_set (i := 2) sc__law_dealt.nd rfl (Or.inl rfl) (pe_lst pa_nil))
      (pss_cons (ps_set (i := 3) sc__law_dealt.nd rfl (Or.inl rfl) pe_int)
      (pss_cons (ps_for PassesOwn.never rfl (pi_list (pv 1)) (pg_name (i := 4) sc__law_dealt.nd rfl (Or.inl rfl))
      (pss_cons (ps_set (i := 5) sc__law_dealt.nd rfl (Or.inl rfl) (pe_op op_fdivB (pe_op op_mul (pv 0) (pv 3)) (pe_callB (call_max2 rfl) (by rfl) W.B.max b_max (pa_cons pe_int (pa_cons (pe_callB (call_sum rfl) (by rfl) W.B.sum b_sum (pa_cons (pv 1) pa_nil)) pa_nil)))))
      (pss_cons (ps_set (i := 3) sc__law_dealt.nd rfl (Or.inl rfl) (pe_op op_add (pv 3) (pv 4)))
      (pss_one (ps_expr (pe_bm PySem.F.plainAttrs_list PySem.F.slot_list_append PySem.F.type_list_append mt_append (pv 2) (pa_cons (pe_op op_sub (pe_op op_fdivB (pe_op op_mul (pv 0) (pv 3)) (pe_callB (call_max2 rfl) (by rfl) W.B.max b_max (pa_cons pe_int (pa_cons (pe_callB (call_sum rfl) (by rfl) W.B.sum b_sum (pa_cons (pv 1) pa_nil)) pa_nil)))) (pv 5)) pa_nil)))))))
      (pss_one (ps_ret (pv 2))))), ?_⟩
    have h0 := sum_nn hn
    refine ⟨by decide, fun p hp => ?_⟩
    have s1 : ∀ o, Same H (upd H p o) := fun o => same_new hp
    refine ⟨_, rfl, a, rfl, ⟨_, (s1 _).seq hS⟩, for_list (K := K) (a := a) (xs := ws.map V.int) (fun i σ H' => H' = upd H p (.lst (((List.range i).map fun j => c * pre ws (j + 1) / max 1 ws.sum - c * pre ws j / max 1 ws.sum).map V.int)) ∧
      ∃ (v4 v5 : Option V), σ = [some (.int c), some (.ref a), some (.ref p), some (.int (pre ws i)), v4, v5])
      ⟨rfl, none, none, by simp [pre_zero]; rfl⟩ (fun i σ H' _ ⟨e, _⟩ => by rw [e]; exact (s1 _).seq hS) ?_ ?_⟩
    · rintro i x σ H' hi ⟨rfl, v4, v5, rfl⟩
      have hil : i < (ws.map V.int).length := (List.getElem?_eq_some_iff.mp hi).1
      rw [List.length_map] at hil
      obtain ⟨z, ez, rfl⟩ : ∃ z, ws[i]? = some z ∧ x = V.int z := by
        rw [List.getElem?_map] at hi
        cases e : ws[i]? with
        | none => rw [e] at hi; cases hi
        | some z => rw [e] at hi; exact ⟨z, rfl, (Option.some.inj hi).symm⟩
      have ep := pre_succ ez
      have eM : (if ws.sum > 1 then ws.sum else 1) = max 1 ws.sum := by split <;> omega
      have pM : (0 : Int) < max 1 ws.sum ∧ max 1 ws.sum < 2 ^ 199 := by omega
      refine ⟨_, rfl, _, rfl, _, _, rfl, rfl, .inl ⟨by omega, by omega⟩, _, rfl, a, ws, rfl, (s1 _).seq hS, _, _, rfl, ?_⟩
      rw [eM]
      refine ⟨_, _, rfl, rfl, pM, ?_⟩
      refine ⟨_, rfl, _, rfl, _, _, rfl, rfl, ?_⟩
      refine ⟨_, rfl, .inl ⟨rfl, _, SqL.of upd_same⟩, _, rfl, _, rfl, _, _, rfl, rfl, .inl ⟨by omega, by omega⟩, _, rfl, a, ws, rfl, (s1 _).seq hS, _, _, rfl, ?_⟩
      rw [eM]
      refine ⟨_, _, rfl, rfl, pM, _, rfl, _, _, rfl, rfl, p, _, _, rfl, rfl, upd_same, small1000 (by simp; omega), ?_⟩
      refine ⟨?_, some (.int z), some (.int (c * pre ws i / max 1 ws.sum)), by rw [ep]; rfl⟩
      rw [upd_upd, List.range_succ, List.map_append, List.map_append, ← ep]
      rfl
    · rintro σ H' ⟨rfl, v4, v5, rfl⟩
      refine ⟨_, rfl, ?_⟩
      have := k p hp
      rw [List.length_map, ldl_eq hn]
      exact this
theorem sc__law_spread : FnScope ["_law_standing", "_law_pieces", "_law_parts", "_law_told", "_law_k"] ["_law_standing", "_law_pieces", "_law_parts"] (defScope s__law_spread) := ⟨rfl, rfl, rfl, by decide +kernel, rfl, by decide +kernel, by decide +kernel⟩
theorem ok__law_spread (W : WB K mg d base) : FnOk P w K mg base CX0 1 d.f__law_spread d.fd__law_spread ["_law_standing", "_law_pieces", "_law_parts"] (spSpread d.c_Standing) := by
  refine FunD.ok W.d__law_spread.F sc__law_spread (fun vs H Q E h => ?_) (fun cdv A outer s H vs Q E hr h => ?_)
  · obtain ⟨x, a, b, S, is, ws, rfl, _⟩ := h
    rfl
  · obtain ⟨x, a, b, S, is, ws, rfl, ⟨o, p, mk, ⟨dxs, fss, hx, l1, l2, l3, l4, l5⟩, ho, hp, hmk⟩, ha, hb, hl, hnd, hlt, h720, k⟩ := h
    refine ⟨_, pss_cons (ps_set (i := 3) sc__law_spread.nd rfl (Or.inl rfl) (pe_op op_rep (pe_lst (pa_cons pe_int pa_nil)) (pe_callB call_len_seq (by rfl) W.B.len b_len (pa_cons (pe_fld (pv 0) rfl) pa_nil))))
      (pss_cons (ps_for PassesOwn.never rfl (pi_range1 rfl W.B.range (pa_cons (pe_callB call_len_seq (by rfl) W.B.len b_len (pa_cons (pv 1) pa_nil)) pa_nil)) (pg_name (i := 4) sc__law_spread.nd rfl (Or.inl rfl))
      (pss_one (ps_asg (pe_ix (r := rIxL K) ix_list (pv 2) (pv 4) (fun _ _ => rfl)) (pg_sub (pv 3) (pe_ix (r := rIxL K) ix_list (pv 1) (pv 4) (fun _ _ => rfl)) set_list))))
      (pss_one (ps_ret (pv 3)))), ?_⟩
    refine ⟨(by show 1 ≤ sizeLine; decide), fun t ht => ?_⟩
    have s1 := same_new (o := .lst [V.int 0]) ht
    have e1 : (upd H t (.lst [V.int 0])) t = some (.lst [V.int 0]) := upd_same
    generalize upd H t (.lst [V.int 0]) = H1 at *
    refine ⟨_, rfl, x, d.c_Standing, dxs, fss, _, rfl, s1 _ _ hx, W.c_Standing.cl, W.n_Standing_prices, l2, p, _, rfl, .inl (SqL.of (s1 _ _ hp)), t, _, _, rfl, rfl, e1, by omega, (by rw [List.length_map]; omega), Nat.le_of_lt (small1000 (by simp; omega)), fun t2 ht2 => ?_⟩
    have ht0 := s1.free ht2
    have eR : (List.replicate (((S.pr.map V.int).length : Nat) : Int).toNat [V.int 0]).flatten = (spr S.pr.length (is.take 0) (ws.take 0)).map V.int := by
      rw [List.take_zero, List.take_zero, spr_nil, rep1, List.length_map, List.map_replicate]
      simp
    rw [eR]
    have s2 := s1.trans (same_new (o := .lst ((spr S.pr.length (is.take 0) (ws.take 0)).map V.int)) ht2)
    have e2 : (upd H1 t2 (.lst ((spr S.pr.length (is.take 0) (ws.take 0)).map V.int))) t2 = some (.lst ((spr S.pr.length (is.take 0) (ws.take 0)).map V.int)) := upd_same
    generalize upd H1 t2 (.lst ((spr S.pr.length (is.take 0) (ws.take 0)).map V.int)) = H2 at *
    have li : is.length ≤ 720 := Nat.le_trans (nodup_len hnd hlt) h720
    refine ⟨_, rfl, a, _, rfl, .inl (SqL.of (s2 _ _ ha)), _, rfl, by omega, (by rw [List.length_map]; omega), for_range (fun i σ H' => Same H H' ∧ H' t2 = some (.lst ((spr S.pr.length (is.take i) (ws.take i)).map V.int)) ∧ ∃ v4 : Option V, σ = [some (.ref x), some (.ref a), some (.ref b), some (.ref t2), v4])
      ⟨s2, e2, none, rfl⟩ ?_ ?_⟩
    · rintro i σ H' hi ⟨s3, e3, v4, rfl⟩
      rw [Int.toNat_natCast, List.length_map] at hi
      rw [Int.zero_add]
      obtain ⟨j, ej⟩ := at_of hi
      obtain ⟨z, ez⟩ := at_of (xs := ws) (i := i) (by omega)
      have hj := hlt j (List.mem_of_getElem? ej)
      refine ⟨_, rfl, _, rfl, b, _, _, _, rfl, rfl, SqL.of (s3 _ _ hb), atI_nat (by rw [List.getElem?_map, ez]; rfl), ?_⟩
      refine ⟨_, rfl, _, rfl, _, rfl, a, _, _, _, rfl, rfl, SqL.of (s3 _ _ ha), atI_nat (by rw [List.getElem?_map, ej]; rfl), ?_⟩
      refine ⟨t2, _, _, j, rfl, rfl, e3, ixN_nat (by rw [List.length_map, spr_len]; exact hj), same_fresh ht0 s3, ?_, _, rfl⟩
      rw [upd_same, ← List.map_set, spr_set hnd ej ez hj]
    · rintro σ H' ⟨s3, e3, v4, rfl⟩
      refine ⟨_, rfl, k H' t2 s3 ht0 ?_⟩
      rw [e3, Int.toNat_natCast, List.length_map, spr_full (Nat.le_refl _) (by omega)]
theorem sc__law_cut_is : FnScope ["_law_found", "_law_due", "_law_fee", "_law_number"] ["_law_found", "_law_due", "_law_fee"] (defScope s__law_cut_is) := ⟨rfl, rfl, rfl, by decide +kernel, rfl, by decide +kernel, by decide +kernel⟩
theorem ok__law_cut_is (W : WB K mg d base) : FnOk P w K mg base CX0 2 d.f__law_cut_is d.fd__law_cut_is ["_law_found", "_law_due", "_law_fee"] spCutIs := by
  refine FunD.ok W.d__law_cut_is.F sc__law_cut_is (fun vs H Q E h => ?_) (fun cdv A outer s H vs Q E hr h => ?_)
  · obtain ⟨t, p, b, ws, f, rfl, _⟩ := h
    rfl
  · obtain ⟨t, p, b, ws, f, rfl, ht, hp, hb, k⟩ := h
    have G__law_whole := ok__law_whole (P := P) (w := w) (base := base) W
    refine ⟨_, pss_cons (ps_if (PW.pt (pw_or (pt_not (pt_val (pe_callB call_isinst (by rfl) W.B.isi b_isi (pa_cons (pv 0) (pa_cons (pe_bltn (v := .ty "tuple") (by rfl) W.B.tuple b_tuple rfl) pa_nil))))) (pw_or (pt_cmpR op_ne (pe_callB call_len_seq (by rfl) W.B.len b_len (pa_cons (pv 0) pa_nil)) pe_int (nomark _)) (pw_or (pt_not (pt_val (pe_callB call_isinst (by rfl) W.B.isi b_isi (pa_cons (pe_ix (r := rIxT K) ix_tup (pv 0) pe_int (fun _ _ => rfl)) (pa_cons (pe_bltn (v := .ty "list") (by rfl) W.B.list b_list rfl) pa_nil))))) (pw_or1 (pt_not (pt_val (pe_call G__law_whole hr rfl W.d__law_whole.m W.d__law_whole.F.kp W.d__law_whole.b .nil pass0 (pa_cons (pe_ix (r := rIxT K) ix_tup (pv 0) pe_int (fun _ _ => rfl)) pa_nil))))))))) (pss_one (ps_ret pe_bl)) (pss_nil))
      (pss_cons (ps_for PassesOwn.never rfl (pi_list (pe_ix (r := rIxT K) ix_tup (pv 0) pe_int (fun _ _ => rfl))) (pg_name (i := 3) sc__law_cut_is.nd rfl (Or.inl rfl))
      (pss_one (ps_if (pt_not (pt_val (pe_call G__law_whole hr rfl W.d__law_whole.m W.d__law_whole.F.kp W.d__law_whole.b .nil pass0 (pa_cons (pv 3) pa_nil)))) (pss_one (ps_ret pe_bl)) (pss_nil))))
      (pss_one (ps_ret (pe_and (pe_cmpR (op_eqL hr.units0) (pe_ix (r := rIxT K) ix_tup (pv 0) pe_int (fun _ _ => rfl)) (pv 1) (nomark _)) (pe_one (pe_cmpR op_eq (pe_ix (r := rIxT K) ix_tup (pv 0) pe_int (fun _ _ => rfl)) (pv 2) (nomark _))))))), ?_⟩
    have a0 : atI [V.ref p, V.int f] 0 = some (.ref p) := by rfl
    have a1 : atI [V.ref p, V.int f] 1 = some (.int f) := by rfl
    refine ⟨_, rfl, _, _, _, _, rfl, .inl ⟨_, rfl⟩, TyOf.tup ht, kit_same _ _, _, rfl, iteF ?_⟩
    refine ⟨_, rfl, t, _, rfl, .inr (SqT.of ht), rfl, _, rfl, iteF ?_⟩
    refine ⟨_, rfl, t, _, _, _, rfl, rfl, SqT.of ht, a0, _, _, _, _, rfl, .inl ⟨_, rfl⟩, TyOf.lst hp, kit_same _ _, _, rfl, iteF ?_⟩
    refine ⟨_, rfl, t, _, _, _, rfl, rfl, SqT.of ht, a1, f, rfl, _, rfl, ?_⟩
    refine iteF ?_
    refine ⟨_, rfl, t, _, _, _, rfl, rfl, SqT.of ht, a0, p, rfl, ⟨_, SqL.of hp⟩, for_list (fun _ σ H' => H' = H ∧ ∃ v, σ = [some (.ref t), some (.ref b), some (.int f), v]) ⟨rfl, none, rfl⟩ (fun i σ H' _ h => by rw [h.1]; exact SqL.of hp) ?_ ?_⟩
    · rintro i x σ H' hi ⟨rfl, v, rfl⟩
      obtain ⟨n, rfl⟩ : ∃ n : Int, x = .int n := by
        obtain ⟨m, _, rfl⟩ := List.mem_map.mp (List.mem_of_getElem? hi)
        exact ⟨m, rfl⟩
      exact ⟨_, rfl, n, rfl, _, rfl, iteF ⟨rfl, _, rfl⟩⟩
    · rintro σ H' ⟨rfl, v, rfl⟩
      refine ⟨_, rfl, t, _, _, _, rfl, rfl, SqT.of ht, a0, _, rfl, p, b, _, _, rfl, rfl, SqL.of hp, SqL.of hb, flat_zs _, flat_zs _, ?_⟩
      rw [eqVs_refl (flat_zs ws)]
      refine ⟨_, rfl, iteT ⟨_, rfl, t, _, _, _, rfl, rfl, SqT.of ht, a1, _, rfl, rfl, ?_⟩⟩
      rw [show decide (V.int f = V.int f) = true by simp]
      exact k
theorem sc__law_right : FnScope ["_law_voucher", "_law_parents_here", "_law_basket_here", "_law_standing", "_law_due", "_law_fee", "_law_held", "_law_found"] ["_law_voucher", "_law_parents_here", "_law_basket_here", "_law_standing", "_law_due", "_law_fee"] (defScope s__law_right) := ⟨rfl, rfl, rfl, by decide +kernel, rfl, by decide +kernel, by decide +kernel⟩
theorem ok__law_right (W : WB K mg d base) : FnOk P w K mg base CX0 6 d.f__law_right d.fd__law_right ["_law_voucher", "_law_parents_here", "_law_basket_here", "_law_standing", "_law_due", "_law_fee"] (spRight K d) := by
  refine FunD.ok W.d__law_right.F sc__law_right (fun vs H Q E h => ?_) (fun cdv A outer s H vs Q E hr h => ?_)
  · obtain ⟨v, a, b, x, du, V, ps, B, S, rfl, _⟩ := h
    rfl
  · obtain ⟨v, a, b, x, du, Vc, ps, B, S, rfl, hV, ha, hb, hx, wf, vok, hdu, k⟩ := h
    have G_cuts := ok_cuts (P := P) (w := w) (base := base) W
    have G__law_cut_is := ok__law_cut_is (P := P) (w := w) (base := base) W
    have hr2 : Room 2 _ := hr.mono (by decide)
    refine ⟨_, pss_cons (ps_set (i := 6) sc__law_right.nd rfl (Or.inl rfl) (pe_lst (pa_cons (pe_callTy call_list_of (by rfl) W.B.list b_list (pa_cons (pe_fld (pv 3) rfl) pa_nil)) (pa_cons (pe_callTy call_list_of (by rfl) W.B.list b_list (pa_cons (pe_fld (pv 3) rfl) pa_nil)) (pa_cons (pe_fld (pv 3) rfl) (pa_cons (pe_callTy call_list_of (by rfl) W.B.list b_list (pa_cons (pe_fld (pv 3) rfl) pa_nil)) pa_nil))))))
      (pss_cons (ps_set (i := 7) sc__law_right.nd rfl (Or.inl rfl) (pe_call G_cuts hr rfl W.d_cuts.m W.d_cuts.F.kp W.d_cuts.b .nil pass0 (pa_cons (pv 0) (pa_cons (pv 1) (pa_cons (pv 2) (pa_cons (pv 3) pa_nil))))))
      (pss_cons (ps_if (pt_not (pt_val (pe_call G__law_cut_is hr2 rfl W.d__law_cut_is.m W.d__law_cut_is.F.kp W.d__law_cut_is.b .nil pass0 (pa_cons (pv 7) (pa_cons (pv 4) (pa_cons (pv 5) pa_nil)))))) (pss_one (ps_ret pe_bl)) (pss_nil))
      (pss_cons (ps_expr (pe_bm PySem.F.plainAttrs_list PySem.F.slot_list_append PySem.F.type_list_append mt_append (pe_ix (r := rIxT K) ix_tup (pv 7) pe_int (fun _ _ => rfl)) (pa_cons pe_int pa_nil)))
      (pss_cons (ps_if (pt_not (pt_val (pe_call G__law_cut_is hr2 rfl W.d__law_cut_is.m W.d__law_cut_is.F.kp W.d__law_cut_is.b .nil pass0 (pa_cons (pe_call G_cuts hr rfl W.d_cuts.m W.d_cuts.F.kp W.d_cuts.b .nil pass0 (pa_cons (pv 0) (pa_cons (pv 1) (pa_cons (pv 2) (pa_cons (pv 3) pa_nil))))) (pa_cons (pv 4) (pa_cons (pv 5) pa_nil)))))) (pss_one (ps_ret pe_bl)) (pss_nil))
      (pss_one (ps_ret (pe_cmpR (op_eqD hr.units) (pe_lst (pa_cons (pe_fld (pv 3) rfl) (pa_cons (pe_fld (pv 3) rfl) (pa_cons (pe_fld (pv 3) rfl) (pa_cons (pe_fld (pv 3) rfl) pa_nil))))) (pv 6) (nomark _)))))))), ?_⟩
    obtain ⟨o, pp, mm, ⟨dxs, fss, hxs, l1, l2, l3, l4, l5⟩, ho, hpp, hmm⟩ := id hx
    have lpr : S.pr.length ≤ 720 := by rw [wf.lp]; exact wf.np
    refine ⟨_, rfl, x, d.c_Standing, dxs, fss, _, rfl, hxs, W.c_Standing.cl, W.n_Standing_owners, l1, o, _, rfl, .inl (SqL.of ho), fun h2 q2 => ?_⟩
    have t6 := same_new (o := .lst (S.ow.map iV)) q2
    have e2 : (upd H h2 (.lst (S.ow.map iV))) h2 = some (.lst (S.ow.map iV)) := upd_same
    generalize upd H h2 (.lst (S.ow.map iV)) = H6 at *
    refine ⟨_, rfl, x, d.c_Standing, dxs, fss, _, rfl, t6 _ _ hxs, W.c_Standing.cl, W.n_Standing_prices, l2, pp, _, rfl, .inl (SqL.of (t6 _ _ hpp)), fun h3 q3 => ?_⟩
    have n3 := same_new (o := .lst (S.pr.map V.int)) q3
    have t7 := t6.trans n3
    have e3 : (upd H6 h3 (.lst (S.pr.map V.int))) h3 = some (.lst (S.pr.map V.int)) := upd_same
    have e2 := n3 _ _ e2
    clear n3
    generalize upd H6 h3 (.lst (S.pr.map V.int)) = H7 at *
    refine ⟨_, rfl, x, d.c_Standing, dxs, fss, _, rfl, t7 _ _ hxs, W.c_Standing.cl, W.n_Standing_carriage, l3, ?_⟩
    refine ⟨_, rfl, x, d.c_Standing, dxs, fss, _, rfl, t7 _ _ hxs, W.c_Standing.cl, W.n_Standing_marked, l4, mm, _, rfl, .inl (SqL.of (t7 _ _ hmm)), fun h4 q4 => ?_⟩
    have n4 := same_new (o := .lst (S.mkd.map V.bl)) q4
    have t8 := t7.trans n4
    have e4 : (upd H7 h4 (.lst (S.mkd.map V.bl))) h4 = some (.lst (S.mkd.map V.bl)) := upd_same
    have e2 := n4 _ _ e2
    have e3 := n4 _ _ e3
    clear n4
    generalize upd H7 h4 (.lst (S.mkd.map V.bl)) = H8 at *
    refine ⟨(by show 4 ≤ sizeLine; decide), fun hd q5 => ?_⟩
    have n5 := same_new (o := .lst [V.ref h2, V.ref h3, V.int S.cg, V.ref h4]) q5
    have t9 := t8.trans n5
    have e5 : (upd H8 hd (.lst [V.ref h2, V.ref h3, V.int S.cg, V.ref h4])) hd = some (.lst [V.ref h2, V.ref h3, V.int S.cg, V.ref h4]) := upd_same
    have e2 := n5 _ _ e2
    have e3 := n5 _ _ e3
    have e4 := n5 _ _ e4
    clear n5
    generalize upd H8 hd (.lst [V.ref h2, V.ref h3, V.int S.cg, V.ref h4]) = H9 at *
    refine ⟨_, rfl, _, rfl, _, rfl, _, rfl, v, a, b, x, Vc, ps, B, S, rfl, hV.same t9, t9.seq ha, hb.same t9, hx.same t9, wf, vok, fun H11 tp fo s11 ft ff ht11 hf11 => ?_⟩
    have lcu : (cutM Vc ps (kds B) S).1.length ≤ 720 := by
      have := (cut_le (V := Vc) (ps := ps) (kk := kds B) wf.nn wf.cg.1 vok.so fun m e => (vok.ms.most m e).1).1.1
      omega
    generalize ecu : cutM Vc ps (kds B) S = cu at *
    obtain ⟨cs, cf⟩ := cu
    refine ⟨_, rfl, _, rfl, _, rfl, tp, fo, du, cs, cf, rfl, ht11, hf11, s11 _ _ (t9 _ _ hdu), _, rfl, iteF ?_⟩
    have a0 : atI [V.ref fo, V.int cf] 0 = some (.ref fo) := by rfl
    refine ⟨_, rfl, tp, _, _, _, rfl, rfl, SqT.of ht11, a0, .inl ⟨rfl, _, SqL.of hf11⟩, fo, _, _, rfl, rfl, hf11, small1000 (by rw [List.length_map]; exact Nat.le_trans lcu (by decide)), ?_⟩
    have t12 : Same H9 (upd H11 fo (.lst (cs.map V.int ++ [V.int 1]))) := same_fresh ff s11
    generalize upd H11 fo (.lst (cs.map V.int ++ [V.int 1])) = H12 at *
    have u12 := t9.trans t12
    refine ⟨_, rfl, _, rfl, _, rfl, _, rfl, v, a, b, x, Vc, ps, B, S, rfl, hV.same u12, u12.seq ha, hb.same u12, hx.same u12, wf, vok, fun H13 tp2 fo2 s13 ft2 ff2 ht13 hf13 => ?_⟩
    rw [ecu] at ht13 hf13
    have t13 := t12.trans s13
    have u13 := u12.trans s13
    refine ⟨_, rfl, _, rfl, tp2, fo2, du, cs, cf, rfl, ht13, hf13, u13 _ _ hdu, _, rfl, iteF ?_⟩
    refine ⟨_, rfl, x, d.c_Standing, dxs, fss, _, rfl, u13 _ _ hxs, W.c_Standing.cl, W.n_Standing_owners, l1, _, rfl, x, d.c_Standing, dxs, fss, _, rfl, u13 _ _ hxs, W.c_Standing.cl, W.n_Standing_prices, l2, _, rfl, x, d.c_Standing, dxs, fss, _, rfl, u13 _ _ hxs, W.c_Standing.cl, W.n_Standing_carriage, l3, _, rfl, x, d.c_Standing, dxs, fss, _, rfl, u13 _ _ hxs, W.c_Standing.cl, W.n_Standing_marked, l4, (by show 4 ≤ sizeLine; decide), fun nl qn => ?_⟩
    have n14 := same_new (o := .lst [V.ref o, V.ref pp, V.int S.cg, V.ref mm]) qn
    have t14 := t13.trans n14
    have u14 := u13.trans n14
    have e14 : (upd H13 nl (.lst [V.ref o, V.ref pp, V.int S.cg, V.ref mm])) nl = some (.lst [V.ref o, V.ref pp, V.int S.cg, V.ref mm]) := upd_same
    clear n14
    generalize upd H13 nl (.lst [V.ref o, V.ref pp, V.int S.cg, V.ref mm]) = H14 at *
    refine ⟨_, rfl, nl, hd, _, _, rfl, rfl, .inl ⟨SqL.of e14, SqL.of (t14 _ _ e5)⟩, rfl, ?_, k _ u14⟩
    exact deq4 (DEq.flats (SqL.of (u14 _ _ ho)) (SqL.of (t14 _ _ e2)) (flat_iV _)) (DEq.flats (SqL.of (u14 _ _ hpp)) (SqL.of (t14 _ _ e3)) (flat_zs _)) (DEq.int _) (DEq.flats (SqL.of (u14 _ _ hmm)) (SqL.of (t14 _ _ e4)) (flat_bls _))
theorem sc__law_groups : FnScope ["_law_prices", "_law_many", "_law_left", "_law_row", "_law_top", "_law_at"] ["_law_prices", "_law_many"] (defScope s__law_groups) := ⟨rfl, rfl, rfl, by decide +kernel, rfl, by decide +kernel, by decide +kernel⟩
theorem ok__law_groups (W : WB K mg d base) : FnOk P w K mg base CX0 1 d.f__law_groups d.fd__law_groups ["_law_prices", "_law_many"] (spGroups K) := by
  refine FunD.ok W.d__law_groups.F sc__law_groups (fun vs H Q E h => ?_) (fun cdv A outer s H vs Q E hr h => ?_)
  · obtain ⟨a, q, m, rfl, _⟩ := h
    rfl
  · obtain ⟨a, q, m, rfl, ha, hq, hm2, hm20, k⟩ := h
    refine ⟨_, pss_cons (ps_set (i := 2) sc__law_groups.nd rfl (Or.inl rfl) (pe_listrange rfl (by rfl) W.B.list (by rfl) W.B.range (pe_callB call_len_seq (by rfl) W.B.len b_len (pa_cons (pv 0) pa_nil))))
      (pss_cons (ps_set (i := 3) sc__law_groups.nd rfl (Or.inr rfl) (pe_lst pa_nil))
      (pss_cons (ps_while PassesOwn.never (pt_cmpR (op_neL hr.units0) (pv 2) (pe_lst pa_nil) (nomark _))
      (pss_cons (ps_set (i := 4) sc__law_groups.nd rfl (Or.inl rfl) (pe_ix (r := rIxL K) ix_list (pv 2) pe_int (fun _ _ => rfl)))
      (pss_cons (ps_for PassesOwn.never rfl (pi_list (pv 2)) (pg_name (i := 5) sc__law_groups.nd rfl (Or.inl rfl))
      (pss_one (ps_if (pt_cmpR op_gt (pe_ix (r := rIxL K) ix_list (pv 0) (pv 5) (fun _ _ => rfl)) (pe_ix (r := rIxL K) ix_list (pv 0) (pv 4) (fun _ _ => rfl)) (nomark _)) (pss_one (ps_set (i := 4) sc__law_groups.nd rfl (Or.inl rfl) (pv 5))) (pss_nil))))
      (pss_cons (ps_expr (pe_bm PySem.F.plainAttrs_list PySem.F.slot_list_remove PySem.F.type_list_remove mt_remove (pv 2) (pa_cons (pv 4) pa_nil)))
      (pss_one (ps_expr (pe_bm PySem.F.plainAttrs_list PySem.F.slot_list_append PySem.F.type_list_append mt_append (pv 3) (pa_cons (pv 4) pa_nil))))))))
      (pss_one (ps_ret (pe_comp (N := ["_law_at", "_law_row", "_law_many"]) (CompScope.of (N := ["_law_at", "_law_row", "_law_many"]) (cap := [none, some 3, some 1]) (defScope s__law_groups).names ["_law_prices", "_law_many", "_law_left", "_law_row", "_law_top", "_law_at"] rfl rfl (by decide +kernel)) rfl (pi_range3E rfl W.B.range (pa_cons pe_int (pa_cons (pe_op op_add (pe_op op_sub (pe_callB call_len_seq (by rfl) W.B.len b_len (pa_cons (pv 3) pa_nil)) (pv 1)) pe_int) (pa_cons (pv 1) pa_nil)))) (fun _ _ _ _ => pg_name (i := 0) (show (["_law_at", "_law_row", "_law_many"] : List Str).Nodup by decide +kernel) rfl (Or.inl rfl)) (fun _ _ _ _ => (pe_slice (r := rSlL K) sl_list (pv 1) (po_some (pv 0)) (po_some (pe_op op_add (pv 0) (pv 2)))))))))), ?_⟩
    refine ⟨_, rfl, a, _, rfl, .inl ha, q.length, (by rw [List.length_map]), by omega, fun lf qlf => ?_⟩
    have s1 := same_new (o := .lst ((List.range q.length).map fun i => V.int (i : Nat))) qlf
    have el : (upd H lf (.lst ((List.range q.length).map fun i => V.int (i : Nat)))) lf = some (.lst ((List.range q.length).map iV)) := upd_same
    generalize upd H lf (.lst ((List.range q.length).map fun i => V.int (i : Nat))) = H1 at *
    refine ⟨by decide, fun rw_ qrw => ?_⟩
    have s2 := s1.trans (same_new (o := .lst []) qrw)
    have el2 := same_new (o := .lst []) qrw _ _ el
    have er : (upd H1 rw_ (.lst [])) rw_ = some (.lst (([] : List Nat).map iV)) := upd_same
    have frw : H rw_ = none := s1.free qrw
    have nlr : lf ≠ rw_ := fun e => by rw [e, qrw] at el; cases el
    generalize upd H1 rw_ (.lst []) = H2 at *
    refine while_by (fun σ H' => Same H H' ∧ ∃ (row left : List Nat) (v4 v5 : Option V), Sel q row left ∧ H' lf = some (.lst (left.map iV)) ∧ H' rw_ = some (.lst (row.map iV)) ∧ σ = [some (.ref a), some (.int m), some (.ref lf), some (.ref rw_), v4, v5])
      (fun _ H' => match H' lf with | some (.lst xs) => xs.length | _ => 0) ⟨s2, [], List.range q.length, none, none, Sel.start q, el2, er, rfl⟩ ?_ ?_
    · rintro σ H3 ⟨s3, row, left, v4, v5, sel, el3, er3, rfl⟩
      refine ⟨_, rfl, by decide, fun tn qtn => ?_⟩
      have s4 := s3.trans (same_new (o := .lst []) qtn)
      have et : (upd H3 tn (.lst [])) tn = some (.lst []) := upd_same
      have el4 := same_new (o := .lst []) qtn _ _ el3
      have er4 := same_new (o := .lst []) qtn _ _ er3
      generalize upd H3 tn (.lst []) = H4 at *
      refine ⟨lf, tn, _, _, rfl, rfl, SqL.of el4, SqL.of et, flat_iV _, rfl, _, rfl, ?_⟩
      have ln := sel.len
      cases hle : left with
      | nil =>
        subst hle
        show if false = true then _ else _
        refine iteF ?_
        have e := sel.fin
        subst e
        have lo : (ordQ q).length = q.length := by simpa using ln
        have ez : (Builtin.Range.rangeSize 0 ((((ordQ q).map iV).length : Nat) - (m : Int) + 1) (m : Int)).toNat = (ordQ q).length / m := by rw [List.length_map]; exact size_groups (by omega)
        refine ⟨_, rfl, rw_, _, rfl, .inl (SqL.of er4), _, rfl, _, _, rfl, rfl, _, _, rfl, rfl, _, rfl, _, _, _, rfl, ⟨by decide, by decide⟩, ⟨by omega, by rw [List.length_map]; omega⟩, by omega, by omega, ?_⟩
        rw [ez]
        refine comp_step (fun j σ ys H' => Same H4 H' ∧ ∃ (gl : List Addr) (v : Option V), ys = gl.map V.ref ∧ gl.length = j ∧ P2 (fun r g => H' r = some (.lst (g.map iV))) gl ((grp m (ordQ q)).take j) ∧ (∀ r ∈ gl, H r = none) ∧ σ = [v, some (.ref rw_), some (.int m)])
          ⟨Same.refl _, [], none, rfl, rfl, .nil, (fun r hr => by simp at hr), rfl⟩ ?_ ?_ ?_ ?_
        · exact Nat.le_of_lt (small1000 (Nat.le_trans (Nat.div_le_self _ _) (by omega)))
        · rintro j σ ys H' hj ⟨_, gl, v, rfl, hl, _⟩
          rw [List.length_map]
          exact hl
        · rintro j σ ys H' hj ⟨s5, gl, v, rfl, hl, hP, hF, rfl⟩
          refine ⟨_, rfl, _, rfl, _, rfl, _, rfl, _, rfl, _, _, rfl, rfl, _, rfl, rw_, _, rfl, SqL.of (s5 _ _ er4), fun c hc => ?_⟩
          have ec : cutV ((ordQ q).map iV) (some (0 + (j : Int) * (m : Int))) (some (0 + (j : Int) * (m : Int) + (m : Int))) = (((ordQ q).drop (j * m)).take m).map iV := by
            rw [show 0 + (j : Int) * (m : Int) = ((j * m : Nat) : Int) by rw [Int.zero_add, Int.natCast_mul], show ((j * m : Nat) : Int) + (m : Int) = ((j * m + m : Nat) : Int) by omega, cut_nat, List.map_take, List.map_drop]
          rw [ec]
          have n6 := same_new (o := .lst ((((ordQ q).drop (j * m)).take m).map iV)) hc
          have e6 : (upd H' c (.lst ((((ordQ q).drop (j * m)).take m).map iV))) c = some (.lst ((((ordQ q).drop (j * m)).take m).map iV)) := upd_same
          generalize upd H' c (.lst ((((ordQ q).drop (j * m)).take m).map iV)) = H6 at *
          have eg : (grp m (ordQ q))[j]? = some (((ordQ q).drop (j * m)).take m) := by simp [grp, hj]
          refine ⟨s5.trans n6, gl ++ [c], _, by simp, by simp [hl], ?_, fun r hr => ?_, rfl⟩
          · rw [List.take_add_one, eg]
            exact (hP.mono fun r g h => n6 _ _ h).snoc e6
          · rcases List.mem_append.mp hr with h | h
            · exact hF r h
            · have e : r = c := by simpa using h
              subst e
              exact (s4.trans s5).free hc
        · rintro σ ys H' ⟨s5, gl, v, rfl, hl, hP, hF, rfl⟩ D hD
          have lg : (grp m (ordQ q)).length = (ordQ q).length / m := by simp [grp]
          rw [← lg, List.take_length] at hP
          have n6 := same_new (o := .lst (gl.map V.ref)) hD
          refine k _ D gl ((s4.trans s5).trans n6) ((s4.trans s5).free hD) upd_same (hP.mono fun r g h => n6 _ _ h) hF
      | cons t0 tl =>
        rw [← hle]
        have et0 : left[0]? = some t0 := by rw [hle]; rfl
        rw [show (!eqVs (left.map iV) []) = true by rw [hle]; rfl]
        refine iteT ?_
        refine ⟨_, rfl, lf, _, _, _, rfl, rfl, SqL.of el4, atI_nat (j := 0) (by rw [List.getElem?_map, et0]; rfl), ?_⟩
        refine ⟨_, rfl, lf, rfl, ⟨_, SqL.of el4⟩, for_list (xs := left.map iV) (fun i σ H' => H' = H4 ∧ ∃ (top : Nat) (v5 : Option V), TopI q left i top ∧ σ = [some (.ref a), some (.int m), some (.ref lf), some (.ref rw_), some (iV top), v5])
          ⟨rfl, t0, _, TopI.start et0, rfl⟩ (fun i σ H' _ h => by rw [h.1]; exact SqL.of el4) ?_ ?_⟩
        · rintro i y σ H' hy ⟨rfl, top, v5', ht, rfl⟩
          obtain ⟨n, en, rfl⟩ : ∃ n, left[i]? = some n ∧ y = iV n := map_at hy
          obtain ⟨zx, ex⟩ := at_of (sel.lt (List.mem_of_getElem? en))
          have htm : top ∈ left := by obtain ⟨⟨k, ek, _⟩, _⟩ := ht; exact List.mem_of_getElem? ek
          obtain ⟨zt, ezt⟩ := at_of (sel.lt htm)
          have hmo := ht.more sel.inc en
          rw [show q.getD top 0 = zt by rw [List.getD_eq_getElem?_getD, ezt]; rfl, show q.getD n 0 = zx by rw [List.getD_eq_getElem?_getD, ex]; rfl] at hmo
          refine ⟨_, rfl, _, rfl, a, _, _, _, rfl, rfl, s4.seq ha, atI_nat (by rw [List.getElem?_map, ex]; rfl), _, rfl, _, rfl, a, _, _, _, rfl, rfl, s4.seq ha, atI_nat (by rw [List.getElem?_map, ezt]; rfl), _, _, rfl, rfl, _, rfl, ?_⟩
          by_cases hlt : zt < zx
          · rw [if_pos hlt] at hmo
            rw [show decide (zx > zt) = true by simp [hlt]]
            exact iteT ⟨_, rfl, rfl, n, _, hmo, rfl⟩
          · rw [if_neg hlt] at hmo
            rw [show decide (zx > zt) = false by simp; omega]
            exact iteF ⟨rfl, top, _, hmo, rfl⟩
        · rintro σ H' ⟨rfl, top, v5', ht, rfl⟩
          rw [List.length_map] at ht
          obtain ⟨sel', hm⟩ := sel.step ht
          have el5 : H' lf = some (.lst ((left.map fun (i : Nat) => (i : Int)).map V.int)) := by rw [el4, List.map_map]; rfl
          refine ⟨_, rfl, .inl ⟨rfl, _, SqL.of el4⟩, _, rfl, lf, _, _, rfl, rfl, el5, List.mem_map.mpr ⟨top, hm, rfl⟩, ?_⟩
          rw [cast_erase, List.map_map]
          have er5 : (upd H' lf (.lst ((left.erase top).map (V.int ∘ fun (i : Nat) => (i : Int))))) rw_ = some (.lst (row.map iV)) := by rw [upd_ne nlr.symm]; exact er4
          have el6 : (upd H' lf (.lst ((left.erase top).map (V.int ∘ fun (i : Nat) => (i : Int))))) lf = some (.lst ((left.erase top).map iV)) := upd_same
          have s6 : Same H (upd H' lf (.lst ((left.erase top).map (V.int ∘ fun (i : Nat) => (i : Int))))) := same_fresh qlf s4
          generalize upd H' lf (.lst ((left.erase top).map (V.int ∘ fun (i : Nat) => (i : Int)))) = H6 at *
          refine ⟨_, rfl, .inl ⟨rfl, _, SqL.of er5⟩, _, rfl, rw_, _, _, rfl, rfl, er5, small1000 (by rw [List.length_map]; omega), ?_⟩
          refine ⟨⟨same_fresh frw s6, row ++ [top], left.erase top, _, _, sel', by rw [upd_ne nlr]; exact el6, by rw [upd_same, List.map_append]; rfl, rfl⟩, ?_⟩
          show (match (upd H6 rw_ _) lf with | some (.lst xs) => xs.length | _ => 0) < (match H3 lf with | some (.lst xs) => xs.length | _ => 0)
          rw [upd_ne nlr, el6, el3]
          show ((left.erase top).map iV).length < (left.map iV).length
          rw [List.length_map, List.length_map, List.length_erase_of_mem hm]
          have := List.length_pos_of_mem hm
          omega
    · rintro σ H' Q' Q'' hq ⟨v, h1, h2, h3⟩
      refine ⟨v, h1, h2, fun tn qt => ?_⟩
      obtain ⟨a1, a2, a3, a4, a5, a6, a7, a8, a9, a10, b, e, q⟩ := h3 tn qt
      exact ⟨a1, a2, a3, a4, a5, a6, a7, a8, a9, a10, b, e, hq _ _ q⟩
def spLWant (d : D) : Sp := fun vs H Q _ => ∃ (n a b : Int) (x pc : Addr) (ps : List (Option Nat)) (B : Bask) (S : Stnd) (ab : List Nat), vs = [.int n, .int a, .int b, .ref x, .ref pc] ∧ SbOk n a b ∧ StndIs d.c_Standing H x S ∧ Wf ps B S ∧ H pc = some (.lst (ab.map iV)) ∧ ab.Nodup ∧ (∀ i ∈ ab, i < S.pr.length) ∧
  ∀ (H' : Hp) (l : Addr), Same H H' → H l = none → H' l = some (.lst ((want (soN n a b) S.mkd.length (ab.map fun i => S.ow.getD i 0) (qs S.pr ab)).map V.int)) → Q (.ref l) H'
theorem byLine_at {n : Nat} {lines : List Nat} {l : Nat} (h : l < n) : (byLine n lines)[l]? = some ((List.range lines.length).filter fun k => lines.getD k 0 == l) := by
  unfold byLine
  rw [List.getElem?_map, List.getElem?_range h]
  rfl
theorem byLine_nodup {n : Nat} {lines : List Nat} : (byLine n lines).flatten.Nodup := by
  refine List.pairwise_flatten.mpr ⟨fun l hl => ?_, ?_⟩
  · obtain ⟨k, _, rfl⟩ := List.mem_map.mp hl
    exact List.Pairwise.filter _ List.nodup_range
  · unfold byLine
    refine List.pairwise_map.mpr (List.pairwise_lt_range.imp fun {p q} hlt x hx y hy e => ?_)
    have h1 := (List.mem_filter.mp hx).2
    have h2 := (List.mem_filter.mp hy).2
    subst e
    have h1' : lines.getD x 0 = p := by simpa using h1
    have h2' : lines.getD x 0 = q := by simpa using h2
    omega
theorem sc__law_wanted : FnScope ["_law_sort", "_law_a", "_law_b", "_law_standing", "_law_pieces", "_law_prices", "_law_told", "_law_line", "_law_own", "_law_dues", "_law_k", "_law_group"] ["_law_sort", "_law_a", "_law_b", "_law_standing", "_law_pieces"] (defScope s__law_wanted) := ⟨rfl, rfl, rfl, by decide +kernel, rfl, by decide +kernel, by decide +kernel⟩
theorem ok__law_wanted (W : WB K mg d base) : FnOk P w K mg base CX0 2 d.f__law_wanted d.fd__law_wanted ["_law_sort", "_law_a", "_law_b", "_law_standing", "_law_pieces"] (spLWant d) := by
  refine FunD.ok W.d__law_wanted.F sc__law_wanted (fun vs H Q E h => ?_) (fun cdv A outer s H vs Q E hr h => ?_)
  · obtain ⟨n, a, b, x, pc, ps, B, S, ab, rfl, _⟩ := h
    rfl
  · obtain ⟨n, a, b, x, pc, ps, B, S, ab, rfl, hs, hx, wf, hpc, hnd, hlt, k⟩ := h
    have G__law_dealt := ok__law_dealt (P := P) (w := w) (base := base) W
    have G__law_groups := ok__law_groups (P := P) (w := w) (base := base) W
    refine ⟨_, pss_cons (ps_set (i := 5) sc__law_wanted.nd rfl (Or.inr rfl) (pe_comp (N := ["_law_piece", "_law_standing"]) (CompScope.of (N := ["_law_piece", "_law_standing"]) (cap := [none, some 3]) (defScope s__law_wanted).names ["_law_sort", "_law_a", "_law_b", "_law_standing", "_law_pieces", "_law_prices", "_law_told", "_law_line", "_law_own", "_law_dues", "_law_k", "_law_group"] rfl rfl (by decide +kernel)) rfl (pi_list (pv 4)) (fun _ _ _ _ => pg_name (i := 0) (show (["_law_piece", "_law_standing"] : List Str).Nodup by decide +kernel) rfl (Or.inl rfl)) (fun _ _ _ _ => (pe_ix (r := rIxL K) ix_list (pe_fldK (K := K) (pv 1) rfl) (pv 0) (fun _ _ => rfl)))))
      (pss_cons (ps_set (i := 6) sc__law_wanted.nd rfl (Or.inl rfl) (pe_op op_rep (pe_lst (pa_cons pe_int pa_nil)) (pe_callB call_len_seq (by rfl) W.B.len b_len (pa_cons (pv 4) pa_nil))))
      (pss_cons (ps_if (pt_cmpR op_eq (pv 0) pe_int (nomark _)) (pss_one (ps_ret (pe_call G__law_dealt hr rfl W.d__law_dealt.m W.d__law_dealt.F.kp W.d__law_dealt.b .nil pass0 (pa_cons (pe_callB (call_min2 rfl) (by rfl) W.B.min b_min (pa_cons (pv 1) (pa_cons (pe_callB (call_sum rfl) (by rfl) W.B.sum b_sum (pa_cons (pv 5) pa_nil)) pa_nil))) (pa_cons (pv 5) pa_nil))))) (pss_nil))
      (pss_cons (ps_if (PW.pt (pw_and (pt_cmpR op_eq (pv 0) pe_int (nomark _)) (pw_and1 (pt_cmpR op_eq (pv 2) pe_int (nomark _))))) (pss_one (ps_ret (pe_call G__law_dealt hr rfl W.d__law_dealt.m W.d__law_dealt.F.kp W.d__law_dealt.b .nil pass0 (pa_cons (pe_op op_fdiv (pe_op op_mul (pe_callB (call_sum rfl) (by rfl) W.B.sum b_sum (pa_cons (pv 5) pa_nil)) (pv 1)) pe_int) (pa_cons (pv 5) pa_nil))))) (pss_nil))
      (pss_cons (ps_if (pt_cmpR op_eq (pv 0) pe_int (nomark _)) (pss_one (ps_for PassesOwn.never rfl (pi_range1 rfl W.B.range (pa_cons (pe_callB call_len_seq (by rfl) W.B.len b_len (pa_cons (pe_fld (pv 3) rfl) pa_nil)) pa_nil)) (pg_name (i := 7) sc__law_wanted.nd rfl (Or.inr rfl))
      (pss_cons (ps_setCT (N := ["_law_k", "_law_standing", "_law_pieces", "_law_line"]) (CompScope.of (N := ["_law_k", "_law_standing", "_law_pieces", "_law_line"]) (cap := [none, some 3, some 4, some 7]) (defScope s__law_wanted).names ["_law_sort", "_law_a", "_law_b", "_law_standing", "_law_pieces", "_law_prices", "_law_told", "_law_line", "_law_own", "_law_dues", "_law_k", "_law_group"] rfl rfl (by decide +kernel)) rfl (pi_range1 rfl W.B.range (pa_cons (pe_callB call_len_seq (by rfl) W.B.len b_len (pa_cons (pv 4) pa_nil)) pa_nil)) (fun _ _ _ _ => pg_name (i := 0) (show (["_law_k", "_law_standing", "_law_pieces", "_law_line"] : List Str).Nodup by decide +kernel) rfl (Or.inl rfl)) (fun _ _ _ _ => pif_one (pt_cmpR op_eq (pe_ix (r := rIxL K) ix_list (pe_fldK (K := K) (pv 1) rfl) (pe_ix (r := rIxL K) ix_list (pv 2) (pv 0) (fun _ _ => rfl)) (fun _ _ => rfl)) (pv 3) (nomark _))) (fun _ _ _ _ => (pv 0)) (pg_name (i := 8) sc__law_wanted.nd rfl (Or.inl rfl)))
      (pss_cons (ps_set (i := 9) sc__law_wanted.nd rfl (Or.inl rfl) (pe_call G__law_dealt hr rfl W.d__law_dealt.m W.d__law_dealt.F.kp W.d__law_dealt.b .nil pass0 (pa_cons (pe_op op_fdiv (pe_op op_mul (pe_callB (call_sum rfl) (by rfl) W.B.sum b_sum (pa_cons (pe_comp (N := ["_law_k", "_law_prices"]) (CompScope.of (N := ["_law_k", "_law_prices"]) (cap := [none, some 5]) (defScope s__law_wanted).names ["_law_sort", "_law_a", "_law_b", "_law_standing", "_law_pieces", "_law_prices", "_law_told", "_law_line", "_law_own", "_law_dues", "_law_k", "_law_group"] rfl rfl (by decide +kernel)) rfl (pi_list (pv 8)) (fun _ _ _ _ => pg_name (i := 0) (show (["_law_k", "_law_prices"] : List Str).Nodup by decide +kernel) rfl (Or.inl rfl)) (fun _ _ _ _ => (pe_ix (r := rIxL K) ix_list (pv 1) (pv 0) (fun _ _ => rfl)))) pa_nil)) (pv 1)) pe_int) (pa_cons (pe_comp (N := ["_law_k", "_law_prices"]) (CompScope.of (N := ["_law_k", "_law_prices"]) (cap := [none, some 5]) (defScope s__law_wanted).names ["_law_sort", "_law_a", "_law_b", "_law_standing", "_law_pieces", "_law_prices", "_law_told", "_law_line", "_law_own", "_law_dues", "_law_k", "_law_group"] rfl rfl (by decide +kernel)) rfl (pi_list (pv 8)) (fun _ _ _ _ => pg_name (i := 0) (show (["_law_k", "_law_prices"] : List Str).Nodup by decide +kernel) rfl (Or.inl rfl)) (fun _ _ _ _ => (pe_ix (r := rIxL K) ix_list (pv 1) (pv 0) (fun _ _ => rfl)))) pa_nil))))
      (pss_one (ps_for PassesOwn.never rfl (pi_range1 rfl W.B.range (pa_cons (pe_callB call_len_seq (by rfl) W.B.len b_len (pa_cons (pv 8) pa_nil)) pa_nil)) (pg_name (i := 10) sc__law_wanted.nd rfl (Or.inl rfl))
      (pss_one (ps_asg (pe_ix (r := rIxL K) ix_list (pv 9) (pv 10) (fun _ _ => rfl)) (pg_sub (pv 6) (pe_ix (r := rIxL K) ix_list (pv 8) (pv 10) (fun _ _ => rfl)) set_list))))))))) (pss_nil))
      (pss_cons (ps_if (pt_cmpR op_eq (pv 0) pe_int (nomark _)) (pss_one (ps_for PassesOwn.never rfl (pi_list (pe_call G__law_groups hr rfl W.d__law_groups.m W.d__law_groups.F.kp W.d__law_groups.b .nil pass0 (pa_cons (pv 5) (pa_cons (pv 1) pa_nil)))) (pg_name (i := 11) sc__law_wanted.nd rfl (Or.inl rfl))
      (pss_one (ps_asg (pe_ix (r := rIxL K) ix_list (pv 5) (pe_ix (r := rIxL K) ix_list (pv 11) (pe_un un_neg pe_int) (fun _ _ => rfl)) (fun _ _ => rfl)) (pg_sub (pv 6) (pe_ix (r := rIxL K) ix_list (pv 11) (pe_un un_neg pe_int) (fun _ _ => rfl)) set_list))))) (pss_nil))
      (pss_cons (ps_if (pt_cmpR op_eq (pv 0) pe_int (nomark _)) (pss_one (ps_for PassesOwn.never rfl (pi_list (pe_call G__law_groups hr rfl W.d__law_groups.m W.d__law_groups.F.kp W.d__law_groups.b .nil pass0 (pa_cons (pv 5) (pa_cons (pv 1) pa_nil)))) (pg_name (i := 11) sc__law_wanted.nd rfl (Or.inl rfl))
      (pss_cons (ps_setC (N := ["_law_at", "_law_prices"]) (CompScope.of (N := ["_law_at", "_law_prices"]) (cap := [none, some 5]) (defScope s__law_wanted).names ["_law_sort", "_law_a", "_law_b", "_law_standing", "_law_pieces", "_law_prices", "_law_told", "_law_line", "_law_own", "_law_dues", "_law_k", "_law_group"] rfl rfl (by decide +kernel)) rfl (pi_list (pv 11)) (fun _ _ _ _ => pg_name (i := 0) (show (["_law_at", "_law_prices"] : List Str).Nodup by decide +kernel) rfl (Or.inl rfl)) (fun _ _ _ _ => (pe_ix (r := rIxL K) ix_list (pv 1) (pv 0) (fun _ _ => rfl))) (pg_name (i := 8) sc__law_wanted.nd rfl (Or.inl rfl)))
      (pss_cons (ps_set (i := 9) sc__law_wanted.nd rfl (Or.inl rfl) (pe_call G__law_dealt hr rfl W.d__law_dealt.m W.d__law_dealt.F.kp W.d__law_dealt.b .nil pass0 (pa_cons (pe_callB (call_max2 rfl) (by rfl) W.B.max b_max (pa_cons pe_int (pa_cons (pe_op op_sub (pe_callB (call_sum rfl) (by rfl) W.B.sum b_sum (pa_cons (pv 8) pa_nil)) (pv 2)) pa_nil))) (pa_cons (pv 8) pa_nil))))
      (pss_one (ps_for PassesOwn.never rfl (pi_range1 rfl W.B.range (pa_cons (pe_callB call_len_seq (by rfl) W.B.len b_len (pa_cons (pv 11) pa_nil)) pa_nil)) (pg_name (i := 10) sc__law_wanted.nd rfl (Or.inl rfl))
      (pss_one (ps_asg (pe_ix (r := rIxL K) ix_list (pv 9) (pv 10) (fun _ _ => rfl)) (pg_sub (pv 6) (pe_ix (r := rIxL K) ix_list (pv 11) (pv 10) (fun _ _ => rfl)) set_list))))))))) (pss_nil))
      (pss_one (ps_ret (pv 6))))))))), ?_⟩
    obtain ⟨o, pp, mm, ⟨dxs, fss, hxs, l1, l2, l3, l4, l5⟩, ho, hpp, hmm⟩ := id hx
    have lpr : S.pr.length ≤ 720 := by rw [wf.lp]; exact wf.np
    have lab : ab.length ≤ 720 := Nat.le_trans (nodup_len hnd hlt) lpr
    have lm : S.mkd.length ≤ 12 := by rw [wf.lm]; exact wf.nl
    refine ⟨_, rfl, pc, rfl, ⟨_, SqL.of hpc⟩, comp_list (xs := ab.map iV) (fun j σ ys H'' => H'' = H ∧ ys = (qs S.pr (ab.take j)).map V.int ∧ ∃ v, σ = [v, some (.ref x)]) ⟨rfl, rfl, none, rfl⟩ ?_ ?_ ?_ ?_⟩
    · rw [List.length_map]
      exact Nat.le_of_lt (small1000 (by omega))
    · rintro j σ ys H'' hj ⟨rfl, rfl, _⟩
      exact ⟨SqL.of hpc, by rw [List.length_map, qs_len, List.length_take]; rw [List.length_map] at hj; omega⟩
    · rintro j y σ ys H'' hy ⟨rfl, rfl, v, rfl⟩
      obtain ⟨n, en, rfl⟩ : ∃ n, ab[j]? = some n ∧ y = iV n := map_at hy
      obtain ⟨z, ez⟩ := at_of (hlt n (List.mem_of_getElem? en))
      refine ⟨_, rfl, x, d.c_Standing, dxs, fss, _, rfl, hxs, W.c_Standing.cl, W.n_Standing_prices, l2, _, rfl, pp, _, _, _, rfl, rfl, SqL.of hpp, atI_nat (by rw [List.getElem?_map, ez]; rfl), rfl, ?_, _, rfl⟩
      rw [List.take_add_one, en]
      simp [qs, ez]
    rintro σ ys H'' ⟨rfl, rfl, v, rfl⟩ D hD
    rw [List.length_map, List.take_length]
    have n1 := same_new (o := .lst ((qs S.pr ab).map V.int)) hD
    have e2 : (upd H'' D (.lst ((qs S.pr ab).map V.int))) D = some (.lst ((qs S.pr ab).map V.int)) := upd_same
    have e1 := n1 _ _ hpc
    have hsum := qs_sum wf lab hlt
    have hnn : Nn (qs S.pr ab) := qs_nn wf.nn ab
    have hs0 := sum_nn hnn
    have lq : (qs S.pr ab).length = ab.length := qs_len _ _
    have hqz : ∀ z ∈ qs S.pr ab, z ≤ 1000000000000 := fun z hz => by
      obtain ⟨i, hi, rfl⟩ := List.mem_map.mp hz
      obtain ⟨w, ew⟩ := at_of (hlt i hi)
      rw [List.getD_eq_getElem?_getD, ew]
      exact (wf.pr w (List.mem_of_getElem? ew)).2
    generalize eq : qs S.pr ab = q at *
    generalize upd H'' D (.lst (q.map V.int)) = H1 at *
    refine ⟨(by show 1 ≤ sizeLine; decide), fun t ht => ?_⟩
    have n2 := same_new (o := .lst [V.int 0]) ht
    have et : (upd H1 t (.lst [V.int 0])) t = some (.lst [V.int 0]) := upd_same
    have t2 := n1.trans n2
    have e1 := n2 _ _ e1
    have e2 := n2 _ _ e2
    clear n1 n2
    generalize upd H1 t (.lst [V.int 0]) = H2 at *
    refine ⟨_, rfl, pc, _, rfl, .inl (SqL.of e1), t, _, _, rfl, rfl, et, by omega, (by rw [List.length_map]; omega), Nat.le_of_lt (small1000 (by simp; omega)), fun tp ftp => ?_⟩
    have eR : (List.replicate (((ab.map iV).length : Nat) : Int).toNat [V.int 0]).flatten = (List.replicate q.length (0 : Int)).map V.int := by
      rw [rep1, List.length_map, List.map_replicate, lq]
      simp
    rw [eR]
    have n3 := same_new (o := .lst ((List.replicate q.length (0 : Int)).map V.int)) ftp
    have etp : (upd H2 tp (.lst ((List.replicate q.length (0 : Int)).map V.int))) tp = some (.lst ((List.replicate q.length (0 : Int)).map V.int)) := upd_same
    have t3 := t2.trans n3
    have npc : pc ≠ tp := ne_of_none e1 ftp
    have nD : D ≠ tp := ne_of_none e2 ftp
    have e1 := n3 _ _ e1
    have e2 := n3 _ _ e2
    have ftp0 := t2.free ftp
    clear n3
    generalize upd H2 tp (.lst ((List.replicate q.length (0 : Int)).map V.int)) = H3 at *
    unfold SbOk at hs
    refine ⟨_, rfl, rfl, _, rfl, ite2 (fun h0 => ?_) (fun h0 => ?_)⟩
    · have h0 : n = 0 := by simpa using h0
      have ha : 0 ≤ a ∧ a ≤ 1000000000000 := by omega
      refine ⟨_, rfl, _, rfl, D, _, rfl, SqL.of e2, _, _, rfl, _, rfl, ?_⟩
      rw [show (if q.sum < a then q.sum else a) = min a q.sum by split <;> omega]
      refine ⟨_, D, q, rfl, SqL.of e2, hnn, by omega, by omega, by omega, by omega, fun dd qdd => ?_⟩
      refine k _ dd (t3.trans (same_new qdd)) (t3.free qdd) ?_
      rw [upd_same]
      unfold soN
      rw [if_pos h0]
      rfl
    have n0 : ¬ n = 0 := by simpa using h0
    refine ⟨_, rfl, rfl, _, rfl, ite2 (fun h1 => ?_) (fun h1 => ?_)⟩
    · have h1 : n = 1 := by simpa using h1
      have ha : 1 ≤ a ∧ a ≤ 1000 := by omega
      have hb : b = 0 ∨ b = 1 := by omega
      have hsh := share_le hs0 ha.1 ha.2
      refine ⟨_, rfl, rfl, _, rfl, ite2 (fun hb0 => ?_) (fun hb0 => ?_)⟩
      · have hb0 : b = 0 := by simpa using hb0
        refine ⟨_, rfl, D, _, rfl, SqL.of e2, _, rfl, _, _, rfl, rfl, .inr ⟨by omega, by omega⟩, _, _, rfl, rfl, ⟨by decide, by decide⟩, _, rfl, ?_⟩
        refine ⟨_, D, q, rfl, SqL.of e2, hnn, by omega, hsh.1, by omega, by omega, fun dd qdd => ?_⟩
        refine k _ dd (t3.trans (same_new qdd)) (t3.free qdd) ?_
        rw [upd_same]
        unfold soN
        rw [if_neg n0, if_pos h1, show decide (b = 1) = false by simp; omega]
        rfl
      · have hb1 : b = 1 := by
          have : ¬ b = 0 := by simpa using hb0
          omega
        subst h1
        refine ⟨_, rfl, rfl, _, rfl, iteT ?_⟩
        have hon := byLine_nodup (n := S.mkd.length) (lines := ab.map fun i => S.ow.getD i 0)
        generalize eos : byLine S.mkd.length (ab.map fun i => S.ow.getD i 0) = os at *
        generalize edl : os.map (fun g => dl ((qs q g).sum * a / 1000) (qs q g)) = dls at *
        have ldl : ∀ i, (os.take i).flatten.length = (dls.take i).flatten.length := fun i => by
          rw [← edl, ← List.map_take]
          generalize os.take i = gg
          induction gg with
          | nil => rfl
          | cons g gg ih => rw [List.map_cons, List.flatten_cons, List.flatten_cons, List.length_append, List.length_append, dl_len, qs_len, ih]
        have etp0 : H3 tp = some (.lst ((spr q.length (os.take 0).flatten (dls.take 0).flatten).map V.int)) := by
          rw [List.take_zero, List.take_zero, List.flatten_nil, List.flatten_nil, spr_nil]
          exact etp
        refine ⟨_, rfl, x, d.c_Standing, dxs, fss, _, rfl, t3 _ _ hxs, W.c_Standing.cl, W.n_Standing_marked, l4, mm, _, rfl, .inl (SqL.of (t3 _ _ hmm)), _, rfl, by omega, (by rw [List.length_map]; omega), for_range (fun l σ H' => But tp H3 H' ∧ H' tp = some (.lst ((spr q.length (os.take l).flatten (dls.take l).flatten).map V.int)) ∧ ∃ v7 v8 v9 v10 : Option V, σ = [some (.int 1), some (.int a), some (.int b), some (.ref x), some (.ref pc), some (.ref D), some (.ref tp), v7, v8, v9, v10, none])
          ⟨But.refl, etp0, none, none, none, none, rfl⟩ ?_ ?_⟩
        · rintro l σ H4 hl ⟨b4, etp4, v7, v8, v9, v10, rfl⟩
          rw [Int.toNat_natCast, List.length_map] at hl
          rw [Int.zero_add]
          have s4 : Same H'' H4 := same_but ftp0 t3 b4
          have e14 := b4 _ _ npc e1
          have e24 := b4 _ _ nD e2
          have eg := byLine_at (lines := ab.map fun i => S.ow.getD i 0) hl
          rw [eos] at eg
          refine ⟨_, rfl, pc, _, rfl, .inl (SqL.of e14), _, rfl, by omega, (by rw [List.length_map]; omega), compT_range (fun j σ ys H'' => H'' = H4 ∧ ys = ((List.range j).filter fun k => (ab.map fun i => S.ow.getD i 0).getD k 0 == l).map iV ∧ ∃ v, σ = [v, some (.ref x), some (.ref pc), some (.int (l : Nat))]) ⟨rfl, rfl, none, rfl⟩ (by rw [List.length_map]; exact Nat.le_of_lt (small1000 (by omega))) ?_ ?_ ?_⟩
          · rintro j σ ys H5 hj ⟨rfl, rfl, _⟩
            rw [List.length_map]
            exact Nat.le_trans (List.length_filter_le _ _) (by simp)
          · rintro j σ ys H5 hj ⟨rfl, rfl, v, rfl⟩
            rw [Int.toNat_natCast, List.length_map] at hj
            rw [Int.zero_add]
            obtain ⟨n, en⟩ := at_of hj
            obtain ⟨w, ew⟩ := at_of (xs := S.ow) (i := n) (by rw [← wf.lp]; exact hlt n (List.mem_of_getElem? en))
            have eo : (ab.map fun i => S.ow.getD i 0).getD j 0 = w := by rw [List.getD_eq_getElem?_getD, List.getElem?_map, en]; show S.ow.getD n 0 = w; rw [List.getD_eq_getElem?_getD, ew]; rfl
            refine ⟨_, rfl, x, d.c_Standing, dxs, fss, _, rfl, s4 _ _ hxs, W.c_Standing.cl, W.n_Standing_owners, l1, _, rfl, _, rfl, pc, _, _, _, rfl, rfl, SqL.of e14, atI_nat (v := iV n) (by rw [List.getElem?_map, en]; rfl), o, _, _, _, rfl, rfl, SqL.of (s4 _ _ ho), atI_nat (v := iV w) (by rw [List.getElem?_map, ew]; rfl), _, rfl, rfl, _, rfl, ?_⟩
            show if decide (V.int (w : Int) = V.int (l : Int)) = true then _ else _
            rw [eq_int]
            by_cases hwl : w = l
            · rw [show decide (w = l) = true by simp [hwl]]
              refine iteT ⟨_, rfl, rfl, ?_, _, rfl⟩
              rw [List.range_succ, List.filter_append, List.map_append, List.filter_cons, eo, if_pos (by simp [hwl])]
              rfl
            · rw [show decide (w = l) = false by simp [hwl]]
              refine iteF ⟨rfl, ?_, _, rfl⟩
              rw [List.range_succ, List.filter_append, List.filter_cons, eo, if_neg (by simp [hwl])]
              simp
          rintro σ ys H5 ⟨rfl, rfl, v, rfl⟩ ow how
          rw [Int.toNat_natCast, List.length_map]
          rw [List.length_map] at eg
          have hgm : ∀ i ∈ (List.range ab.length).filter (fun k => (ab.map fun i => S.ow.getD i 0).getD k 0 == l), i < q.length := fun i hi => by rw [lq]; exact List.mem_range.mp (List.mem_filter.mp hi).1
          have hgl : ((List.range ab.length).filter fun k => (ab.map fun i => S.ow.getD i 0).getD k 0 == l).length ≤ 720 := Nat.le_trans (List.length_filter_le _ _) (by rw [List.length_range]; exact lab)
          generalize ((List.range ab.length).filter fun k => (ab.map fun i => S.ow.getD i 0).getD k 0 == l) = g at *
          have n5 := same_new (o := .lst (g.map iV)) how
          have eow : (upd H5 ow (.lst (g.map iV))) ow = some (.lst (g.map iV)) := upd_same
          have s5 := s4.trans n5
          have b5 := b4.same n5
          have etp5 := n5 _ _ etp4
          have e25 := n5 _ _ e24
          have now : ow ≠ tp := (ne_of_none etp4 how).symm
          clear n5
          generalize upd H5 ow (.lst (g.map iV)) = H6 at *
          have hsg := sum_le_len (b := 1000000000000) (q := qs q g) fun z hz => by
            obtain ⟨i, hi, rfl⟩ := List.mem_map.mp hz
            obtain ⟨w, ew⟩ := at_of (hgm i hi)
            rw [List.getD_eq_getElem?_getD, ew]
            exact hqz w (List.mem_of_getElem? ew)
          have hng : Nn (qs q g) := qs_nn hnn g
          have hsg0 := sum_nn hng
          rw [qs_len] at hsg
          have hshg := share_le hsg0 ha.1 ha.2
          refine ⟨_, rfl, ow, rfl, ⟨_, SqL.of eow⟩, comp_list (xs := g.map iV) (fun j σ ys H' => H' = H6 ∧ ys = (qs q (g.take j)).map V.int ∧ ∃ v, σ = [v, some (.ref D)]) ⟨rfl, rfl, none, rfl⟩ ?_ ?_ ?_ ?_⟩
          · rw [List.length_map]
            exact Nat.le_of_lt (small1000 (by omega))
          · rintro j σ ys H' hj ⟨rfl, rfl, _⟩
            exact ⟨SqL.of eow, by rw [List.length_map, qs_len, List.length_take]; rw [List.length_map] at hj; omega⟩
          · rintro j y σ ys H' hy ⟨rfl, rfl, v, rfl⟩
            obtain ⟨n, en, rfl⟩ : ∃ n, g[j]? = some n ∧ y = iV n := map_at hy
            obtain ⟨z, ez⟩ := at_of (hgm n (List.mem_of_getElem? en))
            refine ⟨_, rfl, _, rfl, D, _, _, _, rfl, rfl, SqL.of e25, atI_nat (by rw [List.getElem?_map, ez]; rfl), rfl, ?_, _, rfl⟩
            rw [List.take_add_one, en]
            simp [qs, ez]
          rintro σ ys H' ⟨rfl, rfl, v, rfl⟩ D1 hD1
          rw [List.length_map, List.take_length]
          have n6 := same_new (o := .lst ((qs q g).map V.int)) hD1
          have eD1 : (upd H' D1 (.lst ((qs q g).map V.int))) D1 = some (.lst ((qs q g).map V.int)) := upd_same
          have s6 := s5.trans n6
          have b6 := b5.same n6
          have etp6 := n6 _ _ etp5
          have e26 := n6 _ _ e25
          have eow6 := n6 _ _ eow
          clear n6
          generalize upd H' D1 (.lst ((qs q g).map V.int)) = H7 at *
          refine ⟨D1, _, rfl, SqL.of eD1, _, rfl, _, _, rfl, rfl, .inr ⟨by omega, by omega⟩, _, _, rfl, rfl, ⟨by decide, by decide⟩, ?_⟩
          refine ⟨_, rfl, ow, rfl, ⟨_, SqL.of eow6⟩, comp_list (xs := g.map iV) (fun j σ ys H' => H' = H7 ∧ ys = (qs q (g.take j)).map V.int ∧ ∃ v, σ = [v, some (.ref D)]) ⟨rfl, rfl, none, rfl⟩ ?_ ?_ ?_ ?_⟩
          · rw [List.length_map]
            exact Nat.le_of_lt (small1000 (by omega))
          · rintro j σ ys H' hj ⟨rfl, rfl, _⟩
            exact ⟨SqL.of eow6, by rw [List.length_map, qs_len, List.length_take]; rw [List.length_map] at hj; omega⟩
          · rintro j y σ ys H' hy ⟨rfl, rfl, v, rfl⟩
            obtain ⟨n, en, rfl⟩ : ∃ n, g[j]? = some n ∧ y = iV n := map_at hy
            obtain ⟨z, ez⟩ := at_of (hgm n (List.mem_of_getElem? en))
            refine ⟨_, rfl, _, rfl, D, _, _, _, rfl, rfl, SqL.of e26, atI_nat (by rw [List.getElem?_map, ez]; rfl), rfl, ?_, _, rfl⟩
            rw [List.take_add_one, en]
            simp [qs, ez]
          rintro σ ys H8 ⟨rfl, rfl, v, rfl⟩ D2 hD2
          rw [List.length_map, List.take_length]
          have n8 := same_new (o := .lst ((qs q g).map V.int)) hD2
          have eD2 : (upd H8 D2 (.lst ((qs q g).map V.int))) D2 = some (.lst ((qs q g).map V.int)) := upd_same
          have s8 := s6.trans n8
          have b8 := b6.same n8
          have etp8 := n8 _ _ etp6
          have eow8 := n8 _ _ eow6
          clear n8
          generalize upd H8 D2 (.lst ((qs q g).map V.int)) = H9 at *
          refine ⟨_, D2, qs q g, rfl, SqL.of eD2, hng, by omega, hshg.1, by omega, by rw [qs_len]; omega, fun dd qdd => ?_⟩
          have eds : dls[l]? = some (dl ((qs q g).sum * a / 1000) (qs q g)) := by rw [← edl, List.getElem?_map, eg]; rfl
          have lds : (dl ((qs q g).sum * a / 1000) (qs q g)).length = g.length := by rw [dl_len, qs_len]
          generalize dl ((qs q g).sum * a / 1000) (qs q g) = ds at *
          have n9 := same_new (o := .lst (ds.map V.int)) qdd
          have s9 := s8.trans n9
          have b9 := b8.same n9
          have edd : (upd H9 dd (.lst (ds.map V.int))) dd = some (.lst (ds.map V.int)) := upd_same
          have etp9 := n9 _ _ etp8
          have eow9 := n9 _ _ eow8
          have ndd : dd ≠ tp := (ne_of_none etp8 qdd).symm
          clear n9
          generalize upd H9 dd (.lst (ds.map V.int)) = H10 at *
          refine ⟨_, rfl, ow, _, rfl, .inl (SqL.of eow9), _, rfl, by omega, (by rw [List.length_map]; omega), for_range (fun j σ H' => But tp H10 H' ∧ H' tp = some (.lst ((spr q.length ((os.take l).flatten ++ g.take j) ((dls.take l).flatten ++ ds.take j)).map V.int)) ∧ ∃ v10 : Option V, σ = [some (.int 1), some (.int a), some (.int b), some (.ref x), some (.ref pc), some (.ref D), some (.ref tp), some (.int (l : Nat)), some (.ref ow), some (.ref dd), v10, none])
            ⟨But.refl, by rw [List.take_zero, List.take_zero, List.append_nil, List.append_nil]; exact etp9, _, rfl⟩ ?_ ?_⟩
          · rintro j σ H' hj ⟨bt, etp', v10', rfl⟩
            rw [Int.toNat_natCast, List.length_map] at hj
            rw [Int.zero_add]
            obtain ⟨z, ez⟩ := at_of (xs := ds) (i := j) (by omega)
            obtain ⟨n, en⟩ := at_of hj
            have hn' := hgm n (List.mem_of_getElem? en)
            refine ⟨_, rfl, _, rfl, dd, _, _, _, rfl, rfl, SqL.of (bt _ _ ndd edd), atI_nat (by rw [List.getElem?_map, ez]; rfl), ?_⟩
            refine ⟨_, rfl, _, rfl, _, rfl, ow, _, _, _, rfl, rfl, SqL.of (bt _ _ now eow9), atI_nat (by rw [List.getElem?_map, en]; rfl), ?_⟩
            refine ⟨tp, _, _, n, rfl, rfl, etp', ixN_nat (by rw [List.length_map, spr_len]; exact hn'), bt.trans but_self, ?_, _, rfl⟩
            rw [upd_same, ← List.map_set, spr_snoc (by rw [List.length_append, List.length_append, ldl, List.length_take, List.length_take]; omega) (take_flat_nodup hon eg en) hn', List.take_add_one, en, List.take_add_one, ez]
            simp
          · rintro σ H' ⟨bt, etp', v10', rfl⟩
            rw [Int.toNat_natCast, List.length_map, show g.take g.length = g from List.take_length, show ds.take g.length = ds from List.take_of_length_le (by omega), ← flat_take_succ eg, ← flat_take_succ eds] at etp'
            exact ⟨b9.trans bt, etp', _, _, _, _, rfl⟩
        · rintro σ H4 ⟨b4, etp4, v7, v8, v9, v10, rfl⟩
          have s4 : Same H'' H4 := same_but ftp0 t3 b4
          refine ⟨_, rfl, rfl, _, rfl, ite2 (fun h => absurd h (by simp)) fun _ => ?_⟩
          refine ⟨_, rfl, rfl, _, rfl, ite2 (fun h => absurd h (by simp)) fun _ => ?_⟩
          refine ⟨_, rfl, k H4 tp s4 ftp0 ?_⟩
          have los : os.length = S.mkd.length := by rw [← eos]; simp [byLine]
          have ldd : dls.length = os.length := by rw [← edl]; simp
          rw [etp4, Int.toNat_natCast, List.length_map, show os.take S.mkd.length = os from List.take_of_length_le (by omega), show dls.take S.mkd.length = dls from List.take_of_length_le (by omega)]
          unfold soN
          rw [if_neg n0, if_pos rfl, hb1]
          simp only [decide_true, want, gdl, eos, edl]
    have n1 : ¬ n = 1 := by simpa using h1
    refine iteF ⟨_, rfl, rfl, _, rfl, ite2 (fun h => absurd h (by simpa using n1)) fun _ => ?_⟩
    refine ⟨_, rfl, rfl, _, rfl, ite2 (fun h2 => ?_) (fun h2 => ?_)⟩
    · have h2 : n = 2 := by simpa using h2
      subst h2
      obtain ⟨m, rfl⟩ : ∃ m : Nat, a = (m : Int) := ⟨a.toNat, by omega⟩
      have hm2 : 2 ≤ m := by omega
      have hm20 : m ≤ 20 := by omega
      refine ⟨_, rfl, _, rfl, D, q, m, rfl, SqL.of e2, by omega, hm2, hm20, fun H4 gp gl s4 f4 hgp hP hF => ?_⟩
      have ngp : gp ≠ tp := (ne_of_none etp f4).symm
      have ngl : ∀ r ∈ gl, r ≠ tp := fun r hr => (ne_of_none etp (hF r hr)).symm
      have etp0 : H4 tp = some (.lst ((spr q.length ((lasts (grp m (ordQ q))).take 0) ((qs q (lasts (grp m (ordQ q)))).take 0)).map V.int)) := by
        rw [List.take_zero, List.take_zero, spr_nil]
        exact s4 _ _ etp
      have e24 := s4 _ _ e2
      generalize egs : grp m (ordQ q) = gs at *
      have hg : ∀ {i : Nat} {g : List Nat}, gs[i]? = some g → 0 < g.length ∧ g[g.length - 1]? = some (g.getLastD 0) ∧ g.getLastD 0 < q.length := fun {i g} eg => by
        rw [← egs] at eg
        obtain ⟨h1, h2, h3⟩ := grp_at eg
        have h4 := last_at (by omega) eg
        refine ⟨by omega, ?_, ordQ_lt (List.mem_of_getElem? h4)⟩
        rw [h2, h3 _ (by omega)]
        exact h4
      have hnd' : (lasts gs).Nodup := by rw [← egs]; exact lasts_nodup (by omega) (ordQ_nodup q)
      refine ⟨gp, rfl, ⟨_, SqL.of hgp⟩, for_list (xs := gl.map V.ref) (fun i σ H' => But tp H4 H' ∧ H' tp = some (.lst ((spr q.length ((lasts gs).take i) ((qs q (lasts gs)).take i)).map V.int)) ∧ ∃ v11 : Option V, σ = [some (.int 2), some (.int m), some (.int b), some (.ref x), some (.ref pc), some (.ref D), some (.ref tp), none, none, none, none, v11])
        ⟨But.refl, etp0, none, rfl⟩ (fun i σ H' _ h => SqL.of (h.1 _ _ ngp hgp)) ?_ ?_⟩
      · rintro i y σ H' hy ⟨bt, etp', v11, rfl⟩
        obtain ⟨r, er, rfl⟩ : ∃ r, gl[i]? = some r ∧ y = V.ref r := map_at hy
        obtain ⟨g, eg, hr⟩ := hP.at er
        have hr' := bt _ _ (ngl r (List.mem_of_getElem? er)) hr
        obtain ⟨g0, gl1, gl2⟩ := hg eg
        obtain ⟨z, ez⟩ := at_of gl2
        have al : atI (g.map iV) (-1) = some (iV (g.getLastD 0)) := atI_lastD (by rw [List.length_map, List.getElem?_map, gl1]; rfl) (by rw [List.length_map]; exact g0)
        refine ⟨_, rfl, _, rfl, 1, rfl, r, _, _, _, rfl, rfl, SqL.of hr', al, D, _, _, _, rfl, rfl, SqL.of (bt _ _ nD e24), atI_nat (by rw [List.getElem?_map, ez]; rfl), ?_⟩
        refine ⟨_, rfl, _, rfl, 1, rfl, r, _, _, _, rfl, rfl, SqL.of hr', al, tp, _, _, g.getLastD 0, rfl, rfl, etp', ixN_nat (by rw [List.length_map, spr_len]; exact gl2), ?_⟩
        refine ⟨bt.trans but_self, ?_, _, rfl⟩
        rw [upd_same, ← List.map_set, spr_set hnd' (lasts_at eg) (qs_at (lasts_at eg) ez) gl2]
      · rintro σ H' ⟨bt, etp', v11, rfl⟩
        have lgl : (gl.map V.ref).length = (lasts gs).length := by rw [List.length_map, lasts_len, hP.len]
        rw [lgl, spr_full (Nat.le_refl _) (by rw [qs_len]; omega)] at etp'
        refine ⟨_, rfl, rfl, _, rfl, ite2 (fun h => absurd h (by simp)) fun _ => ?_⟩
        refine ⟨_, rfl, k H' tp (same_but ftp0 (t3.trans s4) bt) ftp0 ?_⟩
        rw [etp']
        unfold soN
        rw [if_neg n0, if_neg n1, if_pos rfl]
        simp only [want, Int.toNat_natCast, egs]
    have n2 : ¬ n = 2 := by simpa using h2
    refine ⟨_, rfl, rfl, _, rfl, ite2 (fun h3 => ?_) (fun h3 => ?_)⟩
    · have h3 : n = 3 := by simpa using h3
      subst h3
      obtain ⟨m, rfl⟩ : ∃ m : Nat, a = (m : Int) := ⟨a.toNat, by omega⟩
      have hm2 : 2 ≤ m := by omega
      have hm20 : m ≤ 20 := by omega
      have hb : 0 ≤ b ∧ b ≤ 1000000000000 := by omega
      refine ⟨_, rfl, _, rfl, D, q, m, rfl, SqL.of e2, by omega, hm2, hm20, fun H4 gp gl s4 f4 hgp hP hF => ?_⟩
      have ngp : gp ≠ tp := (ne_of_none etp f4).symm
      have ngl : ∀ r ∈ gl, r ≠ tp := fun r hr => (ne_of_none etp (hF r hr)).symm
      have etp4 := s4 _ _ etp
      have e24 := s4 _ _ e2
      have t4 := t3.trans s4
      have hgin : ∀ {i : Nat} {g : List Nat}, (grp m (ordQ q))[i]? = some g → g.length = m ∧ ∀ a ∈ g, a < q.length := fun {i g} eg => by
        obtain ⟨h1, h2, h3⟩ := grp_at eg
        refine ⟨h2, fun a ha => ?_⟩
        obtain ⟨j, ej⟩ := List.mem_iff_getElem?.mp ha
        have hj : j < m := by rw [← h2]; exact at_lt ej
        rw [h3 j hj] at ej
        exact ordQ_lt (List.mem_of_getElem? ej)
      have hgn : (grp m (ordQ q)).flatten.Nodup := grp_nodup (ordQ_nodup q)
      generalize egs : grp m (ordQ q) = gs at *
      generalize edl : gs.map (fun g => dl (max 0 ((qs q g).sum - b)) (qs q g)) = dls
      have ldl : ∀ i, (gs.take i).flatten.length = (dls.take i).flatten.length := fun i => by
        rw [← edl, ← List.map_take]
        generalize gs.take i = gg
        induction gg with
        | nil => rfl
        | cons g gg ih => rw [List.map_cons, List.flatten_cons, List.flatten_cons, List.length_append, List.length_append, dl_len, qs_len, ih]
      have etp0 : H4 tp = some (.lst ((spr q.length (gs.take 0).flatten (dls.take 0).flatten).map V.int)) := by
        rw [List.take_zero, List.take_zero, List.flatten_nil, List.flatten_nil, spr_nil]
        exact etp4
      refine ⟨gp, rfl, ⟨_, SqL.of hgp⟩, for_list (xs := gl.map V.ref) (fun i σ H' => But tp H4 H' ∧ H' tp = some (.lst ((spr q.length (gs.take i).flatten (dls.take i).flatten).map V.int)) ∧ ∃ v8 v9 v10 v11 : Option V, σ = [some (.int 3), some (.int m), some (.int b), some (.ref x), some (.ref pc), some (.ref D), some (.ref tp), none, v8, v9, v10, v11])
        ⟨But.refl, etp0, none, none, none, none, rfl⟩ (fun i σ H' _ h => SqL.of (h.1 _ _ ngp hgp)) ?_ ?_⟩
      · rintro i y σ H5 hy ⟨bt, etp', v8, v9, v10, v11, rfl⟩
        obtain ⟨r, er, rfl⟩ : ∃ r, gl[i]? = some r ∧ y = V.ref r := map_at hy
        obtain ⟨g, eg, hr⟩ := hP.at er
        have nr := ngl r (List.mem_of_getElem? er)
        have hr' := bt _ _ nr hr
        have e25 := bt _ _ nD e24
        have hg := hgin eg
        refine ⟨_, rfl, r, rfl, ⟨_, SqL.of hr'⟩, comp_list (xs := g.map iV) (fun j σ ys H'' => H'' = H5 ∧ ys = (qs q (g.take j)).map V.int ∧ ∃ v, σ = [v, some (.ref D)]) ⟨rfl, rfl, none, rfl⟩ ?_ ?_ ?_ ?_⟩
        · rw [List.length_map]
          exact Nat.le_of_lt (small1000 (by omega))
        · rintro j σ ys H'' hj ⟨rfl, rfl, _⟩
          exact ⟨SqL.of hr', by rw [List.length_map, qs_len, List.length_take]; rw [List.length_map] at hj; omega⟩
        · rintro j y σ ys H'' hy ⟨rfl, rfl, v, rfl⟩
          obtain ⟨n, en, rfl⟩ : ∃ n, g[j]? = some n ∧ y = iV n := map_at hy
          obtain ⟨z, ez⟩ := at_of (hg.2 n (List.mem_of_getElem? en))
          refine ⟨_, rfl, _, rfl, D, _, _, _, rfl, rfl, SqL.of e25, atI_nat (by rw [List.getElem?_map, ez]; rfl), rfl, ?_, _, rfl⟩
          rw [List.take_add_one, en]
          simp [qs, ez]
        rintro σ ys H6 ⟨rfl, rfl, v, rfl⟩ ow how
        rw [List.length_map, List.take_length]
        have n6 := same_new (o := .lst ((qs q g).map V.int)) how
        have eow : (upd H6 ow (.lst ((qs q g).map V.int))) ow = some (.lst ((qs q g).map V.int)) := upd_same
        have etp2 := n6 _ _ etp'
        have hr6 := n6 _ _ hr'
        have bt2 := bt.same n6
        clear n6
        generalize upd H6 ow (.lst ((qs q g).map V.int)) = H7 at *
        have hsg := sum_le_len (b := 1000000000000) (q := qs q g) fun z hz => by
          obtain ⟨i, hi, rfl⟩ := List.mem_map.mp hz
          obtain ⟨w, ew⟩ := at_of (hg.2 i hi)
          rw [List.getD_eq_getElem?_getD, ew]
          exact hqz w (List.mem_of_getElem? ew)
        have hng : Nn (qs q g) := qs_nn hnn g
        have hsg0 := sum_nn hng
        rw [qs_len] at hsg
        refine ⟨_, rfl, ow, _, rfl, SqL.of eow, _, rfl, _, _, rfl, rfl, _, _, rfl, _, rfl, ?_⟩
        rw [show (if (qs q g).sum - b > 0 then (qs q g).sum - b else 0) = max 0 ((qs q g).sum - b) by split <;> omega]
        refine ⟨_, ow, qs q g, rfl, SqL.of eow, hng, by omega, by omega, by omega, by rw [qs_len]; omega, fun dd qdd => ?_⟩
        have eds : dls[i]? = some (dl (max 0 ((qs q g).sum - b)) (qs q g)) := by rw [← edl, List.getElem?_map, eg]; rfl
        have lds : (dl (max 0 ((qs q g).sum - b)) (qs q g)).length = m := by rw [dl_len, qs_len]; exact hg.1
        generalize dl (max 0 ((qs q g).sum - b)) (qs q g) = ds at *
        have n8 := same_new (o := .lst (ds.map V.int)) qdd
        have edd : (upd H7 dd (.lst (ds.map V.int))) dd = some (.lst (ds.map V.int)) := upd_same
        have etp3 := n8 _ _ etp2
        have hr8 := n8 _ _ hr6
        have bt3 := bt2.same n8
        have ndd : dd ≠ tp := (ne_of_none etp2 qdd).symm
        clear n8
        generalize upd H7 dd (.lst (ds.map V.int)) = H8 at *
        refine ⟨_, rfl, r, _, rfl, .inl (SqL.of hr8), _, rfl, by omega, (by rw [List.length_map]; omega), for_range (fun j σ H' => But tp H8 H' ∧ H' tp = some (.lst ((spr q.length ((gs.take i).flatten ++ g.take j) ((dls.take i).flatten ++ ds.take j)).map V.int)) ∧ ∃ v10 : Option V, σ = [some (.int 3), some (.int m), some (.int b), some (.ref x), some (.ref pc), some (.ref D), some (.ref tp), none, some (.ref ow), some (.ref dd), v10, some (.ref r)])
          ⟨But.refl, by rw [List.take_zero, List.take_zero, List.append_nil, List.append_nil]; exact etp3, _, rfl⟩ ?_ ?_⟩
        · rintro j σ H' hj ⟨bt4, etp4', v10', rfl⟩
          rw [Int.toNat_natCast, List.length_map] at hj
          rw [Int.zero_add]
          obtain ⟨z, ez⟩ := at_of (xs := ds) (i := j) (by omega)
          obtain ⟨n, en⟩ := at_of (xs := g) (i := j) (by omega)
          have hn' := hg.2 n (List.mem_of_getElem? en)
          refine ⟨_, rfl, _, rfl, dd, _, _, _, rfl, rfl, SqL.of (bt4 _ _ ndd edd), atI_nat (by rw [List.getElem?_map, ez]; rfl), ?_⟩
          refine ⟨_, rfl, _, rfl, _, rfl, r, _, _, _, rfl, rfl, SqL.of (bt4 _ _ nr hr8), atI_nat (by rw [List.getElem?_map, en]; rfl), ?_⟩
          refine ⟨tp, _, _, n, rfl, rfl, etp4', ixN_nat (by rw [List.length_map, spr_len]; exact hn'), bt4.trans but_self, ?_, _, rfl⟩
          rw [upd_same, ← List.map_set, spr_snoc (by rw [List.length_append, List.length_append, ldl, List.length_take, List.length_take]; omega) (take_flat_nodup hgn eg en) hn', List.take_add_one, en, List.take_add_one, ez]
          simp
        · rintro σ H' ⟨bt4, etp4', v10', rfl⟩
          rw [Int.toNat_natCast, List.length_map, show g.take g.length = g from List.take_length, show ds.take g.length = ds from List.take_of_length_le (by omega), ← flat_take_succ eg, ← flat_take_succ eds] at etp4'
          exact ⟨bt3.trans bt4, etp4', _, _, _, _, rfl⟩
      · rintro σ H' ⟨bt, etp', v8, v9, v10, v11, rfl⟩
        have lgl : (gl.map V.ref).length = gs.length := by rw [List.length_map, hP.len]
        rw [lgl, List.take_length, show dls.take gs.length = dls from List.take_of_length_le (by rw [← edl, List.length_map]; omega)] at etp'
        refine ⟨_, rfl, k H' tp (same_but ftp0 t4 bt) ftp0 ?_⟩
        rw [etp']
        unfold soN
        rw [if_neg n0, if_neg n1, if_neg n2, if_pos rfl]
        simp only [want, Int.toNat_natCast, gdl, egs, edl]
    have n3 : ¬ n = 3 := by simpa using h3
    refine ⟨_, rfl, k H3 tp t3 ftp0 ?_⟩
    rw [etp]
    unfold soN
    rw [if_neg n0, if_neg n1, if_neg n2, if_neg n3]
    rfl
theorem fee_soN {n a b cg : Int} (h : SbOk n a b) : fee (soN n a b) cg = if n = 4 then cg else 0 := by
  unfold SbOk at h
  rcases h with ⟨rfl, _⟩ | ⟨rfl, _⟩ | ⟨rfl, _⟩ | ⟨rfl, _⟩ | rfl <;> rfl
theorem pickO {zs : List (Option Int)} {m : Int} (h0 : 0 ≤ m) (h1 : m < (zs.length : Int)) : ∃ z, atI (zs.map oV) m = some (oV z) ∧ z ∈ zs := by
  obtain ⟨j, rfl⟩ := Int.eq_ofNat_of_zero_le h0
  obtain ⟨z, ez⟩ := at_of (xs := zs) (i := j) (by omega)
  exact ⟨z, atI_nat (by rw [List.getElem?_map, ez]; rfl), List.mem_of_getElem? ez⟩
theorem sc_law : FnScope ["_law_script", "_law_parents_here", "_law_basket_here", "_law_standing", "_law_cell", "_law_drawn", "_law_kind", "_law_lone", "_law_pieces", "_law_sort", "_law_a", "_law_b", "_law_wanted_here", "_law_fee", "_law_whole_here", "_law_some", "_law_most", "_law_needs", "_law_marks", "_law_voucher", "_law_due"] ["_law_script"] (defScope s_law) := ⟨rfl, rfl, rfl, by decide +kernel, rfl, by decide +kernel, by decide +kernel⟩
theorem ok_law (W : WB K mg d base) : FnOk P w K mg base CX0 7 d.f_law d.fd_law ["_law_script"] (spLawT K d.tP_falling_groups) := by
  refine FunD.ok W.d_law.F sc_law (fun vs H Q E h => ?_) (fun cdv A outer s H vs Q E hr h => ?_)
  · obtain ⟨a, ns, rfl, _⟩ := h
    rfl
  · obtain ⟨a, ns, rfl, hS, hn, htb0, k⟩ := h
    have G__law_parents := ok__law_parents (P := P) (w := w) (base := base) W
    have G__law_basket := ok__law_basket (P := P) (w := w) (base := base) W
    have G_Standing_init := ok_Standing_init (P := P) (w := w) (base := base) W
    have G__law_mix := ok__law_mix (P := P) (w := w) (base := base) W
    have G__law_about := ok__law_about (P := P) (w := w) (base := base) W
    have G__law_sort_by := ok__law_sort_by (P := P) (w := w) (base := base) W
    have G__law_wanted := ok__law_wanted (P := P) (w := w) (base := base) W
    have G__law_coin := ok__law_coin (P := P) (w := w) (base := base) W
    have G__law_dealt := ok__law_dealt (P := P) (w := w) (base := base) W
    have G_Marks_init := ok_Marks_init (P := P) (w := w) (base := base) W
    have G__law_made := ok__law_made (P := P) (w := w) (base := base) W
    have G__law_spread := ok__law_spread (P := P) (w := w) (base := base) W
    have G__law_right := ok__law_right (P := P) (w := w) (base := base) W
    have G_after := ok_after (P := P) (w := w) (base := base) W
    have hr1 : Room 1 _ := hr.mono (by decide)
    have hr2 : Room 2 _ := hr.mono (by decide)
    have hr3 : Room 3 _ := hr.mono (by decide)
    have hr5 : Room 5 _ := hr.mono (by decide)
    refine ⟨_, pss_cons (ps_set (i := 1) sc_law.nd rfl (Or.inl rfl) (pe_call G__law_parents hr2 rfl W.d__law_parents.m W.d__law_parents.F.kp W.d__law_parents.b .nil pass0 (pa_cons (pv 0) pa_nil)))
      (pss_cons (ps_set (i := 2) sc_law.nd rfl (Or.inl rfl) (pe_call G__law_basket hr3 rfl W.d__law_basket.m W.d__law_basket.F.kp W.d__law_basket.b .nil pass0 (pa_cons (pv 0) (pa_cons (pe_callB call_len_seq (by rfl) W.B.len b_len (pa_cons (pv 1) pa_nil)) pa_nil))))
      (pss_cons (ps_set (i := 3) sc_law.nd rfl (Or.inl rfl) (pe_make (W.m_Standing_init.mk' W.c_Standing) G_Standing_init hr3 rfl W.c_Standing.m W.m_Standing_init.b .nil pass0 (pa_cons (pv 2) pa_nil)))
      (pss_cons (ps_for PassesOwn.never rfl (pi_list (pv 0)) (pg_name (i := 4) sc_law.nd rfl (Or.inl rfl))
      (pss_cons (ps_set (i := 5) sc_law.nd rfl (Or.inl rfl) (pe_call G__law_mix hr1 rfl W.d__law_mix.m W.d__law_mix.F.kp W.d__law_mix.b .nil pass0 (pa_cons (pv 4) (pa_cons pe_int (pa_cons pe_int pa_nil)))))
      (pss_cons (ps_set (i := 6) sc_law.nd rfl (Or.inl rfl) (pe_cut (pe_ifExp (pt_cmpR op_eq (pe_op op_mod (pv 5) pe_int) pe_int (nomark _)) pe_non (pe_op op_mod (pe_op op_fdiv (pv 5) pe_int) (pe_callB call_len_seq (by rfl) W.B.len b_len (pa_cons (pv 1) pa_nil))))))
      (pss_cons (ps_set (i := 7) sc_law.nd rfl (Or.inl rfl) (pe_cmpR op_eq (pe_op op_mod (pe_op op_fdiv (pv 5) pe_int) pe_int) pe_int (nomark _)))
      (pss_cons (ps_set (i := 8) sc_law.nd rfl (Or.inl rfl) (pe_call G__law_about hr2 rfl W.d__law_about.m W.d__law_about.F.kp W.d__law_about.b .nil pass0 (pa_cons (pv 1) (pa_cons (pv 2) (pa_cons (pv 3) (pa_cons (pv 6) (pa_cons (pv 7) pa_nil)))))))
      (pss_cons (ps_asg (pe_call G__law_sort_by hr2 rfl W.d__law_sort_by.m W.d__law_sort_by.F.kp W.d__law_sort_by.b .nil pass0 (pa_cons (pe_call G__law_mix hr1 rfl W.d__law_mix.m W.d__law_mix.F.kp W.d__law_mix.b .nil pass0 (pa_cons (pv 4) (pa_cons pe_int (pa_cons pe_int pa_nil)))) pa_nil)) (pg_tup rfl (pgs_cons (pg_name (i := 9) sc_law.nd rfl (Or.inl rfl)) (pgs_cons (pg_name (i := 10) sc_law.nd rfl (Or.inl rfl)) (pgs_cons (pg_name (i := 11) sc_law.nd rfl (Or.inl rfl)) pgs_nil)))))
      (pss_cons (ps_set (i := 12) sc_law.nd rfl (Or.inl rfl) (pe_call G__law_wanted hr2 rfl W.d__law_wanted.m W.d__law_wanted.F.kp W.d__law_wanted.b .nil pass0 (pa_cons (pv 9) (pa_cons (pv 10) (pa_cons (pv 11) (pa_cons (pv 3) (pa_cons (pv 8) pa_nil)))))))
      (pss_cons (ps_set (i := 13) sc_law.nd rfl (Or.inl rfl) (pe_cut (pe_ifExp (pt_cmpR op_eq (pv 9) pe_int (nomark _)) (pe_fld (pv 3) rfl) pe_int)))
      (pss_cons (ps_set (i := 14) sc_law.nd rfl (Or.inl rfl) (pe_op op_add (pe_callB (call_sum rfl) (by rfl) W.B.sum b_sum (pa_cons (pv 12) pa_nil)) (pv 13)))
      (pss_cons (ps_set (i := 15) sc_law.nd rfl (Or.inl rfl) (pe_lst (pa_cons pe_non (pa_cons (pv 14) (pa_cons (pe_op op_sub (pv 14) pe_int) (pa_cons (pe_op op_fdiv (pv 14) pe_int) (pa_cons pe_int (pa_cons (pe_call G__law_coin hr1 rfl W.d__law_coin.m W.d__law_coin.F.kp W.d__law_coin.b .nil pass0 (pa_cons (pe_op op_fdiv (pv 5) pe_int) pa_nil)) pa_nil))))))))
      (pss_cons (ps_set (i := 16) sc_law.nd rfl (Or.inl rfl) (pe_ix (r := rIxL K) ix_list (pv 15) (pe_op op_mod (pe_call G__law_mix hr1 rfl W.d__law_mix.m W.d__law_mix.F.kp W.d__law_mix.b .nil pass0 (pa_cons (pv 4) (pa_cons pe_int (pa_cons pe_int pa_nil)))) pe_int) (fun _ _ => rfl)))
      (pss_cons (ps_cut (ps_if (pt_cmpR op_notN (pv 16) pe_non (nomark _)) (pss_cons (ps_set (i := 16) sc_law.nd rfl (Or.inl rfl) (pe_callB (call_min2 rfl) (by rfl) W.B.min b_min (pa_cons pe_int (pa_cons (pe_callB (call_max2 rfl) (by rfl) W.B.max b_max (pa_cons pe_int (pa_cons (pv 16) pa_nil))) pa_nil))))
      (pss_one (ps_if (pt_cmpR op_gt (pv 14) (pv 16) (nomark _)) (pss_cons (ps_set (i := 12) sc_law.nd rfl (Or.inl rfl) (pe_call G__law_dealt hr1 rfl W.d__law_dealt.m W.d__law_dealt.F.kp W.d__law_dealt.b .nil pass0 (pa_cons (pe_callB (call_min2 rfl) (by rfl) W.B.min b_min (pa_cons (pv 16) (pa_cons (pe_callB (call_sum rfl) (by rfl) W.B.sum b_sum (pa_cons (pv 12) pa_nil)) pa_nil))) (pa_cons (pv 12) pa_nil))))
      (pss_one (ps_set (i := 13) sc_law.nd rfl (Or.inl rfl) (pe_callB (call_min2 rfl) (by rfl) W.B.min b_min (pa_cons (pv 13) (pa_cons (pv 16) pa_nil)))))) (pss_nil)))) (pss_nil)))
      (pss_cons (ps_set (i := 17) sc_law.nd rfl (Or.inl rfl) (pe_ix (r := rIxL K) ix_list (pe_lst (pa_cons pe_int (pa_cons pe_int (pa_cons pe_int pa_nil)))) (pe_op op_mod (pe_op op_fdiv (pv 5) pe_int) pe_int) (fun _ _ => rfl)))
      (pss_cons (ps_set (i := 18) sc_law.nd rfl (Or.inl rfl) (pe_make (W.m_Marks_init.mk' W.c_Marks) G_Marks_init hr2 rfl W.c_Marks.m W.m_Marks_init.b .nil pass0 (pa_cons (pv 6) (pa_cons (pv 17) (pa_cons (pv 16) (pa_cons (pe_cmpR op_eq (pe_op op_mod (pe_op op_fdiv (pv 5) pe_int) pe_int) pe_int (nomark _)) (pa_cons (pe_cmpR op_eq (pe_op op_mod (pe_op op_fdiv (pv 5) pe_int) pe_int) pe_int (nomark _)) (pa_cons (pv 7) pa_nil))))))))
      (pss_cons (ps_set (i := 19) sc_law.nd rfl (Or.inl rfl) (pe_call G__law_made hr rfl W.d__law_made.m W.d__law_made.F.kp W.d__law_made.b .nil pass0 (pa_cons (pv 9) (pa_cons (pv 10) (pa_cons (pv 11) (pa_cons (pv 18) pa_nil))))))
      (pss_cons (ps_set (i := 20) sc_law.nd rfl (Or.inl rfl) (pe_call G__law_spread hr1 rfl W.d__law_spread.m W.d__law_spread.F.kp W.d__law_spread.b .nil pass0 (pa_cons (pv 3) (pa_cons (pv 8) (pa_cons (pv 12) pa_nil)))))
      (pss_cons (ps_if (pt_not (pt_val (pe_call G__law_right hr rfl W.d__law_right.m W.d__law_right.F.kp W.d__law_right.b .nil pass0 (pa_cons (pv 19) (pa_cons (pv 1) (pa_cons (pv 2) (pa_cons (pv 3) (pa_cons (pv 20) (pa_cons (pv 13) pa_nil))))))))) (pss_one (ps_ret pe_bl)) (pss_nil))
      (pss_one (ps_if (pt_cmpR op_eq (pe_op op_mod (pv 4) pe_int) pe_int (nomark _)) (pss_one (ps_set (i := 3) sc_law.nd rfl (Or.inl rfl) (pe_call G_after hr5 rfl W.d_after.m W.d_after.F.kp W.d_after.b .nil pass0 (pa_cons (pv 19) (pa_cons (pv 1) (pa_cons (pv 2) (pa_cons (pv 3) pa_nil))))))) (pss_nil))))))))))))))))))))
      (pss_one (ps_ret pe_bl))))), ?_⟩
    refine ⟨_, rfl, a, ns, rfl, hS, hn, fun H1 p ps s1 f1 hp hg hl20 hl0 => ?_⟩
    refine ⟨_, rfl, _, rfl, p, _, rfl, .inl (SqL.of hp), a, ns, ps.length, (by rw [List.length_map]; rfl), s1.seq hS, hn, hl0, fun H2 b B s2 f2 hb hB12 hBok hBkd hBc hB64 => ?_⟩
    refine ⟨_, rfl, mk_stnd hb hB12 hBok fun H3 x0 s3 f3 hx0 => ?_⟩
    have wf0 := Wf.start hg hl20 hBkd hBok hB12 hBc hB64
    have s03 := (s1.trans s2).trans s3
    refine ⟨_, rfl, a, rfl, ⟨_, s03.seq hS⟩, for_list (fun _ σ H' => Same H3 H' ∧ ∃ (x : Addr) (S : Stnd) (v4 v5 v6 v7 v8 v9 v10 v11 v12 v13 v14 v15 v16 v17 v18 v19 v20 : Option V), StndIs d.c_Standing H' x S ∧ Wf ps B S ∧ σ = [some (.ref a), some (.ref p), some (.ref b), some (.ref x), v4, v5, v6, v7, v8, v9, v10, v11, v12, v13, v14, v15, v16, v17, v18, v19, v20])
      ⟨Same.refl _, x0, _, none, none, none, none, none, none, none, none, none, none, none, none, none, none, none, none, none, hx0, wf0, rfl⟩ (fun i σ H' _ h => (s03.trans h.1).seq hS) ?_ (fun σ H' _ => k _)⟩
    rintro i cv σ Hi hi ⟨sI, x, S, v4, v5, v6, v7, v8, v9, v10, v11, v12, v13, v14, v15, v16, v17, v18, v19, v20, hx, wf, rfl⟩
    obtain ⟨c, rfl⟩ : ∃ c : Int, cv = .int c := by
      obtain ⟨m, _, rfl⟩ := List.mem_map.mp (List.mem_of_getElem? hi)
      exact ⟨m, rfl⟩
    have hpi := (s2.trans (s3.trans sI)) _ _ hp
    have hbi := hb.same (s3.trans sI)
    have lpr : S.pr.length ≤ 720 := by rw [wf.lp]; exact wf.np
    obtain ⟨o, pp, mm, ⟨dxs, fss, hxs, l1, l2, l3, l4, l5⟩, ho, hpp, hmm⟩ := id hx
    refine ⟨_, rfl, _, _, _, rfl, ⟨by decide, by decide⟩, by decide, ?_⟩
    generalize c * 48271 % 2147483647 = dr
    refine ⟨fun z H' => H' = Hi ∧ ∃ kd : Option Nat, z = pV kd ∧ ∀ k, kd = some k → k < ps.length, ?_, ?_⟩
    · refine ⟨_, rfl, _, _, rfl, rfl, (by show (0 : Int) < 3; decide), rfl, _, rfl, ite2 (fun _ => ⟨rfl, none, rfl, fun k e => by cases e⟩) (fun _ => ?_)⟩
      exact ⟨_, rfl, _, _, rfl, rfl, ⟨by decide, by decide⟩, _, rfl, p, _, rfl, .inl (SqL.of hpi), _, _, rfl, rfl, (by show (0 : Int) < ((ps.map pV).length : Nat); rw [List.length_map]; omega), rfl, by rw [List.length_map]; exact kd_mod hl0⟩
    rintro z H' ⟨rfl, kd, rfl, hk⟩
    refine ⟨_, rfl, _, _, rfl, rfl, ⟨by decide, by decide⟩, _, _, rfl, rfl, (by show (0 : Int) < 3; decide), rfl, ?_⟩
    generalize decide (V.int (dr / 18 % 3) = V.int 0) = lo
    refine ⟨_, rfl, _, rfl, _, rfl, _, rfl, _, rfl, p, b, x, ps, B, S, kd, lo, rfl, SqL.of hpi, hbi, hx, wf, fun pc q1 => ?_⟩
    have lab : (abt ps (kds B) kd lo S).length ≤ 720 := Nat.le_trans (abt_len _ _ _ _ _) wf.np
    have t6 := same_new (o := .lst ((abt ps (kds B) kd lo S).map iV)) q1
    have e1 : (upd H' pc (.lst ((abt ps (kds B) kd lo S).map iV))) pc = some (.lst ((abt ps (kds B) kd lo S).map iV)) := upd_same
    have habl : ∀ i ∈ abt ps (kds B) kd lo S, i < S.pr.length := fun i hi => by rw [wf.lp]; exact abt_lt hi
    have habn := abt_nodup ps (kds B) kd lo S
    generalize eab : abt ps (kds B) kd lo S = ab at *
    generalize upd H' pc (.lst (ab.map iV)) = H6 at *
    refine ⟨_, rfl, _, _, _, rfl, ⟨by decide, by decide⟩, by decide, _, rfl, fun H8 t n aa bb s8 f8 h8 hsb => ?_⟩
    refine ⟨t, _, rfl, SqT.of h8, rfl, _, _, rfl, _, _, rfl, _, _, rfl, rfl, ?_⟩
    have t8 := t6.trans s8
    have e1 := s8 _ _ e1
    refine ⟨_, rfl, _, rfl, _, rfl, _, rfl, _, rfl, n, aa, bb, x, pc, ps, B, S, ab, rfl, hsb, hx.same t8, wf, e1, habn, habl, fun H9 l s9 f9 hl => ?_⟩
    have t9 := t8.trans s9
    have e1 := s9 _ _ e1
    have hwl : Le2 (want (soN n aa bb) S.mkd.length (ab.map fun i => S.ow.getD i 0) (qs S.pr ab)) (qs S.pr ab) := want_le (qs_nn wf.nn ab) (soN_ok hsb)
    have hsum := qs_sum wf lab habl
    have lq : (qs S.pr ab).length = ab.length := qs_len _ _
    have hws := hwl.sum
    have hwn := hwl.nn
    have hwlen := hwl.1
    generalize ewv : want (soN n aa bb) S.mkd.length (ab.map fun i => S.ow.getD i 0) (qs S.pr ab) = wv at *
    have hfe : 0 ≤ fee (soN n aa bb) S.cg ∧ fee (soN n aa bb) S.cg ≤ S.cg := by
      have := wf.cg.1
      unfold fee
      split <;> omega
    refine ⟨fun z H' => H' = H9 ∧ z = .int (fee (soN n aa bb) S.cg), ?_, ?_⟩
    · refine ⟨_, rfl, rfl, _, rfl, ite2 (fun h => ?_) (fun h => ?_)⟩
      · have h4 : n = 4 := by simpa using h
        refine ⟨_, rfl, x, d.c_Standing, dxs, fss, _, rfl, t9 _ _ hxs, W.c_Standing.cl, W.n_Standing_carriage, l3, rfl, ?_⟩
        rw [fee_soN hsb, if_pos h4]
      · have h4 : ¬ n = 4 := by simpa using h
        refine ⟨rfl, ?_⟩
        rw [fee_soN hsb, if_neg h4]
    rintro z H'' ⟨rfl, rfl⟩
    generalize efe : fee (soN n aa bb) S.cg = fe at *
    refine ⟨_, rfl, l, _, rfl, SqL.of hl, _, rfl, _, _, rfl, rfl, ?_⟩
    refine ⟨_, rfl, _, rfl, _, _, rfl, rfl, _, rfl, _, _, rfl, rfl, ⟨by decide, by decide⟩, _, rfl, _, _, rfl, rfl, ⟨by decide, by decide⟩, _, rfl, fun H10 z s10 z0 z1 => ⟨(by show 6 ≤ sizeLine; decide), fun so qso => ?_⟩⟩
    have n11 := same_new (o := .lst [V.non, V.int (wv.sum + fe), V.int (wv.sum + fe - 1), V.int ((wv.sum + fe) / 2), V.int 0, V.int z]) qso
    have eso : (upd H10 so (.lst [V.non, V.int (wv.sum + fe), V.int (wv.sum + fe - 1), V.int ((wv.sum + fe) / 2), V.int 0, V.int z])) so = some (.lst ([none, some (wv.sum + fe), some (wv.sum + fe - 1), some ((wv.sum + fe) / 2), some 0, some z].map oV)) := upd_same
    have s11 := s10.trans n11
    clear n11
    generalize upd H10 so (.lst [V.non, V.int (wv.sum + fe), V.int (wv.sum + fe - 1), V.int ((wv.sum + fe) / 2), V.int 0, V.int z]) = H11 at *
    have t11 := t9.trans s11
    have e1 := s11 _ _ e1
    have hl := s11 _ _ hl
    obtain ⟨mo, amo, _⟩ := pickO (zs := [none, some (wv.sum + fe), some (wv.sum + fe - 1), some ((wv.sum + fe) / 2), some 0, some z]) (m := c * 69621 % 2147483629 % 6) (by omega) (by show _ < (6 : Int); omega)
    refine ⟨_, rfl, _, rfl, _, _, _, rfl, ⟨by decide, by decide⟩, by decide, _, _, rfl, rfl, (by show (0 : Int) < 6; decide), so, _, _, _, rfl, rfl, SqL.of eso, amo, ?_⟩
    refine ⟨fun σ H' => ∃ (mo' : Option Int) (l' : Addr), Same H11 H' ∧ (∀ m, mo' = some m → 0 ≤ m ∧ m ≤ 1000000000000) ∧ H' l' = some (.lst ((cap mo' wv fe).1.map V.int)) ∧ σ = [some (.ref a), some (.ref p), some (.ref b), some (.ref x), some (.int c), some (.int dr), some (pV kd), some (.bl lo), some (.ref pc), some (.int n), some (.int aa), some (.int bb), some (.ref l'), some (.int (cap mo' wv fe).2), some (.int (wv.sum + fe)), some (.ref so), some (oV mo'), v17, v18, v19, v20], ?_, ?_⟩
    · cases mo with
      | none =>
        refine ⟨_, rfl, rfl, _, rfl, ?_⟩
        show if (!decide (V.non = V.non)) = true then _ else _
        rw [show (!decide (V.non = V.non)) = false by simp]
        exact iteF ⟨none, l, Same.refl _, (fun m e => by cases e), hl, rfl⟩
      | some m0 =>
        refine ⟨_, rfl, rfl, _, rfl, ?_⟩
        show if (!decide (V.int m0 = V.non)) = true then _ else _
        rw [show (!decide (V.int m0 = V.non)) = true by simp]
        refine iteT ⟨_, rfl, _, _, rfl, _, _, rfl, ?_⟩
        have hm : 0 ≤ (if (if m0 > 0 then m0 else 0) < 1000000000000 then (if m0 > 0 then m0 else 0) else 1000000000000) ∧ (if (if m0 > 0 then m0 else 0) < 1000000000000 then (if m0 > 0 then m0 else 0) else 1000000000000) ≤ 1000000000000 := by
          split <;> split <;> omega
        generalize (if (if m0 > 0 then m0 else 0) < 1000000000000 then (if m0 > 0 then m0 else 0) else 1000000000000) = m at *
        refine ⟨_, rfl, _, rfl, _, _, rfl, rfl, _, rfl, ite2 (fun h => ?_) (fun h => ?_)⟩
        · have hlt : m < wv.sum + fe := by simpa using h
          refine ⟨_, rfl, _, rfl, l, _, rfl, SqL.of hl, _, _, rfl, _, rfl, ?_⟩
          rw [show (if wv.sum < m then wv.sum else m) = min m wv.sum by split <;> omega]
          refine ⟨_, l, wv, rfl, SqL.of hl, hwn, by omega, by omega, by omega, by omega, fun dd qdd => ?_⟩
          refine ⟨_, rfl, _, rfl, _, _, rfl, ?_⟩
          have ec : cap (some m) wv fe = (dl (min m wv.sum) wv, min fe m) := by
            unfold cap
            simp only
            rw [if_pos hlt]
          refine ⟨some m, dd, same_new qdd, (fun m' e => by cases e; exact hm), by rw [ec]; exact upd_same, ?_⟩
          rw [ec, show (if m < fe then m else fe) = min fe m by split <;> omega]
          rfl
        · have hlt : ¬ m < wv.sum + fe := by simpa using h
          have ec : cap (some m) wv fe = (wv, fe) := by
            unfold cap
            simp only
            rw [if_neg hlt]
          refine ⟨some m, l, Same.refl _, (fun m' e => by cases e; exact hm), by rw [ec]; exact hl, ?_⟩
          rw [ec]
          rfl
    rintro σ H12 ⟨mo', l', s12, hmo, hl', rfl⟩
    have t12 := t11.trans s12
    have e1 := s12 _ _ e1
    have hcap := cap_le (most := mo') (f := fe) (cg := S.cg) hwl (by omega) fun m e => (hmo m e).1
    have hclen := hcap.1.1
    refine ⟨(by show 3 ≤ sizeLine; decide), fun nl qnl => ?_⟩
    have n13 := same_new (o := .lst [V.int 0, V.int 50, V.int 1000000000000]) qnl
    have enl : (upd H12 nl (.lst [V.int 0, V.int 50, V.int 1000000000000])) nl = some (.lst ([0, 50, 1000000000000].map V.int)) := upd_same
    have t13 := t12.trans n13
    have e1 := n13 _ _ e1
    have hl' := n13 _ _ hl'
    clear n13
    generalize upd H12 nl (.lst [V.int 0, V.int 50, V.int 1000000000000]) = H13 at *
    obtain ⟨nd, and, hnd⟩ := pickI (zs := [0, 50, 1000000000000]) (m := dr / 5 % 3) (by omega) (by show _ < (3 : Int); omega)
    have hnd : 0 ≤ nd ∧ nd ≤ 1000000000000 := by
      simp only [List.mem_cons, List.not_mem_nil, or_false] at hnd
      omega
    refine ⟨_, rfl, _, _, rfl, rfl, ⟨by decide, by decide⟩, _, _, rfl, rfl, (by show (0 : Int) < 3; decide), nl, _, _, _, rfl, rfl, SqL.of enl, and, ?_⟩
    refine ⟨_, rfl, _, rfl, _, rfl, _, rfl, _, _, rfl, rfl, ⟨by decide, by decide⟩, _, _, rfl, rfl, (by show (0 : Int) < 4; decide), rfl, _, rfl, _, _, rfl, rfl, ⟨by decide, by decide⟩, _, _, rfl, rfl, (by show (0 : Int) < 2; decide), rfl, _, rfl, ?_⟩
    generalize decide (V.int (dr / 15 % 4) = V.int 0) = m1
    generalize decide (V.int (dr / 60 % 2) = V.int 0) = m2
    refine mk_marks (M := ⟨kd, nd, mo', m1, m2, lo⟩) fun H14 mA s14 f14 hM => ?_
    have t14 := t13.trans s14
    have htb : Tbs d H14 := Tbs.same (s03.trans (sI.trans t14)) htb0
    have vok : VchOk ps ⟨soN n aa bb, ⟨kd, nd, mo', m1, m2, lo⟩⟩ := ⟨soN_ok hsb, ⟨hk, hnd, hmo⟩⟩
    refine ⟨_, rfl, _, rfl, _, rfl, _, rfl, n, aa, bb, mA, _, rfl, hsb, hM, htb, fun H15 v s15 f15 hV => ?_⟩
    have t15 := t14.trans s15
    refine ⟨_, rfl, _, rfl, _, rfl, x, pc, l', S, ab, _, rfl, hx.same t15, s15 _ _ (s14 _ _ e1), s15 _ _ (s14 _ _ hl'), by rw [hclen, lq], habn, habl, lpr, fun H16 du s16 f16 hdu => ?_⟩
    have t16 := t15.trans s16
    have ecu : cutM ⟨soN n aa bb, ⟨kd, nd, mo', m1, m2, lo⟩⟩ ps (kds B) S = (spr S.pr.length ab (cap mo' wv fe).1, (cap mo' wv fe).2) := by
      unfold cutM
      simp only [eab, ewv, efe]
    refine ⟨_, rfl, _, rfl, _, rfl, _, rfl, _, rfl, _, rfl, v, p, b, x, du, ⟨soN n aa bb, ⟨kd, nd, mo', m1, m2, lo⟩⟩, ps, B, S, by rw [ecu]; rfl, hV.same s16, SqL.of (t16 _ _ hpi), hbi.same t16, hx.same t16, wf, vok, by rw [ecu]; exact hdu, fun H17 s17 => ?_⟩
    have t17 := t16.trans s17
    refine ⟨_, rfl, iteF ?_⟩
    refine ⟨_, rfl, _, _, rfl, rfl, (by show (0 : Int) < 2; decide), rfl, _, rfl, ite2 (fun _ => ?_) (fun _ => ?_)⟩
    · exact ⟨_, rfl, _, rfl, _, rfl, _, rfl, v, p, b, x, _, ps, B, S, rfl, (hV.same s16).same s17, SqL.of (t17 _ _ hpi), hbi.same t17, hx.same t17, wf, vok, fun H18 x' s18 f18 hx' => ⟨(sI.trans t17).trans s18, x', _, _, _, _, _, _, _, _, _, _, _, _, _, _, _, _, _, _, hx', wf.after vok, rfl⟩⟩
    · exact ⟨sI.trans t17, x, S, _, _, _, _, _, _, _, _, _, _, _, _, _, _, _, _, _, hx.same t17, wf, rfl⟩
end
end Vs
namespace Vs
open PySem L2
theorem all_mk {l : PySem.W.OpenLaw} {w : World} {K : PySem.W.Frag} {h : Heap} {mg : Str → Option Value} {fa zba zaw z26 zb6 zg8 zg9 zbp z25 z1k z4k z1w z1x z2s z6q z2m z8p z5j z81 z6l z35 z46 z5a z5i z5d z4v z47 z5h z4x z4c z33 z6n zhh zk z2y zl zf zv z1o zr z5o z5n ze z30 z1t za z1h z1a zc z2h z2i zb z1f z1d zu z4b z4r zj z2g z1e zd z1c zt zi : Addr} {zog zcv zoo zce za3 z3k zo6 ze9 zpd zim zq2 zhj zov zdd z9t z3p z9c z2t zfe z64 z9k z3o zai z3y zbl z4a zjx z86 zc4 z4f zmu z97 zgk z7b zma z8q zjz z8b zdp z4z zg3 z62 zh2 z75 zhr z78 zgh z6y zf9 z6e zfi z6g zhg z7d zf7 z5s zez z5v zdb z50 zkd z8d zqj zlw zh3 zp zgp zcp z2k zca zlm z6s zl7 zio z2e zgi zc5 z20 zbn zew z36 zg2 zc8 z1u zap zjc z58 zka zfb z1n zg1 zb0 z4p z9e : Option Addr} {zod zot zag zou zph zpg zop z9m z9g zfj z9y z9u zb9 zkc zbq zn0 zi7 zlt zk3 zdx zfv zhf zic zgy zf8 zf4 zhm zer zel zdj zju zq9 zhv zi2 zdc zdr zlo zmh zi6 zia zbe zb1 zg6 zet zbs zbx zj0 zjf zf2 zf6 zbj z9d : Array (Option Value)} {zon zcr ze3 zd5 z98 zcs zoc zcy zd3 zdh z99 zcx z9x z3r z3i z3f z1j z3q zoe zd8 zcc zd6 z9a zdz zpv zhw zhe zhl zaz zi5 zpp zik zgf zhz zbt zig zox zds zcm ze2 z9b zdu za4 z3e z3g z3t z1l z3n z9f z2v z2w z2x z19 z2u zft z6d z66 z5r z31 z60 zah z3l z3h z3w z1i z3m za2 z3u z3s z3j zs z3v zc7 z40 z41 z4i z2b z4n zjk z85 z8i z8f z5k z84 zay z4s z4o z4e z27 z48 zng z93 z92 z91 z82 z94 zi4 z76 z6z z74 z49 z7e zm4 z8s z8t z8r z6o z8o ziz z8e z8a z8h z5f z89 ze0 z51 z4y z57 z2o z53 zf5 z6a z6i z5u z32 z5y zhy z7p z7r z7s z4l z6u zhb z72 z7f z79 z4g z7a ziv z7c z7t z6v z4h z7g zef z5w z5z z5p z37 z5x zfh z6b z68 z67 z3b z6c zhq z7j z7l z7q z4j z73 zfw z6h z5t z69 z38 z61 zem z5q z6f z63 z34 z65 zd0 z54 z52 z56 z2n z55 zjb z83 z88 z8g z5e z87 zqn zmj zm2 zl1 zg7 zm8 zh4 zn zo zq zh zm zgq zcf z2r z2l z2p z1b z2q zdg zkx z6m z6p z6r z4w z6k zme zij z2j z2f z2d z1g z2c zgt zam z29 z1z z23 zy z1v zb2 zfy z3c z39 z3d z1s z3a zeg zax z1y z2a z28 zx z22 zbc zjh z5b z5c z5g z2z z59 zk7 zex z1r z1p z1q zw z1m zfc zc3 z4u z44 z43 z21 z4q z6j : Value} {zgb z24 zde zl5 zi1 zbr zfq zbz zk4 zeu z3x z77 z7h z71 : Nat} {zg : Array Value} {z7k : Str} {z7w z7o : Int} {z70 : Bool} {ts : List Addr} (X : K.In h) (G : h.Ns mainGlobals mg) (hfa : mg "law" = some (.ref fa))
    (zp4 : PySem.W.nsIn K mainGlobals "dealt" = some (some (.ref zba))) (zpn : K.lookup zba = some ⟨zon, zog, .func (PySem.W.fnOf "dealt" "dealt" (defArgs s_dealt) (defBody s_dealt) (defScope s_dealt) .none zcr ze3 zd5 zcv z98 zcs), zod⟩) (zpm : PySem.W.codeIn K z98 "dealt" = true) (zpu : PySem.W.keepIn K (.ref zba) = true)
    (zpo : PySem.W.nsIn K mainGlobals "under" = some (some (.ref zaw))) (zq0 : K.lookup zaw = some ⟨zoc, zoo, .func (PySem.W.fnOf "under" "under" (defArgs s_under) (defBody s_under) (defScope s_under) .none zcy zd3 zdh zce z99 zcx), zot⟩) (zpk : PySem.W.codeIn K z99 "under" = true) (zpa : PySem.W.keepIn K (.ref zaw) = true)
    (zas : PySem.W.nsIn K mainGlobals "price_of_piece" = some (some (.ref z26))) (zan : K.lookup z26 = some ⟨z9x, za3, .func (PySem.W.fnOf "price_of_piece" "price_of_piece" (defArgs s_price_of_piece) (defBody s_price_of_piece) (defScope s_price_of_piece) .none z3r z3i z3f z3k z1j z3q), zag⟩) (zbv : PySem.W.codeIn K z1j "price_of_piece" = true) (zbh : PySem.W.keepIn K (.ref z26) = true)
    (zp0 : PySem.W.nsIn K mainGlobals "about" = some (some (.ref zb6))) (zp3 : K.lookup zb6 = some ⟨zoe, zo6, .func (PySem.W.fnOf "about" "about" (defArgs s_about) (defBody s_about) (defScope s_about) .none zd8 zcc zd6 ze9 z9a zdz), zou⟩) (zpy : PySem.W.codeIn K z9a "about" = true) (zq1 : PySem.W.keepIn K (.ref zb6) = true)
    (zqq : PySem.W.nsIn K mainGlobals "fits" = some (some (.ref zg8))) (zqg : K.lookup zg8 = some ⟨zpv, zpd, .func (PySem.W.fnOf "fits" "fits" (defArgs s_fits) (defBody s_fits) (defScope s_fits) .none zhw zhe zhl zim zaz zi5), zph⟩) (zqs : PySem.W.codeIn K zaz "fits" = true) (zqp : PySem.W.keepIn K (.ref zg8) = true)
    (zqh : PySem.W.nsIn K mainGlobals "cuts" = some (some (.ref zg9))) (zqr : K.lookup zg9 = some ⟨zpp, zq2, .func (PySem.W.fnOf "cuts" "cuts" (defArgs s_cuts) (defBody s_cuts) (defScope s_cuts) .none zik zgf zhz zhj zbt zig), zpg⟩) (zqm : PySem.W.codeIn K zbt "cuts" = true) (zqi : PySem.W.keepIn K (.ref zg9) = true)
    (zpz : PySem.W.nsIn K mainGlobals "after" = some (some (.ref zbp))) (zp7 : K.lookup zbp = some ⟨zox, zov, .func (PySem.W.fnOf "after" "after" (defArgs s_after) (defBody s_after) (defScope s_after) .none zds zcm ze2 zdd z9b zdu), zop⟩) (zpw : PySem.W.codeIn K z9b "after" = true) (zp5 : PySem.W.keepIn K (.ref zbp) = true)
    (zbk : PySem.W.nsIn K mainGlobals "cuts_of_pieces" = some (some (.ref z25))) (zb4 : K.lookup z25 = some ⟨za4, z9t, .func (PySem.W.fnOf "cuts_of_pieces" "cuts_of_pieces" (defArgs s_cuts_of_pieces) (defBody s_cuts_of_pieces) (defScope s_cuts_of_pieces) .none z3e z3g z3t z3p z1l z3n), z9m⟩) (zaq : PySem.W.codeIn K z1l "cuts_of_pieces" = true) (zbb : PySem.W.keepIn K (.ref z25) = true)
    (z9q : PySem.W.nsIn K mainGlobals "cut_of_carriage" = some (some (.ref z1k))) (z9p : K.lookup z1k = some ⟨z9f, z9c, .func (PySem.W.fnOf "cut_of_carriage" "cut_of_carriage" (defArgs s_cut_of_carriage) (defBody s_cut_of_carriage) (defScope s_cut_of_carriage) .none z2v z2w z2x z2t z19 z2u), z9g⟩) (z9j : PySem.W.codeIn K z19 "cut_of_carriage" = true) (zaa : PySem.W.keepIn K (.ref z1k) = true)
    (zgl : PySem.W.nsIn K mainGlobals "wanted_cuts" = some (some (.ref z4k))) (zie : K.lookup z4k = some ⟨zft, zfe, .func (PySem.W.fnOf "wanted_cuts" "wanted_cuts" (defArgs s_wanted_cuts) (defBody s_wanted_cuts) (defScope s_wanted_cuts) .none z6d z66 z5r z64 z31 z60), zfj⟩) (zh6 : PySem.W.codeIn K z31 "wanted_cuts" = true) (zh0 : PySem.W.keepIn K (.ref z4k) = true)
    (zbi : PySem.W.nsIn K mainGlobals "parted_by_line" = some (some (.ref z1w))) (zal : K.lookup z1w = some ⟨zah, z9k, .func (PySem.W.fnOf "parted_by_line" "parted_by_line" (defArgs s_parted_by_line) (defBody s_parted_by_line) (defScope s_parted_by_line) .none z3l z3h z3w z3o z1i z3m), z9y⟩) (zb7 : PySem.W.codeIn K z1i "parted_by_line" = true) (zaj : PySem.W.keepIn K (.ref z1w) = true)
    (zak : PySem.W.nsIn K mainGlobals "falling_groups" = some (some (.ref z1x))) (zb5 : K.lookup z1x = some ⟨za2, zai, .func (PySem.W.fnOf "falling_groups" "falling_groups" (defArgs s_falling_groups) (defBody s_falling_groups) (defScope s_falling_groups) .none z3u z3s z3j z3y zs z3v), z9u⟩) (zav : PySem.W.codeIn K zs "falling_groups" = true) (zb8 : PySem.W.keepIn K (.ref z1x) = true)
    (zdw : PySem.W.nsIn K mainGlobals "marked_behind" = some (some (.ref z2s))) (zck : K.lookup z2s = some ⟨zc7, zbl, .func (PySem.W.fnOf "marked_behind" "marked_behind" (defArgs s_marked_behind) (defBody s_marked_behind) (defScope s_marked_behind) .none z40 z41 z4i z4a z2b z4n), zb9⟩) (zcq : PySem.W.codeIn K z2b "marked_behind" = true) (zdo : PySem.W.keepIn K (.ref z2s) = true)
    (zku : PySem.W.nsIn K mainGlobals "prices_of" = some (some (.ref z6q))) (zmn : K.lookup z6q = some ⟨zjk, zjx, .func (PySem.W.fnOf "prices_of" "prices_of" (defArgs s_prices_of) (defBody s_prices_of) (defScope s_prices_of) .none z85 z8i z8f z86 z5k z84), zkc⟩) (zlj : PySem.W.codeIn K z5k "prices_of" = true) (zmb : PySem.W.keepIn K (.ref z6q) = true)
    (zdl : PySem.W.nsIn K mainGlobals "sum_of_prices" = some (some (.ref z2m))) (zcg : K.lookup z2m = some ⟨zay, zc4, .func (PySem.W.fnOf "sum_of_prices" "sum_of_prices" (defArgs s_sum_of_prices) (defBody s_sum_of_prices) (defScope s_sum_of_prices) .none z4s z4o z4e z4f z27 z48), zbq⟩) (zd4 : PySem.W.codeIn K z27 "sum_of_prices" = true) (zcj : PySem.W.keepIn K (.ref z2m) = true)
    (znq : PySem.W.nsIn K mainGlobals "at_most" = some (some (.ref z8p))) (zo0 : K.lookup z8p = some ⟨zng, zmu, .func (PySem.W.fnOf "at_most" "at_most" (defArgs s_at_most) (defBody s_at_most) (defScope s_at_most) .none z93 z92 z91 z97 z82 z94), zn0⟩) (znl : PySem.W.codeIn K z82 "at_most" = true) (zo1 : PySem.W.keepIn K (.ref z8p) = true)
    (zkp : PySem.W.nsIn K mainGlobals "_law_whole" = some (some (.ref z5j))) (zj3 : K.lookup z5j = some ⟨zi4, zgk, .func (PySem.W.fnOf "_law_whole" "_law_whole" (defArgs s__law_whole) (defBody s__law_whole) (defScope s__law_whole) .none z76 z6z z74 z7b z49 z7e), zi7⟩) (zkb : PySem.W.codeIn K z49 "_law_whole" = true) (zj6 : PySem.W.keepIn K (.ref z5j) = true)
    (zne : PySem.W.nsIn K mainGlobals "_law_mix" = some (some (.ref z81))) (zmq : K.lookup z81 = some ⟨zm4, zma, .func (PySem.W.fnOf "_law_mix" "_law_mix" (defArgs s__law_mix) (defBody s__law_mix) (defScope s__law_mix) .none z8s z8t z8r z8q z6o z8o), zlt⟩) (znc : PySem.W.codeIn K z6o "_law_mix" = true) (zmv : PySem.W.keepIn K (.ref z81) = true)
    (zkw : PySem.W.nsIn K mainGlobals "_law_coin" = some (some (.ref z6l))) (zmc : K.lookup z6l = some ⟨ziz, zjz, .func (PySem.W.fnOf "_law_coin" "_law_coin" (defArgs s__law_coin) (defBody s__law_coin) (defScope s__law_coin) .none z8e z8a z8h z8b z5f z89), zk3⟩) (zm5 : PySem.W.codeIn K z5f "_law_coin" = true) (zly : PySem.W.keepIn K (.ref z6l) = true)
    (zg5 : PySem.W.nsIn K mainGlobals "_law_parents" = some (some (.ref z35))) (zfd : K.lookup z35 = some ⟨ze0, zdp, .func (PySem.W.fnOf "_law_parents" "_law_parents" (defArgs s__law_parents) (defBody s__law_parents) (defScope s__law_parents) .none z51 z4y z57 z4z z2o z53), zdx⟩) (zej : PySem.W.codeIn K z2o "_law_parents" = true) (zfk : PySem.W.keepIn K (.ref z35) = true)
    (zid : PySem.W.nsIn K mainGlobals "_law_basket" = some (some (.ref z46))) (zgn : K.lookup z46 = some ⟨zf5, zg3, .func (PySem.W.fnOf "_law_basket" "_law_basket" (defArgs s__law_basket) (defBody s__law_basket) (defScope s__law_basket) .none z6a z6i z5u z62 z32 z5y), zfv⟩) (zha : PySem.W.codeIn K z32 "_law_basket" = true) (zhp : PySem.W.keepIn K (.ref z46) = true)
    (zk1 : PySem.W.nsIn K mainGlobals "_law_under" = some (some (.ref z5a))) (zkl : K.lookup z5a = some ⟨zhy, zh2, .func (PySem.W.fnOf "_law_under" "_law_under" (defArgs s__law_under) (defBody s__law_under) (defScope s__law_under) .none z7p z7r z7s z75 z4l z6u), zhf⟩) (zjq : PySem.W.codeIn K z4l "_law_under" = true) (zjm : PySem.W.keepIn K (.ref z5a) = true)
    (zjy : PySem.W.nsIn K mainGlobals "_law_about" = some (some (.ref z5i))) (zk5 : K.lookup z5i = some ⟨zhb, zhr, .func (PySem.W.fnOf "_law_about" "_law_about" (defArgs s__law_about) (defBody s__law_about) (defScope s__law_about) .none z72 z7f z79 z78 z4g z7a), zic⟩) (zki : PySem.W.codeIn K z4g "_law_about" = true) (zkm : PySem.W.keepIn K (.ref z5i) = true)
    (zjg : PySem.W.nsIn K mainGlobals "_law_dealt" = some (some (.ref z5d))) (zkg : K.lookup z5d = some ⟨ziv, zgh, .func (PySem.W.fnOf "_law_dealt" "_law_dealt" (defArgs s__law_dealt) (defBody s__law_dealt) (defScope s__law_dealt) .none z7c z7t z6v z6y z4h z7g), zgy⟩) (zke : PySem.W.codeIn K z4h "_law_dealt" = true) (zkj : PySem.W.keepIn K (.ref z5d) = true)
    (zgx : PySem.W.nsIn K mainGlobals "_law_cut_is" = some (some (.ref z4v))) (zh7 : K.lookup z4v = some ⟨zef, zf9, .func (PySem.W.fnOf "_law_cut_is" "_law_cut_is" (defArgs s__law_cut_is) (defBody s__law_cut_is) (defScope s__law_cut_is) .none z5w z5z z5p z6e z37 z5x), zf8⟩) (zib : PySem.W.codeIn K z37 "_law_cut_is" = true) (zh1 : PySem.W.keepIn K (.ref z4v) = true)
    (zgw : PySem.W.nsIn K mainGlobals "_law_spread" = some (some (.ref z47))) (zis : K.lookup z47 = some ⟨zfh, zfi, .func (PySem.W.fnOf "_law_spread" "_law_spread" (defArgs s__law_spread) (defBody s__law_spread) (defScope s__law_spread) .none z6b z68 z67 z6g z3b z6c), zf4⟩) (zhn : PySem.W.codeIn K z3b "_law_spread" = true) (zho : PySem.W.keepIn K (.ref z47) = true)
    (zjj : PySem.W.nsIn K mainGlobals "_law_right" = some (some (.ref z5h))) (zjt : K.lookup z5h = some ⟨zhq, zhg, .func (PySem.W.fnOf "_law_right" "_law_right" (defArgs s__law_right) (defBody s__law_right) (defScope s__law_right) .none z7j z7l z7q z7d z4j z73), zhm⟩) (zjn : PySem.W.codeIn K z4j "_law_right" = true) (ziy : PySem.W.keepIn K (.ref z5h) = true)
    (zih : PySem.W.nsIn K mainGlobals "_law_groups" = some (some (.ref z4x))) (zga : K.lookup z4x = some ⟨zfw, zf7, .func (PySem.W.fnOf "_law_groups" "_law_groups" (defArgs s__law_groups) (defBody s__law_groups) (defScope s__law_groups) .none z6h z5t z69 z5s z38 z61), zer⟩) (ziw : PySem.W.codeIn K z38 "_law_groups" = true) (zin : PySem.W.keepIn K (.ref z4x) = true)
    (zgg : PySem.W.nsIn K mainGlobals "_law_wanted" = some (some (.ref z4c))) (zh9 : K.lookup z4c = some ⟨zem, zez, .func (PySem.W.fnOf "_law_wanted" "_law_wanted" (defArgs s__law_wanted) (defBody s__law_wanted) (defScope s__law_wanted) .none z5q z6f z63 z5v z34 z65), zel⟩) (zgz : PySem.W.codeIn K z34 "_law_wanted" = true) (zif : PySem.W.keepIn K (.ref z4c) = true)
    (zfm : PySem.W.nsIn K mainGlobals "_law_sort_by" = some (some (.ref z33))) (zeo : K.lookup z33 = some ⟨zd0, zdb, .func (PySem.W.fnOf "_law_sort_by" "_law_sort_by" (defArgs s__law_sort_by) (defBody s__law_sort_by) (defScope s__law_sort_by) .none z54 z52 z56 z50 z2n z55), zdj⟩) (zfa : PySem.W.codeIn K z2n "_law_sort_by" = true) (zfp : PySem.W.keepIn K (.ref z33) = true)
    (zmf : PySem.W.nsIn K mainGlobals "_law_made" = some (some (.ref z6n))) (zls : K.lookup z6n = some ⟨zjb, zkd, .func (PySem.W.fnOf "_law_made" "_law_made" (defArgs s__law_made) (defBody s__law_made) (defScope s__law_made) .none z83 z88 z8g z8d z5e z87), zju⟩) (zml : PySem.W.codeIn K z5e "_law_made" = true) (zlv : PySem.W.keepIn K (.ref z6n) = true)
    (zq5 : PySem.W.nsIn K mainGlobals "law" = some (some (.ref zhh))) (zqv : K.lookup zhh = some ⟨zqn, zqj, .func (PySem.W.fnOf "law" "law" (defArgs s_law) (defBody s_law) (defScope s_law) .none zmj zm2 zl1 zlw zg7 zm8), zq9⟩) (zqx : PySem.W.codeIn K zg7 "law" = true) (zqw : PySem.W.keepIn K (.ref zhh) = true)
    (zp2 : PySem.W.nsIn K mainGlobals "Marks" = some (some (.ref zk)))
    (zoy : PySem.W.mroIn K zk (.type "object") = some true) (zo9 : PySem.W.mroIn K zk (.ref zk) = some true) (zom : PySem.W.typeIn K (.ref zk) = some (.type "type"))
    (inX : PySem.W.specialIn K (.builtin "object.__class__") "__get__" = some (some (.builtin "getset_descriptor.__get__"))) (itX : PySem.W.takesIn K (.builtin "object.__class__") = some true)
    (zo8 : PySem.W.plainGet K zk Str.empty = true) (zo5 : PySem.W.hasDictIn K zk = true) (zoh : PySem.W.plainOver K zk = true) (zof : PySem.W.findIn K (.ref zk) "__setattr__" = some (some (.builtin "object.__setattr__"))) (zoq : PySem.W.makesIn K zk = true) (zoa : PySem.W.keepIn K (.ref zk) = true) (zoi : PySem.W.findIn K (.ref zk) "__class__" = some (some (.builtin "object.__class__")))
    (zkq : PySem.W.findIn K (.ref zk) "kind" = some none)
    (zit : PySem.W.findIn K (.ref zk) "needs" = some none)
    (zk6 : PySem.W.findIn K (.ref zk) "most" = some none)
    (zev : PySem.W.findIn K (.ref zk) "member" = some none)
    (zkf : PySem.W.findIn K (.ref zk) "once" = some none)
    (zk8 : PySem.W.findIn K (.ref zk) "lone" = some none)
    (zj7 : PySem.W.findIn K (.ref zk) "__init__" = some (some (.ref z2y))) (zks : PySem.W.isFn K (.ref z2y) = true) (zjo : K.lookup z2y = some ⟨zh4, zh3, .func (PySem.W.fnOf "__init__" "Marks.__init__" (defArgs s_Marks_init) (defBody s_Marks_init) (defScope s_Marks_init) (.ref zl) zn zo zq zp zh zm), zhv⟩) (zkn : PySem.W.codeIn K zh "Marks.__init__" = true) (zjv : PySem.W.keepIn K (.ref z2y) = true) (zz : K.lookup zl = some ⟨zgq, zgp, .seq #[.none, .int 0 z24, .none, .bool false, .bool false, .bool false] zgb, zi2⟩)
    (zni : PySem.W.nsIn K mainGlobals "Voucher" = some (some (.ref zf)))
    (zn2 : PySem.W.mroIn K zf (.type "object") = some true) (znf : PySem.W.mroIn K zf (.ref zf) = some true) (zms : PySem.W.typeIn K (.ref zf) = some (.type "type"))
    (zn6 : PySem.W.plainGet K zf Str.empty = true) (zmz : PySem.W.hasDictIn K zf = true) (zn4 : PySem.W.plainOver K zf = true) (znd : PySem.W.findIn K (.ref zf) "__setattr__" = some (some (.builtin "object.__setattr__"))) (zmw : PySem.W.makesIn K zf = true) (zn1 : PySem.W.keepIn K (.ref zf) = true) (zn9 : PySem.W.findIn K (.ref zf) "__class__" = some (some (.builtin "object.__class__")))
    (zfg : PySem.W.findIn K (.ref zf) "__init__" = some (some (.ref zv))) (zey : PySem.W.isFn K (.ref zv) = true) (zep : K.lookup zv = some ⟨zcf, zcp, .func (PySem.W.fnOf "__init__" "Voucher.__init__" (defArgs s_Voucher_init) (defBody s_Voucher_init) (defScope s_Voucher_init) (.ref z1o) z2r z2l z2p z2k z1b z2q), zdc⟩) (zfu : PySem.W.codeIn K z1b "Voucher.__init__" = true) (zeh : PySem.W.keepIn K (.ref zv) = true) (z90 : K.lookup z1o = some ⟨zdg, zca, .seq #[.none] zde, zdr⟩)
    (zpe : PySem.W.nsIn K mainGlobals "Off" = some (some (.ref zr)))
    (zc2 : PySem.W.mroIn K zr (.type "object") = some true) (zc1 : PySem.W.mroIn K zr (.ref zr) = some true) (zar : PySem.W.typeIn K (.ref zr) = some (.type "type"))
    (zqf : PySem.W.plainGet K zr Str.empty = true) (zq8 : PySem.W.hasDictIn K zr = true) (zqa : PySem.W.plainOver K zr = true) (zqc : PySem.W.findIn K (.ref zr) "__setattr__" = some (some (.builtin "object.__setattr__"))) (zq6 : PySem.W.makesIn K zr = true) (zqo : PySem.W.keepIn K (.ref zr) = true) (zqe : PySem.W.findIn K (.ref zr) "__class__" = some (some (.builtin "object.__class__")))
    (zj1 : PySem.W.findIn K (.ref zr) "amount" = some none)
    (zlr : PySem.W.findIn K (.ref zr) "marks" = some none)
    (zn7 : PySem.W.findIn K (.ref zr) "__init__" = some (some (.ref z5o))) (zn3 : PySem.W.isFn K (.ref z5o) = true) (zmy : K.lookup z5o = some ⟨zkx, zlm, .func (PySem.W.fnOf "__init__" "Off.__init__" (defArgs s_Off_init) (defBody s_Off_init) (defScope s_Off_init) (.ref z5n) z6m z6p z6r z6s z4w z6k), zlo⟩) (zn5 : PySem.W.codeIn K z4w "Off.__init__" = true) (zmr : PySem.W.keepIn K (.ref z5o) = true) (zed : K.lookup z5n = some ⟨zme, zl7, .seq #[.none] zl5, zmh⟩)
    (zna : PySem.W.nsIn K mainGlobals "Share" = some (some (.ref ze)))
    (z8j : PySem.W.mroIn K ze (.type "object") = some true) (z8n : PySem.W.mroIn K ze (.ref ze) = some true) (z8k : PySem.W.typeIn K (.ref ze) = some (.type "type"))
    (zob : PySem.W.plainGet K ze Str.empty = true) (zos : PySem.W.hasDictIn K ze = true) (zok : PySem.W.plainOver K ze = true) (zol : PySem.W.findIn K (.ref ze) "__setattr__" = some (some (.builtin "object.__setattr__"))) (zo7 : PySem.W.makesIn K ze = true) (zor : PySem.W.keepIn K (.ref ze) = true) (zow : PySem.W.findIn K (.ref ze) "__class__" = some (some (.builtin "object.__class__")))
    (ziu : PySem.W.findIn K (.ref ze) "share" = some none)
    (ze1 : PySem.W.findIn K (.ref ze) "by_line" = some none)
    (zi0 : PySem.W.findIn K (.ref ze) "marks" = some none)
    (zkk : PySem.W.findIn K (.ref ze) "__init__" = some (some (.ref z30))) (zj8 : PySem.W.isFn K (.ref z30) = true) (zj9 : K.lookup z30 = some ⟨zij, zio, .func (PySem.W.fnOf "__init__" "Share.__init__" (defArgs s_Share_init) (defBody s_Share_init) (defScope s_Share_init) (.ref z1t) z2j z2f z2d z2e z1g z2c), zi6⟩) (zjp : PySem.W.codeIn K z1g "Share.__init__" = true) (zkh : PySem.W.keepIn K (.ref z30) = true) (z8c : K.lookup z1t = some ⟨zgt, zgi, .seq #[.bool false, .none] zi1, zia⟩)
    (zec : PySem.W.nsIn K mainGlobals "Cheapest" = some (some (.ref za)))
    (z42 : PySem.W.mroIn K za (.type "object") = some true) (z45 : PySem.W.mroIn K za (.ref za) = some true) (z4t : PySem.W.typeIn K (.ref za) = some (.type "type"))
    (zl3 : PySem.W.plainGet K za Str.empty = true) (zm9 : PySem.W.hasDictIn K za = true) (zll : PySem.W.plainOver K za = true) (zlb : PySem.W.findIn K (.ref za) "__setattr__" = some (some (.builtin "object.__setattr__"))) (zm3 : PySem.W.makesIn K za = true) (zl4 : PySem.W.keepIn K (.ref za) = true) (zlp : PySem.W.findIn K (.ref za) "__class__" = some (some (.builtin "object.__class__")))
    (ze8 : PySem.W.findIn K (.ref za) "many" = some none)
    (zbo : PySem.W.findIn K (.ref za) "marks" = some none)
    (zd2 : PySem.W.findIn K (.ref za) "__init__" = some (some (.ref z1h))) (zd9 : PySem.W.isFn K (.ref z1h) = true) (zcd : K.lookup z1h = some ⟨zam, zc5, .func (PySem.W.fnOf "__init__" "Cheapest.__init__" (defArgs s_Cheapest_init) (defBody s_Cheapest_init) (defScope s_Cheapest_init) (.ref z1a) z29 z1z z23 z20 zy z1v), zbe⟩) (zc9 : PySem.W.codeIn K zy "Cheapest.__init__" = true) (zdk : PySem.W.keepIn K (.ref z1h) = true) (z8l : K.lookup z1a = some ⟨zb2, zbn, .seq #[.none] zbr, zb1⟩)
    (zkt : PySem.W.nsIn K mainGlobals "Bundle" = some (some (.ref zc)))
    (z7v : PySem.W.mroIn K zc (.type "object") = some true) (z7m : PySem.W.mroIn K zc (.ref zc) = some true) (z7u : PySem.W.typeIn K (.ref zc) = some (.type "type"))
    (znm : PySem.W.plainGet K zc Str.empty = true) (zo2 : PySem.W.hasDictIn K zc = true) (znv : PySem.W.plainOver K zc = true) (znt : PySem.W.findIn K (.ref zc) "__setattr__" = some (some (.builtin "object.__setattr__"))) (zns : PySem.W.makesIn K zc = true) (znn : PySem.W.keepIn K (.ref zc) = true) (znw : PySem.W.findIn K (.ref zc) "__class__" = some (some (.builtin "object.__class__")))
    (zhu : PySem.W.findIn K (.ref zc) "many" = some none)
    (zfz : PySem.W.findIn K (.ref zc) "price" = some none)
    (zfo : PySem.W.findIn K (.ref zc) "marks" = some none)
    (zhd : PySem.W.findIn K (.ref zc) "__init__" = some (some (.ref z2h))) (zgv : PySem.W.isFn K (.ref z2h) = true) (ziq : K.lookup z2h = some ⟨zfy, zew, .func (PySem.W.fnOf "__init__" "Bundle.__init__" (defArgs s_Bundle_init) (defBody s_Bundle_init) (defScope s_Bundle_init) (.ref z2i) z3c z39 z3d z36 z1s z3a), zg6⟩) (zhs : PySem.W.codeIn K z1s "Bundle.__init__" = true) (zii : PySem.W.keepIn K (.ref z2h) = true) (z96 : K.lookup z2i = some ⟨zeg, zg2, .seq #[.none] zfq, zet⟩)
    (zee : PySem.W.nsIn K mainGlobals "Carriage" = some (some (.ref zb)))
    (z4m : PySem.W.mroIn K zb (.type "object") = some true) (z3z : PySem.W.mroIn K zb (.ref zb) = some true) (z4d : PySem.W.typeIn K (.ref zb) = some (.type "type"))
    (zm6 : PySem.W.plainGet K zb Str.empty = true) (zl0 : PySem.W.hasDictIn K zb = true) (zlu : PySem.W.plainOver K zb = true) (zl6 : PySem.W.findIn K (.ref zb) "__setattr__" = some (some (.builtin "object.__setattr__"))) (zm0 : PySem.W.makesIn K zb = true) (zlx : PySem.W.keepIn K (.ref zb) = true) (zlk : PySem.W.findIn K (.ref zb) "__class__" = some (some (.builtin "object.__class__")))
    (zbu : PySem.W.findIn K (.ref zb) "marks" = some none)
    (zdt : PySem.W.findIn K (.ref zb) "__init__" = some (some (.ref z1f))) (zdy : PySem.W.isFn K (.ref z1f) = true) (ze7 : K.lookup z1f = some ⟨zax, zc8, .func (PySem.W.fnOf "__init__" "Carriage.__init__" (defArgs s_Carriage_init) (defBody s_Carriage_init) (defScope s_Carriage_init) (.ref z1d) z1y z2a z28 z1u zx z22), zbs⟩) (zcw : PySem.W.codeIn K zx "Carriage.__init__" = true) (zci : PySem.W.keepIn K (.ref z1f) = true) (z8m : K.lookup z1d = some ⟨zbc, zap, .seq #[.none] zbz, zbx⟩)
    (zq7 : PySem.W.nsIn K mainGlobals "Line" = some (some (.ref zu)))
    (zpq : PySem.W.mroIn K zu (.type "object") = some true) (zp1 : PySem.W.mroIn K zu (.ref zu) = some true) (zps : PySem.W.typeIn K (.ref zu) = some (.type "type"))
    (zpi : PySem.W.plainGet K zu Str.empty = true) (zpl : PySem.W.hasDictIn K zu = true) (zpb : PySem.W.plainOver K zu = true) (zp8 : PySem.W.findIn K (.ref zu) "__setattr__" = some (some (.builtin "object.__setattr__"))) (zp6 : PySem.W.makesIn K zu = true) (zoz : PySem.W.keepIn K (.ref zu) = true) (zpx : PySem.W.findIn K (.ref zu) "__class__" = some (some (.builtin "object.__class__")))
    (zky : PySem.W.findIn K (.ref zu) "kind" = some none)
    (zjw : PySem.W.findIn K (.ref zu) "price" = some none)
    (zla : PySem.W.findIn K (.ref zu) "many" = some none)
    (zfn : PySem.W.findIn K (.ref zu) "special" = some none)
    (zli : PySem.W.findIn K (.ref zu) "__init__" = some (some (.ref z4b))) (zkz : PySem.W.isFn K (.ref z4b) = true) (zmd : K.lookup z4b = some ⟨zjh, zjc, .func (PySem.W.fnOf "__init__" "Line.__init__" (defArgs s_Line_init) (defBody s_Line_init) (defScope s_Line_init) (.ref z4r) z5b z5c z5g z58 z2z z59), zj0⟩) (zln : PySem.W.codeIn K z2z "Line.__init__" = true) (zmg : PySem.W.keepIn K (.ref z4b) = true) (zc6 : K.lookup z4r = some ⟨zk7, zka, .seq #[.none] zk4, zjf⟩)
    (zoj : PySem.W.nsIn K mainGlobals "Basket" = some (some (.ref zj)))
    (znr : PySem.W.mroIn K zj (.type "object") = some true) (znj : PySem.W.mroIn K zj (.ref zj) = some true) (znu : PySem.W.typeIn K (.ref zj) = some (.type "type"))
    (zny : PySem.W.plainGet K zj Str.empty = true) (znz : PySem.W.hasDictIn K zj = true) (zno : PySem.W.plainOver K zj = true) (zo3 : PySem.W.findIn K (.ref zj) "__setattr__" = some (some (.builtin "object.__setattr__"))) (znh : PySem.W.makesIn K zj = true) (znx : PySem.W.keepIn K (.ref zj) = true) (zo4 : PySem.W.findIn K (.ref zj) "__class__" = some (some (.builtin "object.__class__")))
    (zfl : PySem.W.findIn K (.ref zj) "lines" = some none)
    (za9 : PySem.W.findIn K (.ref zj) "carriage" = some none)
    (ze6 : PySem.W.findIn K (.ref zj) "member" = some none)
    (zhk : PySem.W.findIn K (.ref zj) "__init__" = some (some (.ref z2g))) (zhx : PySem.W.isFn K (.ref z2g) = true) (zgm : K.lookup z2g = some ⟨zex, zfb, .func (PySem.W.fnOf "__init__" "Basket.__init__" (defArgs s_Basket_init) (defBody s_Basket_init) (defScope s_Basket_init) (.ref z1e) z1r z1p z1q z1n zw z1m), zf2⟩) (zhi : PySem.W.codeIn K zw "Basket.__init__" = true) (zi9 : PySem.W.keepIn K (.ref z2g) = true) (z7i : K.lookup z1e = some ⟨zfc, zg1, .seq #[.int 0 z3x, .bool false] zeu, zf6⟩)
    (zmt : PySem.W.nsIn K mainGlobals "Standing" = some (some (.ref zd)))
    (zl9 : PySem.W.mroIn K zd (.type "object") = some true) (zl8 : PySem.W.mroIn K zd (.ref zd) = some true) (zlf : PySem.W.typeIn K (.ref zd) = some (.type "type"))
    (zmi : PySem.W.plainGet K zd Str.empty = true) (zlq : PySem.W.hasDictIn K zd = true) (zmm : PySem.W.plainOver K zd = true) (zmo : PySem.W.findIn K (.ref zd) "__setattr__" = some (some (.builtin "object.__setattr__"))) (zkv : PySem.W.makesIn K zd = true) (zlg : PySem.W.keepIn K (.ref zd) = true) (zm7 : PySem.W.findIn K (.ref zd) "__class__" = some (some (.builtin "object.__class__")))
    (z9z : PySem.W.findIn K (.ref zd) "owners" = some none)
    (z9r : PySem.W.findIn K (.ref zd) "prices" = some none)
    (z95 : PySem.W.findIn K (.ref zd) "carriage" = some none)
    (zad : PySem.W.findIn K (.ref zd) "marked" = some none)
    (zdm : PySem.W.findIn K (.ref zd) "__init__" = some (some (.ref z1c))) (zdf : PySem.W.isFn K (.ref z1c) = true) (zcn : K.lookup z1c = some ⟨zc3, zb0, .func (PySem.W.fnOf "__init__" "Standing.__init__" (defArgs s_Standing_init) (defBody s_Standing_init) (defScope s_Standing_init) .none z4u z44 z43 z4p z21 z4q), zbj⟩) (zeb : PySem.W.codeIn K z21 "Standing.__init__" = true) (ze4 : PySem.W.keepIn K (.ref z1c) = true)
    (ze5 : PySem.W.readsIn K zf (.type "type") = true) (zco : PySem.W.specialIn K (.ref zf) "__getattribute__" = some (some (.builtin "type.__getattribute__"))) (zdn : PySem.W.findCls K (.ref zf) (.type "type") "__init__" = some (.val (.ref zv)))
    (z8y : PySem.W.mroIn K zr (.ref zb) = some false)
    (z7z : PySem.W.mroIn K ze (.ref zb) = some false)
    (z5m : PySem.W.mroIn K za (.ref zb) = some false)
    (z6t : PySem.W.mroIn K zc (.ref zb) = some false)
    (zby : PySem.W.mroIn K ze (.ref zr) = some false)
    (z8x : PySem.W.mroIn K za (.ref zr) = some false)
    (z9i : PySem.W.mroIn K zc (.ref zr) = some false)
    (z8z : PySem.W.mroIn K zb (.ref zr) = some false)
    (zb3 : PySem.W.mroIn K zr (.ref ze) = some false)
    (z7y : PySem.W.mroIn K za (.ref ze) = some false)
    (z8v : PySem.W.mroIn K zc (.ref ze) = some false)
    (z7x : PySem.W.mroIn K zb (.ref ze) = some false)
    (z8w : PySem.W.mroIn K zr (.ref za) = some false)
    (z80 : PySem.W.mroIn K ze (.ref za) = some false)
    (z7n : PySem.W.mroIn K zc (.ref za) = some false)
    (z5l : PySem.W.mroIn K zb (.ref za) = some false)
    (z9h : PySem.W.mroIn K zr (.ref zc) = some false)
    (z8u : PySem.W.mroIn K ze (.ref zc) = some false)
    (z6x : PySem.W.mroIn K za (.ref zc) = some false)
    (z6w : PySem.W.mroIn K zb (.ref zc) = some false)
    (z9n : zs = .ref zt)
    (z9v : K.lookup zt = some ⟨z6j, z9e, .fields zg, z9d⟩)
    (z9s : z6j = .type "code")
    (zaf : zg[11]? = some (.ref zi))
    (zae : zg.getD 11 .none = .ref zi)
    (zab : zg.getD 18 .none = .str z7k z77)
    (za0 : zg.getD 7 .none = .int z7w z7h)
    (za5 : zg.getD 9 .none = .bool z70)
    (zac : zg.getD 10 .none = .int z7o z71)
    (z9w : zt ≠ zi)
    (za6 : K.lookup zi = none)
    (za8 : zi ∈ ts)
    (z1 : PySem.W.nsIn K mainGlobals "range" = some none)
    (z2 : PySem.W.nsIn K mainGlobals "len" = some none)
    (z3 : PySem.W.nsIn K mainGlobals "min" = some none)
    (z4 : PySem.W.nsIn K mainGlobals "max" = some none)
    (z5 : PySem.W.nsIn K mainGlobals "isinstance" = some none)
    (z6 : PySem.W.nsIn K mainGlobals "bool" = some none)
    (z7 : PySem.W.nsIn K mainGlobals "int" = some none)
    (z8 : PySem.W.nsIn K mainGlobals "list" = some none)
    (z9 : PySem.W.nsIn K mainGlobals "sum" = some none)
    (z10 : PySem.W.nsIn K mainGlobals "enumerate" = some none)
    (z11 : PySem.W.nsIn K mainGlobals "any" = some none)
    (z12 : PySem.W.nsIn K mainGlobals "all" = some none)
    (z13 : PySem.W.nsIn K mainGlobals "reversed" = some none)
    (z14 : PySem.W.nsIn K mainGlobals "zip" = some none)
    (z15 : PySem.W.nsIn K mainGlobals "abs" = some none)
    (z16 : PySem.W.nsIn K mainGlobals "sorted" = some none)
    (z17 : PySem.W.nsIn K mainGlobals "tuple" = some none)
    (z18 : PySem.W.nsIn K mainGlobals "str" = some none)
    : ∃ (fd : FuncData) (tP c0 : Addr), tP ∈ ts ∧ CodeK K c0 tP ∧ K.lookup tP = none ∧ (∀ (s : Shared) (v : Value), BindsTo s fd ⟨[v], []⟩ [("_law_script", v)]) ∧ ∀ base : Heap, K.In base → base.Ns mainGlobals mg → BltM mg base → FnOk l.prog w K mg base CX0 7 fa fd ["_law_script"] (spLawT K tP) := by
  have e := hfa.symm.trans (PySem.W.mg_of X G zq5)
  have hf : zhh = fa := by
    injection e with e
    injection e with e
    exact e.symm
  subst hf
  have B : TxtB mg := ⟨PySem.W.mg_none_of X G z1, PySem.W.mg_none_of X G z2, PySem.W.mg_none_of X G z3, PySem.W.mg_none_of X G z4, PySem.W.mg_none_of X G z5, PySem.W.mg_none_of X G z6, PySem.W.mg_none_of X G z7, PySem.W.mg_none_of X G z8, PySem.W.mg_none_of X G z9, PySem.W.mg_none_of X G z10, PySem.W.mg_none_of X G z11, PySem.W.mg_none_of X G z12, PySem.W.mg_none_of X G z13, PySem.W.mg_none_of X G z14, PySem.W.mg_none_of X G z15, PySem.W.mg_none_of X G z16, PySem.W.mg_none_of X G z17, PySem.W.mg_none_of X G z18⟩
  have zpf := fund_mk (x := "dealt") (qual := "dealt") (st := s_dealt) zpn zpm zpu
  have zpr : Binds K (PySem.W.fnOf "dealt" "dealt" (defArgs s_dealt) (defBody s_dealt) (defScope s_dealt) .none zcr ze3 zd5 zcv z98 zcs) ["cut", "weights"] [] := Binds.all fun us hl => match us, hl with | [_, _], _ => rfl
  have zpt := fund_mk (x := "under") (qual := "under") (st := s_under) zq0 zpk zpa
  have zq4 : Binds K (PySem.W.fnOf "under" "under" (defArgs s_under) (defBody s_under) (defScope s_under) .none zcy zd3 zdh zce z99 zcx) ["parents", "one", "other"] [] := Binds.all fun us hl => match us, hl with | [_, _, _], _ => rfl
  have zbw := fund_mk (x := "price_of_piece") (qual := "price_of_piece") (st := s_price_of_piece) zan zbv zbh
  have zbd : Binds K (PySem.W.fnOf "price_of_piece" "price_of_piece" (defArgs s_price_of_piece) (defBody s_price_of_piece) (defScope s_price_of_piece) .none z3r z3i z3f z3k z1j z3q) ["line", "member"] [] := Binds.all fun us hl => match us, hl with | [_, _], _ => rfl
  have zq3 := fund_mk (x := "about") (qual := "about") (st := s_about) zp3 zpy zq1
  have zpc : Binds K (PySem.W.fnOf "about" "about" (defArgs s_about) (defBody s_about) (defScope s_about) .none zd8 zcc zd6 ze9 z9a zdz) ["voucher", "parents", "basket", "standing"] [] := Binds.all fun us hl => match us, hl with | [_, _, _, _], _ => rfl
  have zql := fund_mk (x := "fits") (qual := "fits") (st := s_fits) zqg zqs zqp
  have zqk : Binds K (PySem.W.fnOf "fits" "fits" (defArgs s_fits) (defBody s_fits) (defScope s_fits) .none zhw zhe zhl zim zaz zi5) ["marks", "parents", "kind", "marked"] [] := Binds.all fun us hl => match us, hl with | [_, _, _, _], _ => rfl
  have zqd := fund_mk (x := "cuts") (qual := "cuts") (st := s_cuts) zqr zqm zqi
  have zqb : Binds K (PySem.W.fnOf "cuts" "cuts" (defArgs s_cuts) (defBody s_cuts) (defScope s_cuts) .none zik zgf zhz zhj zbt zig) ["voucher", "parents", "basket", "standing"] [] := Binds.all fun us hl => match us, hl with | [_, _, _, _], _ => rfl
  have zpj := fund_mk (x := "after") (qual := "after") (st := s_after) zp7 zpw zp5
  have zp9 : Binds K (PySem.W.fnOf "after" "after" (defArgs s_after) (defBody s_after) (defScope s_after) .none zds zcm ze2 zdd z9b zdu) ["voucher", "parents", "basket", "standing"] [] := Binds.all fun us hl => match us, hl with | [_, _, _, _], _ => rfl
  have zc0 := fund_mk (x := "cuts_of_pieces") (qual := "cuts_of_pieces") (st := s_cuts_of_pieces) zb4 zaq zbb
  have zat : Binds K (PySem.W.fnOf "cuts_of_pieces" "cuts_of_pieces" (defArgs s_cuts_of_pieces) (defBody s_cuts_of_pieces) (defScope s_cuts_of_pieces) .none z3e z3g z3t z3p z1l z3n) ["voucher", "parents", "basket", "standing"] [] := Binds.all fun us hl => match us, hl with | [_, _, _, _], _ => rfl
  have za7 := fund_mk (x := "cut_of_carriage") (qual := "cut_of_carriage") (st := s_cut_of_carriage) z9p z9j zaa
  have z9o : Binds K (PySem.W.fnOf "cut_of_carriage" "cut_of_carriage" (defArgs s_cut_of_carriage) (defBody s_cut_of_carriage) (defScope s_cut_of_carriage) .none z2v z2w z2x z2t z19 z2u) ["voucher", "standing"] [] := Binds.all fun us hl => match us, hl with | [_, _], _ => rfl
  have zi8 := fund_mk (x := "wanted_cuts") (qual := "wanted_cuts") (st := s_wanted_cuts) zie zh6 zh0
  have zir : Binds K (PySem.W.fnOf "wanted_cuts" "wanted_cuts" (defArgs s_wanted_cuts) (defBody s_wanted_cuts) (defScope s_wanted_cuts) .none z6d z66 z5r z64 z31 z60) ["voucher", "standing", "pieces"] [] := Binds.all fun us hl => match us, hl with | [_, _, _], _ => rfl
  have zao := fund_mk (x := "parted_by_line") (qual := "parted_by_line") (st := s_parted_by_line) zal zb7 zaj
  have zbg : Binds K (PySem.W.fnOf "parted_by_line" "parted_by_line" (defArgs s_parted_by_line) (defBody s_parted_by_line) (defScope s_parted_by_line) .none z3l z3h z3w z3o z1i z3m) ["standing", "pieces"] [] := Binds.all fun us hl => match us, hl with | [_, _], _ => rfl
  have zbf := fund_mk (x := "falling_groups") (qual := "falling_groups") (st := s_falling_groups) zb5 zav zb8
  have zbm : Binds K (PySem.W.fnOf "falling_groups" "falling_groups" (defArgs s_falling_groups) (defBody s_falling_groups) (defScope s_falling_groups) .none z3u z3s z3j z3y zs z3v) ["standing", "pieces", "many"] [] := Binds.all fun us hl => match us, hl with | [_, _, _], _ => rfl
  have zda := fund_mk (x := "marked_behind") (qual := "marked_behind") (st := s_marked_behind) zck zcq zdo
  have zcl : Binds K (PySem.W.fnOf "marked_behind" "marked_behind" (defArgs s_marked_behind) (defBody s_marked_behind) (defScope s_marked_behind) .none z40 z41 z4i z4a z2b z4n) ["voucher", "standing", "piece_cuts"] [] := Binds.all fun us hl => match us, hl with | [_, _, _], _ => rfl
  have zlh := fund_mk (x := "prices_of") (qual := "prices_of") (st := s_prices_of) zmn zlj zmb
  have zle : Binds K (PySem.W.fnOf "prices_of" "prices_of" (defArgs s_prices_of) (defBody s_prices_of) (defScope s_prices_of) .none z85 z8i z8f z86 z5k z84) ["standing", "pieces"] [] := Binds.all fun us hl => match us, hl with | [_, _], _ => rfl
  have zcb := fund_mk (x := "sum_of_prices") (qual := "sum_of_prices") (st := s_sum_of_prices) zcg zd4 zcj
  have zct : Binds K (PySem.W.fnOf "sum_of_prices" "sum_of_prices" (defArgs s_sum_of_prices) (defBody s_sum_of_prices) (defScope s_sum_of_prices) .none z4s z4o z4e z4f z27 z48) ["standing", "pieces"] [] := Binds.all fun us hl => match us, hl with | [_, _], _ => rfl
  have znp := fund_mk (x := "at_most") (qual := "at_most") (st := s_at_most) zo0 znl zo1
  have znk : Binds K (PySem.W.fnOf "at_most" "at_most" (defArgs s_at_most) (defBody s_at_most) (defScope s_at_most) .none z93 z92 z91 z97 z82 z94) ["most", "number"] [] := Binds.all fun us hl => match us, hl with | [_, _], _ => rfl
  have zjl := fund_mk (x := "_law_whole") (qual := "_law_whole") (st := s__law_whole) zj3 zkb zj6
  have zjd : Binds K (PySem.W.fnOf "_law_whole" "_law_whole" (defArgs s__law_whole) (defBody s__law_whole) (defScope s__law_whole) .none z76 z6z z74 z7b z49 z7e) ["_law_found"] [] := Binds.all fun us hl => match us, hl with | [_], _ => rfl
  have znb := fund_mk (x := "_law_mix") (qual := "_law_mix") (st := s__law_mix) zmq znc zmv
  have zn8 : Binds K (PySem.W.fnOf "_law_mix" "_law_mix" (defArgs s__law_mix) (defBody s__law_mix) (defScope s__law_mix) .none z8s z8t z8r z8q z6o z8o) ["_law_cell", "_law_factor", "_law_prime"] [] := Binds.all fun us hl => match us, hl with | [_, _, _], _ => rfl
  have zm1 := fund_mk (x := "_law_coin") (qual := "_law_coin") (st := s__law_coin) zmc zm5 zly
  have zlc : Binds K (PySem.W.fnOf "_law_coin" "_law_coin" (defArgs s__law_coin) (defBody s__law_coin) (defScope s__law_coin) .none z8e z8a z8h z8b z5f z89) ["_law_cell"] [] := Binds.all fun us hl => match us, hl with | [_], _ => rfl
  have zf1 := fund_mk (x := "_law_parents") (qual := "_law_parents") (st := s__law_parents) zfd zej zfk
  have zg4 : Binds K (PySem.W.fnOf "_law_parents" "_law_parents" (defArgs s__law_parents) (defBody s__law_parents) (defScope s__law_parents) .none z51 z4y z57 z4z z2o z53) ["_law_script"] [] := Binds.all fun us hl => match us, hl with | [_], _ => rfl
  have zix := fund_mk (x := "_law_basket") (qual := "_law_basket") (st := s__law_basket) zgn zha zhp
  have zge : Binds K (PySem.W.fnOf "_law_basket" "_law_basket" (defArgs s__law_basket) (defBody s__law_basket) (defScope s__law_basket) .none z6a z6i z5u z62 z32 z5y) ["_law_script", "_law_kinds"] [] := Binds.all fun us hl => match us, hl with | [_, _], _ => rfl
  have zk0 := fund_mk (x := "_law_under") (qual := "_law_under") (st := s__law_under) zkl zjq zjm
  have zje : Binds K (PySem.W.fnOf "_law_under" "_law_under" (defArgs s__law_under) (defBody s__law_under) (defScope s__law_under) .none z7p z7r z7s z75 z4l z6u) ["_law_parents_here", "_law_one", "_law_other"] [] := Binds.all fun us hl => match us, hl with | [_, _, _], _ => rfl
  have zjs := fund_mk (x := "_law_about") (qual := "_law_about") (st := s__law_about) zk5 zki zkm
  have zko : Binds K (PySem.W.fnOf "_law_about" "_law_about" (defArgs s__law_about) (defBody s__law_about) (defScope s__law_about) .none z72 z7f z79 z78 z4g z7a) ["_law_parents_here", "_law_basket_here", "_law_standing", "_law_kind", "_law_lone"] [] := Binds.all fun us hl => match us, hl with | [_, _, _, _, _], _ => rfl
  have zj4 := fund_mk (x := "_law_dealt") (qual := "_law_dealt") (st := s__law_dealt) zkg zke zkj
  have zk9 : Binds K (PySem.W.fnOf "_law_dealt" "_law_dealt" (defArgs s__law_dealt) (defBody s__law_dealt) (defScope s__law_dealt) .none z7c z7t z6v z6y z4h z7g) ["_law_cut", "_law_weights"] [] := Binds.all fun us hl => match us, hl with | [_, _], _ => rfl
  have zgj := fund_mk (x := "_law_cut_is") (qual := "_law_cut_is") (st := s__law_cut_is) zh7 zib zh1
  have zil : Binds K (PySem.W.fnOf "_law_cut_is" "_law_cut_is" (defArgs s__law_cut_is) (defBody s__law_cut_is) (defScope s__law_cut_is) .none z5w z5z z5p z6e z37 z5x) ["_law_found", "_law_due", "_law_fee"] [] := Binds.all fun us hl => match us, hl with | [_, _, _], _ => rfl
  have zgc := fund_mk (x := "_law_spread") (qual := "_law_spread") (st := s__law_spread) zis zhn zho
  have zhc : Binds K (PySem.W.fnOf "_law_spread" "_law_spread" (defArgs s__law_spread) (defBody s__law_spread) (defScope s__law_spread) .none z6b z68 z67 z6g z3b z6c) ["_law_standing", "_law_pieces", "_law_parts"] [] := Binds.all fun us hl => match us, hl with | [_, _, _], _ => rfl
  have zkr := fund_mk (x := "_law_right") (qual := "_law_right") (st := s__law_right) zjt zjn ziy
  have zja : Binds K (PySem.W.fnOf "_law_right" "_law_right" (defArgs s__law_right) (defBody s__law_right) (defScope s__law_right) .none z7j z7l z7q z7d z4j z73) ["_law_voucher", "_law_parents_here", "_law_basket_here", "_law_standing", "_law_due", "_law_fee"] [] := Binds.all fun us hl => match us, hl with | [_, _, _, _, _, _], _ => rfl
  have zht := fund_mk (x := "_law_groups") (qual := "_law_groups") (st := s__law_groups) zga ziw zin
  have zgd : Binds K (PySem.W.fnOf "_law_groups" "_law_groups" (defArgs s__law_groups) (defBody s__law_groups) (defScope s__law_groups) .none z6h z5t z69 z5s z38 z61) ["_law_prices", "_law_many"] [] := Binds.all fun us hl => match us, hl with | [_, _], _ => rfl
  have zgr := fund_mk (x := "_law_wanted") (qual := "_law_wanted") (st := s__law_wanted) zh9 zgz zif
  have zgu : Binds K (PySem.W.fnOf "_law_wanted" "_law_wanted" (defArgs s__law_wanted) (defBody s__law_wanted) (defScope s__law_wanted) .none z5q z6f z63 z5v z34 z65) ["_law_sort", "_law_a", "_law_b", "_law_standing", "_law_pieces"] [] := Binds.all fun us hl => match us, hl with | [_, _, _, _, _], _ => rfl
  have zf3 := fund_mk (x := "_law_sort_by") (qual := "_law_sort_by") (st := s__law_sort_by) zeo zfa zfp
  have zf0 : Binds K (PySem.W.fnOf "_law_sort_by" "_law_sort_by" (defArgs s__law_sort_by) (defBody s__law_sort_by) (defScope s__law_sort_by) .none z54 z52 z56 z50 z2n z55) ["_law_cell"] [] := Binds.all fun us hl => match us, hl with | [_], _ => rfl
  have zlz := fund_mk (x := "_law_made") (qual := "_law_made") (st := s__law_made) zls zml zlv
  have zl2 : Binds K (PySem.W.fnOf "_law_made" "_law_made" (defArgs s__law_made) (defBody s__law_made) (defScope s__law_made) .none z83 z88 z8g z8d z5e z87) ["_law_sort", "_law_a", "_law_b", "_law_marks"] [] := Binds.all fun us hl => match us, hl with | [_, _, _, _], _ => rfl
  have zqu := fund_mk (x := "law") (qual := "law") (st := s_law) zqv zqx zqw
  have zqt : Binds K (PySem.W.fnOf "law" "law" (defArgs s_law) (defBody s_law) (defScope s_law) .none zmj zm2 zl1 zlw zg7 zm8) ["_law_script"] [] := Binds.all fun us hl => match us, hl with | [_], _ => rfl
  have zj5 := fund_mk (x := "__init__") (qual := "Marks.__init__") (st := s_Marks_init) zjo zkn zjv
  have zk2 : Binds K (PySem.W.fnOf "__init__" "Marks.__init__" (defArgs s_Marks_init) (defBody s_Marks_init) (defScope s_Marks_init) (.ref zl) zn zo zq zp zh zm) ["self", "kind", "needs", "most", "member", "once", "lone"] [] := fun s us KX hl => match us, hl with | [_, _, _, _, _, _, _], _ => BindsTo.of_defaults rfl (KX _ _ zz) rfl rfl rfl
  have zen : Binds K (PySem.W.fnOf "__init__" "Marks.__init__" (defArgs s_Marks_init) (defBody s_Marks_init) (defScope s_Marks_init) (.ref zl) zn zo zq zp zh zm) ["self", "kind", "needs", "most", "member", "once", "lone"] [.bool false] := fun s us KX hl => by
    have hl' : us.length = 6 := by simpa using hl
    match us, hl' with
    | [_, _, _, _, _, _], _ => exact BindsTo.of_defaults rfl (KX _ _ zz) rfl rfl rfl
  have zek : Binds K (PySem.W.fnOf "__init__" "Marks.__init__" (defArgs s_Marks_init) (defBody s_Marks_init) (defScope s_Marks_init) (.ref zl) zn zo zq zp zh zm) ["self", "kind", "needs", "most", "member", "once", "lone"] [.bool false, .bool false] := fun s us KX hl => by
    have hl' : us.length = 5 := by simpa using hl
    match us, hl' with
    | [_, _, _, _, _], _ => exact BindsTo.of_defaults rfl (KX _ _ zz) rfl rfl rfl
  have zeq : Binds K (PySem.W.fnOf "__init__" "Marks.__init__" (defArgs s_Marks_init) (defBody s_Marks_init) (defScope s_Marks_init) (.ref zl) zn zo zq zp zh zm) ["self", "kind", "needs", "most", "member", "once", "lone"] [.bool false, .bool false, .bool false] := fun s us KX hl => by
    have hl' : us.length = 4 := by simpa using hl
    match us, hl' with
    | [_, _, _, _], _ => exact BindsTo.of_defaults rfl (KX _ _ zz) rfl rfl rfl
  have zfx : Binds K (PySem.W.fnOf "__init__" "Marks.__init__" (defArgs s_Marks_init) (defBody s_Marks_init) (defScope s_Marks_init) (.ref zl) zn zo zq zp zh zm) ["self", "kind", "needs", "most", "member", "once", "lone"] [.none, .bool false, .bool false, .bool false] := fun s us KX hl => by
    have hl' : us.length = 3 := by simpa using hl
    match us, hl' with
    | [_, _, _], _ => exact BindsTo.of_defaults rfl (KX _ _ zz) rfl rfl rfl
  have zg0 : Binds K (PySem.W.fnOf "__init__" "Marks.__init__" (defArgs s_Marks_init) (defBody s_Marks_init) (defScope s_Marks_init) (.ref zl) zn zo zq zp zh zm) ["self", "kind", "needs", "most", "member", "once", "lone"] [.int 0 z24, .none, .bool false, .bool false, .bool false] := fun s us KX hl => by
    have hl' : us.length = 2 := by simpa using hl
    match us, hl' with
    | [_, _], _ => exact BindsTo.of_defaults rfl (KX _ _ zz) rfl rfl rfl
  have zff : Binds K (PySem.W.fnOf "__init__" "Marks.__init__" (defArgs s_Marks_init) (defBody s_Marks_init) (defScope s_Marks_init) (.ref zl) zn zo zq zp zh zm) ["self", "kind", "needs", "most", "member", "once", "lone"] [.none, .int 0 z24, .none, .bool false, .bool false, .bool false] := fun s us KX hl => by
    have hl' : us.length = 1 := by simpa using hl
    match us, hl' with
    | [_], _ => exact BindsTo.of_defaults rfl (KX _ _ zz) rfl rfl rfl
  have zfr := fund_mk (x := "__init__") (qual := "Voucher.__init__") (st := s_Voucher_init) zep zfu zeh
  have zes : Binds K (PySem.W.fnOf "__init__" "Voucher.__init__" (defArgs s_Voucher_init) (defBody s_Voucher_init) (defScope s_Voucher_init) (.ref z1o) z2r z2l z2p z2k z1b z2q) ["self", "marks"] [] := fun s us KX hl => match us, hl with | [_, _], _ => BindsTo.of_defaults rfl (KX _ _ z90) rfl rfl rfl
  have zau : Binds K (PySem.W.fnOf "__init__" "Voucher.__init__" (defArgs s_Voucher_init) (defBody s_Voucher_init) (defScope s_Voucher_init) (.ref z1o) z2r z2l z2p z2k z1b z2q) ["self", "marks"] [.none] := fun s us KX hl => by
    have hl' : us.length = 1 := by simpa using hl
    match us, hl' with
    | [_], _ => exact BindsTo.of_defaults rfl (KX _ _ z90) rfl rfl rfl
  have zmp := fund_mk (x := "__init__") (qual := "Off.__init__") (st := s_Off_init) zmy zn5 zmr
  have zmx : Binds K (PySem.W.fnOf "__init__" "Off.__init__" (defArgs s_Off_init) (defBody s_Off_init) (defScope s_Off_init) (.ref z5n) z6m z6p z6r z6s z4w z6k) ["self", "amount", "marks"] [] := fun s us KX hl => match us, hl with | [_, _, _], _ => BindsTo.of_defaults rfl (KX _ _ zed) rfl rfl rfl
  have zj2 : Binds K (PySem.W.fnOf "__init__" "Off.__init__" (defArgs s_Off_init) (defBody s_Off_init) (defScope s_Off_init) (.ref z5n) z6m z6p z6r z6s z4w z6k) ["self", "amount", "marks"] [.none] := fun s us KX hl => by
    have hl' : us.length = 2 := by simpa using hl
    match us, hl' with
    | [_, _], _ => exact BindsTo.of_defaults rfl (KX _ _ zed) rfl rfl rfl
  have zjr := fund_mk (x := "__init__") (qual := "Share.__init__") (st := s_Share_init) zj9 zjp zkh
  have zji : Binds K (PySem.W.fnOf "__init__" "Share.__init__" (defArgs s_Share_init) (defBody s_Share_init) (defScope s_Share_init) (.ref z1t) z2j z2f z2d z2e z1g z2c) ["self", "share", "by_line", "marks"] [] := fun s us KX hl => match us, hl with | [_, _, _, _], _ => BindsTo.of_defaults rfl (KX _ _ z8c) rfl rfl rfl
  have zfs : Binds K (PySem.W.fnOf "__init__" "Share.__init__" (defArgs s_Share_init) (defBody s_Share_init) (defScope s_Share_init) (.ref z1t) z2j z2f z2d z2e z1g z2c) ["self", "share", "by_line", "marks"] [.none] := fun s us KX hl => by
    have hl' : us.length = 3 := by simpa using hl
    match us, hl' with
    | [_, _, _], _ => exact BindsTo.of_defaults rfl (KX _ _ z8c) rfl rfl rfl
  have zei : Binds K (PySem.W.fnOf "__init__" "Share.__init__" (defArgs s_Share_init) (defBody s_Share_init) (defScope s_Share_init) (.ref z1t) z2j z2f z2d z2e z1g z2c) ["self", "share", "by_line", "marks"] [.bool false, .none] := fun s us KX hl => by
    have hl' : us.length = 2 := by simpa using hl
    match us, hl' with
    | [_, _], _ => exact BindsTo.of_defaults rfl (KX _ _ z8c) rfl rfl rfl
  have zcu := fund_mk (x := "__init__") (qual := "Cheapest.__init__") (st := s_Cheapest_init) zcd zc9 zdk
  have zd7 : Binds K (PySem.W.fnOf "__init__" "Cheapest.__init__" (defArgs s_Cheapest_init) (defBody s_Cheapest_init) (defScope s_Cheapest_init) (.ref z1a) z29 z1z z23 z20 zy z1v) ["self", "many", "marks"] [] := fun s us KX hl => match us, hl with | [_, _, _], _ => BindsTo.of_defaults rfl (KX _ _ z8l) rfl rfl rfl
  have za1 : Binds K (PySem.W.fnOf "__init__" "Cheapest.__init__" (defArgs s_Cheapest_init) (defBody s_Cheapest_init) (defScope s_Cheapest_init) (.ref z1a) z29 z1z z23 z20 zy z1v) ["self", "many", "marks"] [.none] := fun s us KX hl => by
    have hl' : us.length = 2 := by simpa using hl
    match us, hl' with
    | [_, _], _ => exact BindsTo.of_defaults rfl (KX _ _ z8l) rfl rfl rfl
  have zi3 := fund_mk (x := "__init__") (qual := "Bundle.__init__") (st := s_Bundle_init) ziq zhs zii
  have zh8 : Binds K (PySem.W.fnOf "__init__" "Bundle.__init__" (defArgs s_Bundle_init) (defBody s_Bundle_init) (defScope s_Bundle_init) (.ref z2i) z3c z39 z3d z36 z1s z3a) ["self", "many", "price", "marks"] [] := fun s us KX hl => match us, hl with | [_, _, _, _], _ => BindsTo.of_defaults rfl (KX _ _ z96) rfl rfl rfl
  have zdq : Binds K (PySem.W.fnOf "__init__" "Bundle.__init__" (defArgs s_Bundle_init) (defBody s_Bundle_init) (defScope s_Bundle_init) (.ref z2i) z3c z39 z3d z36 z1s z3a) ["self", "many", "price", "marks"] [.none] := fun s us KX hl => by
    have hl' : us.length = 3 := by simpa using hl
    match us, hl' with
    | [_, _, _], _ => exact BindsTo.of_defaults rfl (KX _ _ z96) rfl rfl rfl
  have zd1 := fund_mk (x := "__init__") (qual := "Carriage.__init__") (st := s_Carriage_init) ze7 zcw zci
  have zdv : Binds K (PySem.W.fnOf "__init__" "Carriage.__init__" (defArgs s_Carriage_init) (defBody s_Carriage_init) (defScope s_Carriage_init) (.ref z1d) z1y z2a z28 z1u zx z22) ["self", "marks"] [] := fun s us KX hl => match us, hl with | [_, _], _ => BindsTo.of_defaults rfl (KX _ _ z8m) rfl rfl rfl
  have z9l : Binds K (PySem.W.fnOf "__init__" "Carriage.__init__" (defArgs s_Carriage_init) (defBody s_Carriage_init) (defScope s_Carriage_init) (.ref z1d) z1y z2a z28 z1u zx z22) ["self", "marks"] [.none] := fun s us KX hl => by
    have hl' : us.length = 1 := by simpa using hl
    match us, hl' with
    | [_], _ => exact BindsTo.of_defaults rfl (KX _ _ z8m) rfl rfl rfl
  have zmk := fund_mk (x := "__init__") (qual := "Line.__init__") (st := s_Line_init) zmd zln zmg
  have zld : Binds K (PySem.W.fnOf "__init__" "Line.__init__" (defArgs s_Line_init) (defBody s_Line_init) (defScope s_Line_init) (.ref z4r) z5b z5c z5g z58 z2z z59) ["self", "kind", "price", "many", "special"] [] := fun s us KX hl => match us, hl with | [_, _, _, _, _], _ => BindsTo.of_defaults rfl (KX _ _ zc6) rfl rfl rfl
  have zgo : Binds K (PySem.W.fnOf "__init__" "Line.__init__" (defArgs s_Line_init) (defBody s_Line_init) (defScope s_Line_init) (.ref z4r) z5b z5c z5g z58 z2z z59) ["self", "kind", "price", "many", "special"] [.none] := fun s us KX hl => by
    have hl' : us.length = 4 := by simpa using hl
    match us, hl' with
    | [_, _, _, _], _ => exact BindsTo.of_defaults rfl (KX _ _ zc6) rfl rfl rfl
  have zh5 := fund_mk (x := "__init__") (qual := "Basket.__init__") (st := s_Basket_init) zgm zhi zi9
  have zgs : Binds K (PySem.W.fnOf "__init__" "Basket.__init__" (defArgs s_Basket_init) (defBody s_Basket_init) (defScope s_Basket_init) (.ref z1e) z1r z1p z1q z1n zw z1m) ["self", "lines", "carriage", "member"] [] := fun s us KX hl => match us, hl with | [_, _, _, _], _ => BindsTo.of_defaults rfl (KX _ _ z7i) rfl rfl rfl
  have zdi : Binds K (PySem.W.fnOf "__init__" "Basket.__init__" (defArgs s_Basket_init) (defBody s_Basket_init) (defScope s_Basket_init) (.ref z1e) z1r z1p z1q z1n zw z1m) ["self", "lines", "carriage", "member"] [.bool false] := fun s us KX hl => by
    have hl' : us.length = 3 := by simpa using hl
    match us, hl' with
    | [_, _, _], _ => exact BindsTo.of_defaults rfl (KX _ _ z7i) rfl rfl rfl
  have zea : Binds K (PySem.W.fnOf "__init__" "Basket.__init__" (defArgs s_Basket_init) (defBody s_Basket_init) (defScope s_Basket_init) (.ref z1e) z1r z1p z1q z1n zw z1m) ["self", "lines", "carriage", "member"] [.int 0 z3x, .bool false] := fun s us KX hl => by
    have hl' : us.length = 2 := by simpa using hl
    match us, hl' with
    | [_, _], _ => exact BindsTo.of_defaults rfl (KX _ _ z7i) rfl rfl rfl
  have zch := fund_mk (x := "__init__") (qual := "Standing.__init__") (st := s_Standing_init) zcn zeb ze4
  have zcz : Binds K (PySem.W.fnOf "__init__" "Standing.__init__" (defArgs s_Standing_init) (defBody s_Standing_init) (defScope s_Standing_init) .none z4u z44 z43 z4p z21 z4q) ["self", "basket"] [] := Binds.all fun us hl => match us, hl with | [_, _], _ => rfl
  have W : Wld K mg ⟨(zba), (PySem.W.fnOf "dealt" "dealt" (defArgs s_dealt) (defBody s_dealt) (defScope s_dealt) .none zcr ze3 zd5 zcv z98 zcs), (zaw), (PySem.W.fnOf "under" "under" (defArgs s_under) (defBody s_under) (defScope s_under) .none zcy zd3 zdh zce z99 zcx), (z26), (PySem.W.fnOf "price_of_piece" "price_of_piece" (defArgs s_price_of_piece) (defBody s_price_of_piece) (defScope s_price_of_piece) .none z3r z3i z3f z3k z1j z3q), (zb6), (PySem.W.fnOf "about" "about" (defArgs s_about) (defBody s_about) (defScope s_about) .none zd8 zcc zd6 ze9 z9a zdz), (zg8), (PySem.W.fnOf "fits" "fits" (defArgs s_fits) (defBody s_fits) (defScope s_fits) .none zhw zhe zhl zim zaz zi5), (zg9), (PySem.W.fnOf "cuts" "cuts" (defArgs s_cuts) (defBody s_cuts) (defScope s_cuts) .none zik zgf zhz zhj zbt zig), (zbp), (PySem.W.fnOf "after" "after" (defArgs s_after) (defBody s_after) (defScope s_after) .none zds zcm ze2 zdd z9b zdu), (z25), (PySem.W.fnOf "cuts_of_pieces" "cuts_of_pieces" (defArgs s_cuts_of_pieces) (defBody s_cuts_of_pieces) (defScope s_cuts_of_pieces) .none z3e z3g z3t z3p z1l z3n), (z1k), (PySem.W.fnOf "cut_of_carriage" "cut_of_carriage" (defArgs s_cut_of_carriage) (defBody s_cut_of_carriage) (defScope s_cut_of_carriage) .none z2v z2w z2x z2t z19 z2u), (z4k), (PySem.W.fnOf "wanted_cuts" "wanted_cuts" (defArgs s_wanted_cuts) (defBody s_wanted_cuts) (defScope s_wanted_cuts) .none z6d z66 z5r z64 z31 z60), (z1w), (PySem.W.fnOf "parted_by_line" "parted_by_line" (defArgs s_parted_by_line) (defBody s_parted_by_line) (defScope s_parted_by_line) .none z3l z3h z3w z3o z1i z3m), (z1x), (PySem.W.fnOf "falling_groups" "falling_groups" (defArgs s_falling_groups) (defBody s_falling_groups) (defScope s_falling_groups) .none z3u z3s z3j z3y zs z3v), (z2s), (PySem.W.fnOf "marked_behind" "marked_behind" (defArgs s_marked_behind) (defBody s_marked_behind) (defScope s_marked_behind) .none z40 z41 z4i z4a z2b z4n), (z6q), (PySem.W.fnOf "prices_of" "prices_of" (defArgs s_prices_of) (defBody s_prices_of) (defScope s_prices_of) .none z85 z8i z8f z86 z5k z84), (z2m), (PySem.W.fnOf "sum_of_prices" "sum_of_prices" (defArgs s_sum_of_prices) (defBody s_sum_of_prices) (defScope s_sum_of_prices) .none z4s z4o z4e z4f z27 z48), (z8p), (PySem.W.fnOf "at_most" "at_most" (defArgs s_at_most) (defBody s_at_most) (defScope s_at_most) .none z93 z92 z91 z97 z82 z94), (z5j), (PySem.W.fnOf "_law_whole" "_law_whole" (defArgs s__law_whole) (defBody s__law_whole) (defScope s__law_whole) .none z76 z6z z74 z7b z49 z7e), (z81), (PySem.W.fnOf "_law_mix" "_law_mix" (defArgs s__law_mix) (defBody s__law_mix) (defScope s__law_mix) .none z8s z8t z8r z8q z6o z8o), (z6l), (PySem.W.fnOf "_law_coin" "_law_coin" (defArgs s__law_coin) (defBody s__law_coin) (defScope s__law_coin) .none z8e z8a z8h z8b z5f z89), (z35), (PySem.W.fnOf "_law_parents" "_law_parents" (defArgs s__law_parents) (defBody s__law_parents) (defScope s__law_parents) .none z51 z4y z57 z4z z2o z53), (z46), (PySem.W.fnOf "_law_basket" "_law_basket" (defArgs s__law_basket) (defBody s__law_basket) (defScope s__law_basket) .none z6a z6i z5u z62 z32 z5y), (z5a), (PySem.W.fnOf "_law_under" "_law_under" (defArgs s__law_under) (defBody s__law_under) (defScope s__law_under) .none z7p z7r z7s z75 z4l z6u), (z5i), (PySem.W.fnOf "_law_about" "_law_about" (defArgs s__law_about) (defBody s__law_about) (defScope s__law_about) .none z72 z7f z79 z78 z4g z7a), (z5d), (PySem.W.fnOf "_law_dealt" "_law_dealt" (defArgs s__law_dealt) (defBody s__law_dealt) (defScope s__law_dealt) .none z7c z7t z6v z6y z4h z7g), (z4v), (PySem.W.fnOf "_law_cut_is" "_law_cut_is" (defArgs s__law_cut_is) (defBody s__law_cut_is) (defScope s__law_cut_is) .none z5w z5z z5p z6e z37 z5x), (z47), (PySem.W.fnOf "_law_spread" "_law_spread" (defArgs s__law_spread) (defBody s__law_spread) (defScope s__law_spread) .none z6b z68 z67 z6g z3b z6c), (z5h), (PySem.W.fnOf "_law_right" "_law_right" (defArgs s__law_right) (defBody s__law_right) (defScope s__law_right) .none z7j z7l z7q z7d z4j z73), (z4x), (PySem.W.fnOf "_law_groups" "_law_groups" (defArgs s__law_groups) (defBody s__law_groups) (defScope s__law_groups) .none z6h z5t z69 z5s z38 z61), (z4c), (PySem.W.fnOf "_law_wanted" "_law_wanted" (defArgs s__law_wanted) (defBody s__law_wanted) (defScope s__law_wanted) .none z5q z6f z63 z5v z34 z65), (z33), (PySem.W.fnOf "_law_sort_by" "_law_sort_by" (defArgs s__law_sort_by) (defBody s__law_sort_by) (defScope s__law_sort_by) .none z54 z52 z56 z50 z2n z55), (z6n), (PySem.W.fnOf "_law_made" "_law_made" (defArgs s__law_made) (defBody s__law_made) (defScope s__law_made) .none z83 z88 z8g z8d z5e z87), (zhh), (PySem.W.fnOf "law" "law" (defArgs s_law) (defBody s_law) (defScope s_law) .none zmj zm2 zl1 zlw zg7 zm8), (zk), (z2y), (PySem.W.fnOf "__init__" "Marks.__init__" (defArgs s_Marks_init) (defBody s_Marks_init) (defScope s_Marks_init) (.ref zl) zn zo zq zp zh zm), (z24), (zf), (zv), (PySem.W.fnOf "__init__" "Voucher.__init__" (defArgs s_Voucher_init) (defBody s_Voucher_init) (defScope s_Voucher_init) (.ref z1o) z2r z2l z2p z2k z1b z2q), (zr), (z5o), (PySem.W.fnOf "__init__" "Off.__init__" (defArgs s_Off_init) (defBody s_Off_init) (defScope s_Off_init) (.ref z5n) z6m z6p z6r z6s z4w z6k), (ze), (z30), (PySem.W.fnOf "__init__" "Share.__init__" (defArgs s_Share_init) (defBody s_Share_init) (defScope s_Share_init) (.ref z1t) z2j z2f z2d z2e z1g z2c), (za), (z1h), (PySem.W.fnOf "__init__" "Cheapest.__init__" (defArgs s_Cheapest_init) (defBody s_Cheapest_init) (defScope s_Cheapest_init) (.ref z1a) z29 z1z z23 z20 zy z1v), (zc), (z2h), (PySem.W.fnOf "__init__" "Bundle.__init__" (defArgs s_Bundle_init) (defBody s_Bundle_init) (defScope s_Bundle_init) (.ref z2i) z3c z39 z3d z36 z1s z3a), (zb), (z1f), (PySem.W.fnOf "__init__" "Carriage.__init__" (defArgs s_Carriage_init) (defBody s_Carriage_init) (defScope s_Carriage_init) (.ref z1d) z1y z2a z28 z1u zx z22), (zu), (z4b), (PySem.W.fnOf "__init__" "Line.__init__" (defArgs s_Line_init) (defBody s_Line_init) (defScope s_Line_init) (.ref z4r) z5b z5c z5g z58 z2z z59), (zj), (z2g), (PySem.W.fnOf "__init__" "Basket.__init__" (defArgs s_Basket_init) (defBody s_Basket_init) (defScope s_Basket_init) (.ref z1e) z1r z1p z1q z1n zw z1m), (z3x), (zd), (z1c), (PySem.W.fnOf "__init__" "Standing.__init__" (defArgs s_Standing_init) (defBody s_Standing_init) (defScope s_Standing_init) .none z4u z44 z43 z4p z21 z4q), (zt), (zi)⟩ := ⟨B, ⟨zpf, zpr, PySem.W.mg_of X G zp4⟩, ⟨zpt, zq4, PySem.W.mg_of X G zpo⟩, ⟨zbw, zbd, PySem.W.mg_of X G zas⟩, ⟨zq3, zpc, PySem.W.mg_of X G zp0⟩, ⟨zql, zqk, PySem.W.mg_of X G zqq⟩, ⟨zqd, zqb, PySem.W.mg_of X G zqh⟩, ⟨zpj, zp9, PySem.W.mg_of X G zpz⟩, ⟨zc0, zat, PySem.W.mg_of X G zbk⟩, ⟨za7, z9o, PySem.W.mg_of X G z9q⟩, ⟨zi8, zir, PySem.W.mg_of X G zgl⟩, ⟨zao, zbg, PySem.W.mg_of X G zbi⟩, ⟨zbf, zbm, PySem.W.mg_of X G zak⟩, ⟨zda, zcl, PySem.W.mg_of X G zdw⟩, ⟨zlh, zle, PySem.W.mg_of X G zku⟩, ⟨zcb, zct, PySem.W.mg_of X G zdl⟩, ⟨znp, znk, PySem.W.mg_of X G znq⟩, ⟨zjl, zjd, PySem.W.mg_of X G zkp⟩, ⟨znb, zn8, PySem.W.mg_of X G zne⟩, ⟨zm1, zlc, PySem.W.mg_of X G zkw⟩, ⟨zf1, zg4, PySem.W.mg_of X G zg5⟩, ⟨zix, zge, PySem.W.mg_of X G zid⟩, ⟨zk0, zje, PySem.W.mg_of X G zk1⟩, ⟨zjs, zko, PySem.W.mg_of X G zjy⟩, ⟨zj4, zk9, PySem.W.mg_of X G zjg⟩, ⟨zgj, zil, PySem.W.mg_of X G zgx⟩, ⟨zgc, zhc, PySem.W.mg_of X G zgw⟩, ⟨zkr, zja, PySem.W.mg_of X G zjj⟩, ⟨zht, zgd, PySem.W.mg_of X G zih⟩, ⟨zgr, zgu, PySem.W.mg_of X G zgg⟩, ⟨zf3, zf0, PySem.W.mg_of X G zfm⟩, ⟨zlz, zl2, PySem.W.mg_of X G zmf⟩, ⟨zqu, zqt, PySem.W.mg_of X G zq5⟩, ⟨⟨zo8, zo5, zoh, zof⟩, PySem.W.mg_of X G zp2, ⟨zoi, inX, itX, zoy⟩, zo9, zom, zoq, zoa⟩, zkq, zit, zk6, zev, zkf, zk8, ⟨zj7, zks, zj5, zk2⟩, zen, zek, zeq, zfx, zg0, zff, ⟨⟨zn6, zmz, zn4, znd⟩, PySem.W.mg_of X G zni, ⟨zn9, inX, itX, zn2⟩, znf, zms, zmw, zn1⟩, ⟨zfg, zey, zfr, zes⟩, zau, PySem.W.mg_of X G zpe, ⟨⟨zqf, zq8, zqa, zqc⟩, PySem.W.mg_of X G zpe, ⟨zqe, inX, itX, zc2⟩, zc1, zar, zq6, zqo⟩, zj1, zlr, ⟨zn7, zn3, zmp, zmx⟩, zj2, PySem.W.mg_of X G zna, ⟨⟨zob, zos, zok, zol⟩, PySem.W.mg_of X G zna, ⟨zow, inX, itX, z8j⟩, z8n, z8k, zo7, zor⟩, ziu, ze1, zi0, ⟨zkk, zj8, zjr, zji⟩, zfs, zei, PySem.W.mg_of X G zec, ⟨⟨zl3, zm9, zll, zlb⟩, PySem.W.mg_of X G zec, ⟨zlp, inX, itX, z42⟩, z45, z4t, zm3, zl4⟩, ze8, zbo, ⟨zd2, zd9, zcu, zd7⟩, za1, PySem.W.mg_of X G zkt, ⟨⟨znm, zo2, znv, znt⟩, PySem.W.mg_of X G zkt, ⟨znw, inX, itX, z7v⟩, z7m, z7u, zns, znn⟩, zhu, zfz, zfo, ⟨zhd, zgv, zi3, zh8⟩, zdq, PySem.W.mg_of X G zee, ⟨⟨zm6, zl0, zlu, zl6⟩, PySem.W.mg_of X G zee, ⟨zlk, inX, itX, z4m⟩, z3z, z4d, zm0, zlx⟩, zbu, ⟨zdt, zdy, zd1, zdv⟩, z9l, ⟨⟨zpi, zpl, zpb, zp8⟩, PySem.W.mg_of X G zq7, ⟨zpx, inX, itX, zpq⟩, zp1, zps, zp6, zoz⟩, zky, zjw, zla, zfn, ⟨zli, zkz, zmk, zld⟩, zgo, ⟨⟨zny, znz, zno, zo3⟩, PySem.W.mg_of X G zoj, ⟨zo4, inX, itX, znr⟩, znj, znu, znh, znx⟩, zfl, za9, ze6, ⟨zhk, zhx, zh5, zgs⟩, zdi, zea, ⟨⟨zmi, zlq, zmm, zmo⟩, PySem.W.mg_of X G zmt, ⟨zm7, inX, itX, zl9⟩, zl8, zlf, zkv, zlg⟩, z9z, z9r, z95, zad, ⟨zdm, zdf, zch, zcz⟩, ⟨ze5, zco, zdn⟩, kit_pair z8y z4m z4d (cls_ne z8y zc1), kit_pair z7z z4m z4d (cls_ne z7z z8n), kit_pair z5m z4m z4d (cls_ne z5m z45), kit_pair z6t z4m z4d (cls_ne z6t z7m), kit_pair zby zc2 zar (cls_ne zby z8n), kit_pair z8x zc2 zar (cls_ne z8x z45), kit_pair z9i zc2 zar (cls_ne z9i z7m), kit_pair z8z zc2 zar (cls_ne z8z z3z), kit_pair zb3 z8j z8k (cls_ne zb3 zc1), kit_pair z7y z8j z8k (cls_ne z7y z45), kit_pair z8v z8j z8k (cls_ne z8v z7m), kit_pair z7x z8j z8k (cls_ne z7x z3z), kit_pair z8w z42 z4t (cls_ne z8w zc1), kit_pair z80 z42 z4t (cls_ne z80 z8n), kit_pair z7n z42 z4t (cls_ne z7n z7m), kit_pair z5l z42 z4t (cls_ne z5l z3z), kit_pair z9h z7v z7u (cls_ne z9h zc1), kit_pair z8u z7v z7u (cls_ne z8u z8n), kit_pair z6x z7v z7u (cls_ne z6x z45), kit_pair z6w z7v z7u (cls_ne z6w z3z), z9n, ⟨_, zg, z7k, z77, z7w, z7h, z70, z7o, z71, z9v, z9s, rfl, zaf, zae, zab, za0, za5, zac, z9w⟩⟩
  exact ⟨_, zi, zt, za8, W.ck_falling_groups, za6, fun s v => .of_eq rfl, fun base _ _ hB => ok_law ⟨W, hB⟩⟩
end Vs
def PySem.W.Fast.tw17875127060335210753 : Nat := 0
def PySem.W.Fast.tw12059099094355664609 : Nat := 0
def PySem.W.Fast.tw10362812229412025281 : Nat := 0
def PySem.W.Fast.tw11347838833533282626 : Nat := 0
def PySem.W.Fast.tw7532862415023449954 : Nat := 0
def PySem.W.Fast.tw10230523808994736611 : Nat := 0
def PySem.W.Fast.tw14688963951500323812 : Nat := 0
def PySem.W.Fast.tw8122153143842993221 : Nat := 0
def PySem.W.Fast.tw12068806508558945829 : Nat := 0
def PySem.W.Fast.tw13334006251317582086 : Nat := 0
def PySem.W.Fast.tw7782852044561435463 : Nat := 0
def PySem.W.Fast.tw2323569001505015116 : Nat := 0
def PySem.W.Fast.tw1512791018401576812 : Nat := 0
def PySem.W.Fast.tw16380416802415220590 : Nat := 0
def PySem.W.Fast.tw249289652181147630 : Nat := 0
def PySem.W.Fast.tw6467424201744373617 : Nat := 0
def PySem.W.Fast.tw4761584251195826546 : Nat := 0
def PySem.W.Fast.tw15631361745652666387 : Nat := 0
def PySem.W.Fast.tw13821499918719371347 : Nat := 0
def PySem.W.Fast.tw3461018919039151190 : Nat := 0
def PySem.W.Fast.tw18026271869419641655 : Nat := 0
def PySem.W.Fast.tw12338465730952164984 : Nat := 0
def PySem.W.Fast.tw4992780256634394041 : Nat := 0
def PySem.W.Fast.tw699191951453823513 : Nat := 0
def PySem.W.Fast.tw11326105792601223675 : Nat := 0
def PySem.W.Fast.tw7375084224482737468 : Nat := 0
def PySem.W.Fast.tw11232968876840352508 : Nat := 0
def PySem.W.Fast.tw8792223657123425981 : Nat := 0
def PySem.W.Fast.tw11048292470515755103 : Nat := 0
def PySem.W.Fast.tw15823998472847341439 : Nat := 0
def PySem.W.Fast.tw8109738771705036082 : Nat := 0
open PySem PySem.W PyProof.Rows
set_option maxRecDepth 100000 in
set_option maxHeartbeats 0 in
theorem PySem.Challenge.cw_voucherstack_k15_carriage_and_most_holds : PySem.Challenge.rw_voucherstack_k15_carriage_and_most.Holds := by
  w_on; o_law; k_head; (case hw => w_witness2)
  k_fill
  refine L2.walkT_of (l := PySem.Challenge.rw_voucherstack_k15_carriage_and_most) (k := 7) (x := "_law_script") rfl rfl ⟨rfl, by decide, by decide⟩ (fun w h Y => PySem.W.km_in_of Y) (fun w h Y => PySem.W.km_tabs_of Y) ?F
  case F =>
    intro w mg fa h KX G hmg
    refine' Vs.all_mk KX G hmg ?adealt ?ldealt ?cdealt ?kdealt ?aunder ?lunder ?cunder ?kunder ?aprice_of_piece ?lprice_of_piece ?cprice_of_piece ?kprice_of_piece ?aabout ?labout ?cabout ?kabout ?afits ?lfits ?cfits ?kfits ?acuts ?lcuts ?ccuts ?kcuts ?aafter ?lafter ?cafter ?kafter ?acuts_of_pieces ?lcuts_of_pieces ?ccuts_of_pieces ?kcuts_of_pieces ?acut_of_carriage ?lcut_of_carriage ?ccut_of_carriage ?kcut_of_carriage ?awanted_cuts ?lwanted_cuts ?cwanted_cuts ?kwanted_cuts ?aparted_by_line ?lparted_by_line ?cparted_by_line ?kparted_by_line ?afalling_groups ?lfalling_groups ?cfalling_groups ?kfalling_groups ?amarked_behind ?lmarked_behind ?cmarked_behind ?kmarked_behind ?aprices_of ?lprices_of ?cprices_of ?kprices_of ?asum_of_prices ?lsum_of_prices ?csum_of_prices ?ksum_of_prices ?aat_most ?lat_most ?cat_most ?kat_most ?a_law_whole ?l_law_whole ?c_law_whole ?k_law_whole ?a_law_mix ?l_law_mix ?c_law_mix ?k_law_mix ?a_law_coin ?l_law_coin ?c_law_coin ?k_law_coin ?a_law_parents ?l_law_parents ?c_law_parents ?k_law_parents ?a_law_basket ?l_law_basket ?c_law_basket ?k_law_basket ?a_law_under ?l_law_under ?c_law_under ?k_law_under ?a_law_about ?l_law_about ?c_law_about ?k_law_about ?a_law_dealt ?l_law_dealt ?c_law_dealt ?k_law_dealt ?a_law_cut_is ?l_law_cut_is ?c_law_cut_is ?k_law_cut_is ?a_law_spread ?l_law_spread ?c_law_spread ?k_law_spread ?a_law_right ?l_law_right ?c_law_right ?k_law_right ?a_law_groups ?l_law_groups ?c_law_groups ?k_law_groups ?a_law_wanted ?l_law_wanted ?c_law_wanted ?k_law_wanted ?a_law_sort_by ?l_law_sort_by ?c_law_sort_by ?k_law_sort_by ?a_law_made ?l_law_made ?c_law_made ?k_law_made ?alaw ?llaw ?claw ?klaw ?aMarks ?imMarks ?isMarks ?iyMarks ?inX ?itX ?pgMarks ?hdMarks ?poMarks ?saMarks ?mkMarks ?kcMarks ?iaMarks ?nMarks_kind ?nMarks_needs ?nMarks_most ?nMarks_member ?nMarks_once ?nMarks_lone ?hMarks_init ?iMarks_init ?lMarks_init ?cMarks_init ?kMarks_init ?tMarks_init ?aVoucher ?imVoucher ?isVoucher ?iyVoucher ?pgVoucher ?hdVoucher ?poVoucher ?saVoucher ?mkVoucher ?kcVoucher ?iaVoucher ?hVoucher_init ?iVoucher_init ?lVoucher_init ?cVoucher_init ?kVoucher_init ?tVoucher_init ?aOff ?imOff ?isOff ?iyOff ?pgOff ?hdOff ?poOff ?saOff ?mkOff ?kcOff ?iaOff ?nOff_amount ?nOff_marks ?hOff_init ?iOff_init ?lOff_init ?cOff_init ?kOff_init ?tOff_init ?aShare ?imShare ?isShare ?iyShare ?pgShare ?hdShare ?poShare ?saShare ?mkShare ?kcShare ?iaShare ?nShare_share ?nShare_by_line ?nShare_marks ?hShare_init ?iShare_init ?lShare_init ?cShare_init ?kShare_init ?tShare_init ?aCheapest ?imCheapest ?isCheapest ?iyCheapest ?pgCheapest ?hdCheapest ?poCheapest ?saCheapest ?mkCheapest ?kcCheapest ?iaCheapest ?nCheapest_many ?nCheapest_marks ?hCheapest_init ?iCheapest_init ?lCheapest_init ?cCheapest_init ?kCheapest_init ?tCheapest_init ?aBundle ?imBundle ?isBundle ?iyBundle ?pgBundle ?hdBundle ?poBundle ?saBundle ?mkBundle ?kcBundle ?iaBundle ?nBundle_many ?nBundle_price ?nBundle_marks ?hBundle_init ?iBundle_init ?lBundle_init ?cBundle_init ?kBundle_init ?tBundle_init ?aCarriage ?imCarriage ?isCarriage ?iyCarriage ?pgCarriage ?hdCarriage ?poCarriage ?saCarriage ?mkCarriage ?kcCarriage ?iaCarriage ?nCarriage_marks ?hCarriage_init ?iCarriage_init ?lCarriage_init ?cCarriage_init ?kCarriage_init ?tCarriage_init ?aLine ?imLine ?isLine ?iyLine ?pgLine ?hdLine ?poLine ?saLine ?mkLine ?kcLine ?iaLine ?nLine_kind ?nLine_price ?nLine_many ?nLine_special ?hLine_init ?iLine_init ?lLine_init ?cLine_init ?kLine_init ?tLine_init ?aBasket ?imBasket ?isBasket ?iyBasket ?pgBasket ?hdBasket ?poBasket ?saBasket ?mkBasket ?kcBasket ?iaBasket ?nBasket_lines ?nBasket_carriage ?nBasket_member ?hBasket_init ?iBasket_init ?lBasket_init ?cBasket_init ?kBasket_init ?tBasket_init ?aStanding ?imStanding ?isStanding ?iyStanding ?pgStanding ?hdStanding ?poStanding ?saStanding ?mkStanding ?kcStanding ?iaStanding ?nStanding_owners ?nStanding_prices ?nStanding_carriage ?nStanding_marked ?hStanding_init ?iStanding_init ?lStanding_init ?cStanding_init ?kStanding_init ?rdVoucher_init ?gaVoucher_init ?fcVoucher_init ?qOff_Carriage ?qShare_Carriage ?qCheapest_Carriage ?qBundle_Carriage ?qShare_Off ?qCheapest_Off ?qBundle_Off ?qCarriage_Off ?qOff_Share ?qCheapest_Share ?qBundle_Share ?qCarriage_Share ?qOff_Cheapest ?qShare_Cheapest ?qBundle_Cheapest ?qCarriage_Cheapest ?qOff_Bundle ?qShare_Bundle ?qCheapest_Bundle ?qCarriage_Bundle ?qafalling_groups ?qbfalling_groups ?qcfalling_groups ?qdfalling_groups ?qefalling_groups ?qffalling_groups ?qgfalling_groups ?qhfalling_groups ?qifalling_groups ?qjfalling_groups ?qkfalling_groups ?qlfalling_groups ?z1 ?z2 ?z3 ?z4 ?z5 ?z6 ?z7 ?z8 ?z9 ?z10 ?z11 ?z12 ?z13 ?z14 ?z15 ?z16 ?z17 ?z18
    (case adealt => k_is)
    (case ldealt => k_is)
    (case cdealt => k_is)
    (case kdealt => k_is)
    (case aunder => k_is)
    (case lunder => k_is)
    (case cunder => k_is)
    (case kunder => k_is)
    (case aprice_of_piece => k_is)
    (case lprice_of_piece => k_is)
    (case cprice_of_piece => k_is)
    (case kprice_of_piece => k_is)
    (case aabout => k_is)
    (case labout => k_is)
    (case cabout => k_is)
    (case kabout => k_is)
    (case afits => k_is)
    (case lfits => k_is)
    (case cfits => k_is)
    (case kfits => k_is)
    (case acuts => k_is)
    (case lcuts => k_is)
    (case ccuts => k_is)
    (case kcuts => k_is)
    (case aafter => k_is)
    (case lafter => k_is)
    (case cafter => k_is)
    (case kafter => k_is)
    (case acuts_of_pieces => k_is)
    (case lcuts_of_pieces => k_is)
    (case ccuts_of_pieces => k_is)
    (case kcuts_of_pieces => k_is)
    (case acut_of_carriage => k_is)
    (case lcut_of_carriage => k_is)
    (case ccut_of_carriage => k_is)
    (case kcut_of_carriage => k_is)
    (case awanted_cuts => k_is)
    (case lwanted_cuts => k_is)
    (case cwanted_cuts => k_is)
    (case kwanted_cuts => k_is)
    (case aparted_by_line => k_is)
    (case lparted_by_line => k_is)
    (case cparted_by_line => k_is)
    (case kparted_by_line => k_is)
    (case afalling_groups => k_is)
    (case lfalling_groups => k_is)
    (case cfalling_groups => k_is)
    (case kfalling_groups => k_is)
    (case amarked_behind => k_is)
    (case lmarked_behind => k_is)
    (case cmarked_behind => k_is)
    (case kmarked_behind => k_is)
    (case aprices_of => k_is)
    (case lprices_of => k_is)
    (case cprices_of => k_is)
    (case kprices_of => k_is)
    (case asum_of_prices => k_is)
    (case lsum_of_prices => k_is)
    (case csum_of_prices => k_is)
    (case ksum_of_prices => k_is)
    (case aat_most => k_is)
    (case lat_most => k_is)
    (case cat_most => k_is)
    (case kat_most => k_is)
    (case a_law_whole => k_is)
    (case l_law_whole => k_is)
    (case c_law_whole => k_is)
    (case k_law_whole => k_is)
    (case a_law_mix => k_is)
    (case l_law_mix => k_is)
    (case c_law_mix => k_is)
    (case k_law_mix => k_is)
    (case a_law_coin => k_is)
    (case l_law_coin => k_is)
    (case c_law_coin => k_is)
    (case k_law_coin => k_is)
    (case a_law_parents => k_is)
    (case l_law_parents => k_is)
    (case c_law_parents => k_is)
    (case k_law_parents => k_is)
    (case a_law_basket => k_is)
    (case l_law_basket => k_is)
    (case c_law_basket => k_is)
    (case k_law_basket => k_is)
    (case a_law_under => k_is)
    (case l_law_under => k_is)
    (case c_law_under => k_is)
    (case k_law_under => k_is)
    (case a_law_about => k_is)
    (case l_law_about => k_is)
    (case c_law_about => k_is)
    (case k_law_about => k_is)
    (case a_law_dealt => k_is)
    (case l_law_dealt => k_is)
    (case c_law_dealt => k_is)
    (case k_law_dealt => k_is)
    (case a_law_cut_is => k_is)
    (case l_law_cut_is => k_is)
    (case c_law_cut_is => k_is)
    (case k_law_cut_is => k_is)
    (case a_law_spread => k_is)
    (case l_law_spread => k_is)
    (case c_law_spread => k_is)
    (case k_law_spread => k_is)
    (case a_law_right => k_is)
    (case l_law_right => k_is)
    (case c_law_right => k_is)
    (case k_law_right => k_is)
    (case a_law_groups => k_is)
    (case l_law_groups => k_is)
    (case c_law_groups => k_is)
    (case k_law_groups => k_is)
    (case a_law_wanted => k_is)
    (case l_law_wanted => k_is)
    (case c_law_wanted => k_is)
    (case k_law_wanted => k_is)
    (case a_law_sort_by => k_is)
    (case l_law_sort_by => k_is)
    (case c_law_sort_by => k_is)
    (case k_law_sort_by => k_is)
    (case a_law_made => k_is)
    (case l_law_made => k_is)
    (case c_law_made => k_is)
    (case k_law_made => k_is)
    (case alaw => k_is)
    (case llaw => k_is)
    (case claw => k_is)
    (case klaw => k_is)
    (case aMarks => k_is)
    (case imMarks => k_is)
    (case isMarks => k_is)
    (case iyMarks => k_is)
    (case inX => k_is)
    (case itX => k_is)
    (case pgMarks => k_is)
    (case hdMarks => k_is)
    (case poMarks => k_is)
    (case saMarks => k_is)
    (case mkMarks => k_is)
    (case kcMarks => k_is)
    (case iaMarks => k_is)
    (case nMarks_kind => k_is)
    (case nMarks_needs => k_is)
    (case nMarks_most => k_is)
    (case nMarks_member => k_is)
    (case nMarks_once => k_is)
    (case nMarks_lone => k_is)
    (case hMarks_init => k_is)
    (case iMarks_init => k_is)
    (case lMarks_init => k_is)
    (case cMarks_init => k_is)
    (case kMarks_init => k_is)
    (case tMarks_init => k_is)
    (case aVoucher => k_is)
    (case imVoucher => k_is)
    (case isVoucher => k_is)
    (case iyVoucher => k_is)
    (case pgVoucher => k_is)
    (case hdVoucher => k_is)
    (case poVoucher => k_is)
    (case saVoucher => k_is)
    (case mkVoucher => k_is)
    (case kcVoucher => k_is)
    (case iaVoucher => k_is)
    (case hVoucher_init => k_is)
    (case iVoucher_init => k_is)
    (case lVoucher_init => k_is)
    (case cVoucher_init => k_is)
    (case kVoucher_init => k_is)
    (case tVoucher_init => k_is)
    (case aOff => k_is)
    (case imOff => k_is)
    (case isOff => k_is)
    (case iyOff => k_is)
    (case pgOff => k_is)
    (case hdOff => k_is)
    (case poOff => k_is)
    (case saOff => k_is)
    (case mkOff => k_is)
    (case kcOff => k_is)
    (case iaOff => k_is)
    (case nOff_amount => k_is)
    (case nOff_marks => k_is)
    (case hOff_init => k_is)
    (case iOff_init => k_is)
    (case lOff_init => k_is)
    (case cOff_init => k_is)
    (case kOff_init => k_is)
    (case tOff_init => k_is)
    (case aShare => k_is)
    (case imShare => k_is)
    (case isShare => k_is)
    (case iyShare => k_is)
    (case pgShare => k_is)
    (case hdShare => k_is)
    (case poShare => k_is)
    (case saShare => k_is)
    (case mkShare => k_is)
    (case kcShare => k_is)
    (case iaShare => k_is)
    (case nShare_share => k_is)
    (case nShare_by_line => k_is)
    (case nShare_marks => k_is)
    (case hShare_init => k_is)
    (case iShare_init => k_is)
    (case lShare_init => k_is)
    (case cShare_init => k_is)
    (case kShare_init => k_is)
    (case tShare_init => k_is)
    (case aCheapest => k_is)
    (case imCheapest => k_is)
    (case isCheapest => k_is)
    (case iyCheapest => k_is)
    (case pgCheapest => k_is)
    (case hdCheapest => k_is)
    (case poCheapest => k_is)
    (case saCheapest => k_is)
    (case mkCheapest => k_is)
    (case kcCheapest => k_is)
    (case iaCheapest => k_is)
    (case nCheapest_many => k_is)
    (case nCheapest_marks => k_is)
    (case hCheapest_init => k_is)
    (case iCheapest_init => k_is)
    (case lCheapest_init => k_is)
    (case cCheapest_init => k_is)
    (case kCheapest_init => k_is)
    (case tCheapest_init => k_is)
    (case aBundle => k_is)
    (case imBundle => k_is)
    (case isBundle => k_is)
    (case iyBundle => k_is)
    (case pgBundle => k_is)
    (case hdBundle => k_is)
    (case poBundle => k_is)
    (case saBundle => k_is)
    (case mkBundle => k_is)
    (case kcBundle => k_is)
    (case iaBundle => k_is)
    (case nBundle_many => k_is)
    (case nBundle_price => k_is)
    (case nBundle_marks => k_is)
    (case hBundle_init => k_is)
    (case iBundle_init => k_is)
    (case lBundle_init => k_is)
    (case cBundle_init => k_is)
    (case kBundle_init => k_is)
    (case tBundle_init => k_is)
    (case aCarriage => k_is)
    (case imCarriage => k_is)
    (case isCarriage => k_is)
    (case iyCarriage => k_is)
    (case pgCarriage => k_is)
    (case hdCarriage => k_is)
    (case poCarriage => k_is)
    (case saCarriage => k_is)
    (case mkCarriage => k_is)
    (case kcCarriage => k_is)
    (case iaCarriage => k_is)
    (case nCarriage_marks => k_is)
    (case hCarriage_init => k_is)
    (case iCarriage_init => k_is)
    (case lCarriage_init => k_is)
    (case cCarriage_init => k_is)
    (case kCarriage_init => k_is)
    (case tCarriage_init => k_is)
    (case aLine => k_is)
    (case imLine => k_is)
    (case isLine => k_is)
    (case iyLine => k_is)
    (case pgLine => k_is)
    (case hdLine => k_is)
    (case poLine => k_is)
    (case saLine => k_is)
    (case mkLine => k_is)
    (case kcLine => k_is)
    (case iaLine => k_is)
    (case nLine_kind => k_is)
    (case nLine_price => k_is)
    (case nLine_many => k_is)
    (case nLine_special => k_is)
    (case hLine_init => k_is)
    (case iLine_init => k_is)
    (case lLine_init => k_is)
    (case cLine_init => k_is)
    (case kLine_init => k_is)
    (case tLine_init => k_is)
    (case aBasket => k_is)
    (case imBasket => k_is)
    (case isBasket => k_is)
    (case iyBasket => k_is)
    (case pgBasket => k_is)
    (case hdBasket => k_is)
    (case poBasket => k_is)
    (case saBasket => k_is)
    (case mkBasket => k_is)
    (case kcBasket => k_is)
    (case iaBasket => k_is)
    (case nBasket_lines => k_is)
    (case nBasket_carriage => k_is)
    (case nBasket_member => k_is)
    (case hBasket_init => k_is)
    (case iBasket_init => k_is)
    (case lBasket_init => k_is)
    (case cBasket_init => k_is)
    (case kBasket_init => k_is)
    (case tBasket_init => k_is)
    (case aStanding => k_is)
    (case imStanding => k_is)
    (case isStanding => k_is)
    (case iyStanding => k_is)
    (case pgStanding => k_is)
    (case hdStanding => k_is)
    (case poStanding => k_is)
    (case saStanding => k_is)
    (case mkStanding => k_is)
    (case kcStanding => k_is)
    (case iaStanding => k_is)
    (case nStanding_owners => k_is)
    (case nStanding_prices => k_is)
    (case nStanding_carriage => k_is)
    (case nStanding_marked => k_is)
    (case hStanding_init => k_is)
    (case iStanding_init => k_is)
    (case lStanding_init => k_is)
    (case cStanding_init => k_is)
    (case kStanding_init => k_is)
    (case rdVoucher_init => k_is)
    (case gaVoucher_init => k_is)
    (case fcVoucher_init => k_is)
    (case qOff_Carriage => k_is)
    (case qShare_Carriage => k_is)
    (case qCheapest_Carriage => k_is)
    (case qBundle_Carriage => k_is)
    (case qShare_Off => k_is)
    (case qCheapest_Off => k_is)
    (case qBundle_Off => k_is)
    (case qCarriage_Off => k_is)
    (case qOff_Share => k_is)
    (case qCheapest_Share => k_is)
    (case qBundle_Share => k_is)
    (case qCarriage_Share => k_is)
    (case qOff_Cheapest => k_is)
    (case qShare_Cheapest => k_is)
    (case qBundle_Cheapest => k_is)
    (case qCarriage_Cheapest => k_is)
    (case qOff_Bundle => k_is)
    (case qShare_Bundle => k_is)
    (case qCheapest_Bundle => k_is)
    (case qCarriage_Bundle => k_is)
    (case qafalling_groups => first | rfl | decide | k_is)
    (case qbfalling_groups => k_is)
    (case qcfalling_groups => first | rfl | decide | k_is)
    (case qdfalling_groups => first | rfl | decide | k_is)
    (case qefalling_groups => first | rfl | decide | k_is)
    (case qffalling_groups => first | rfl | decide | k_is)
    (case qgfalling_groups => first | rfl | decide | k_is)
    (case qhfalling_groups => first | rfl | decide | k_is)
    (case qifalling_groups => first | rfl | decide | k_is)
    (case qjfalling_groups => first | rfl | decide | k_is)
    (case qkfalling_groups => first | k_is | rfl | decide | decide +kernel)
    (case qlfalling_groups => decide)
    (case z1 => k_is)
    (case z2 => k_is)
    (case z3 => k_is)
    (case z4 => k_is)
    (case z5 => k_is)
    (case z6 => k_is)
    (case z7 => k_is)
    (case z8 => k_is)
    (case z9 => k_is)
    (case z10 => k_is)
    (case z11 => k_is)
    (case z12 => k_is)
    (case z13 => k_is)
    (case z14 => k_is)
    (case z15 => k_is)
    (case z16 => k_is)
    (case z17 => k_is)
    (case z18 => k_is)
